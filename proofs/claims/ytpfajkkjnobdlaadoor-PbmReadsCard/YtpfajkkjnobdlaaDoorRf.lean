/- The reader of a pbm file: the file, 'Read'. -/
import Derived.Test.YtpfajkkjnobdlaaDoorRd
import Derived.Test.YtpfajkkjnobdlaaDoorRe
namespace Go.Proofs.YtpfajkkjnobdlaaDoor
set_option maxRecDepth 100000
open Go.RowKit

def mk (txt : Bool) : ByteArray := if txt then { data := #[80, 49] } else { data := #[80, 52] }
theorem readS_bad {l : List Nat} (h1 : ∀ r, l ≠ 80 :: 49 :: r) (h2 : ∀ r, l ≠ 80 :: 52 :: r) : readS l = .error 30 := by
  unfold readS
  split
  · rename_i r; exact absurd rfl (h1 r)
  · rename_i r; exact absurd rfl (h2 r)
  · rfl
theorem mark_j (bs : Nat) (ao : Option Addr) (cap : Nat) (l : List Nat) (w : World) (h : SR w bs ao cap l 0) (hcap : l.length ≤ cap) :
    Calls Tryd.prog 44 #[.pointer (some ⟨bs, 0, none⟩)] w fun e w' => Fr (fun k => k = bs) w w' ∧ ((∃ txt, readS l = bodyS txt (l.drop 2) ∧ e = .returned (.string (mk txt)) ∧ SR w' bs ao cap l 2) ∨ (readS l = .error 30 ∧ e = .panicked [{ v := .iface 28 (.int .i64 30), recovered := false }])) := by
  refine (mark_any bs ao cap l w h hcap).mono ?_
  rintro e w' ⟨hf, ⟨r, hr, he, hs⟩ | ⟨r, hr, he, hs⟩ | ⟨h1, h2, he⟩⟩
  · exact ⟨hf, Or.inl ⟨true, by rw [hr]; rfl, he, hs⟩⟩
  · exact ⟨hf, Or.inl ⟨false, by rw [hr]; rfl, he, hs⟩⟩
  · exact ⟨hf, Or.inr ⟨readS_bad h1 h2, he⟩⟩
theorem number_j (bs : Nat) (ao : Option Addr) (cap : Nat) (l : List Nat) (a : Nat) (w : World) (h : SR w bs ao cap l a) :
    Calls Tryd.prog 45 #[.pointer (some ⟨bs, 0, none⟩)] w fun e w' => Fr (fun k => k = bs) w w' ∧ ((∃ N a', numberS (l.drop a) = some (N, l.drop a') ∧ N ≤ 2147483648 ∧ e = .returned (.int .i64 (N : Int)) ∧ SR w' bs ao cap l a') ∨ (numberS (l.drop a) = none ∧ e = .panicked [{ v := .iface 28 (.int .i64 30), recovered := false }])) := by
  rcases hn : numberS (l.drop a) with _ | ⟨N, r⟩
  · refine (number_no bs ao cap l a w h hn).mono ?_
    rintro e w' ⟨rfl, hf⟩
    exact ⟨hf, Or.inr ⟨rfl, rfl⟩⟩
  · refine (number_ok bs ao cap l a w h N r hn).mono ?_
    rintro e w' ⟨rfl, a', hs, hd, hf⟩
    refine ⟨hf, Or.inl ⟨N, a', by rw [hd], ?_, rfl, hs⟩⟩
    unfold numberS at hn
    split at hn
    · cases hn
    · split at hn
      · simp only [Option.some.injEq] at hn
        have := numS_lt 0 (gapS false (l.drop a)) (by omega)
        rw [hn] at this; exact this
      · cases hn

/-- A bitmap that was made: its words' row is new. -/
def BmpR (w : World) (W H : Nat) (P : Nat → Nat → Bool) (v : Value) (w' : World) : Prop := ∃ g cap, v = .agg #[.int .i64 (W : Int), .int .i64 (H : Int), .slice (some ⟨g, 0, none⟩) (H * stride W) cap] ∧ w'.ownsRow 0 50 1 (.slice (some ⟨g, 0, none⟩) (H * stride W) cap) (H * stride W) (wordCells (render W H P)) ∧ w.heap.size ≤ g ∧ 1 ≤ W ∧ 1 ≤ H ∧ W * H ≤ 1048576
def FileQ (w : World) (R : Except Nat Bmp) (e : Ending) (w' : World) : Prop :=
  match R with
  | .error er => e = .panicked [{ v := .iface 28 (.int .i64 (er : Int)), recovered := false }]
  | .ok x => ∃ v, e = .returned v ∧ BmpR w x.1 x.2.1 x.2.2 v w'

theorem digits_q {W H b g cp : Nat} {R : Except Nat (List Bool × List Nat)} {e : Ending} {w' : World} (h : DigQ W H b g cp R e w') :
    (∃ er : Nat, e = .panicked [{ v := .iface 28 (.int .i64 (er : Int)), recovered := false }] ∧ (match R with | .error e => (.error e : Except Nat Bmp) | .ok (a, r) => if gapS false r = [] then .ok (W, H, plcT W a) else .error 33) = .error er) ∨
    (∃ P, e = .returned (.tuple #[]) ∧ MapAt w' b g cp W H P ∧ (match R with | .error e => (.error e : Except Nat Bmp) | .ok (a, r) => if gapS false r = [] then .ok (W, H, plcT W a) else .error 33) = .ok (W, H, P)) := by
  rcases R with er | ⟨a, r⟩
  · exact Or.inl ⟨er, h, rfl⟩
  · simp only [DigQ] at h
    by_cases hg : gapS false r = []
    · rw [if_pos hg] at h
      exact Or.inr ⟨_, h.1, h.2, by simp [hg]⟩
    · rw [if_neg hg] at h
      exact Or.inl ⟨33, h, by simp [hg]⟩
theorem body_j (txt : Bool) (bs b g cp W H : Nat) (ao : Option Addr) (cap : Nat) (l : List Nat) (a : Nat) (w : World) (h : SR w bs ao cap l a) (hm : MapAt w b g cp W H (fun _ _ => false))
    (hx : bs ≠ b ∧ bs ≠ g ∧ b ≠ g) (hy : l ≠ [] → ∀ k off, ao = some ⟨k, off, none⟩ → k ≠ b ∧ k ≠ g) :
    Calls Tryd.prog (if txt then 48 else 47) #[.pointer (some ⟨bs, 0, none⟩), .pointer (some ⟨b, 0, none⟩)] w fun e w' => Fr (fun k => k = bs ∨ k = g) w w' ∧
      ((∃ er : Nat, e = .panicked [{ v := .iface 28 (.int .i64 (er : Int)), recovered := false }] ∧ (if txt then digitsS W H (l.drop a) else rowsS W H (l.drop a)) = .error er) ∨
       (∃ P, e = .returned (.tuple #[]) ∧ MapAt w' b g cp W H P ∧ (if txt then digitsS W H (l.drop a) else rowsS W H (l.drop a)) = .ok (W, H, P))) := by
  cases txt
  · refine (rows_any bs b g cp W H ao cap l a w h hm hx hy).mono ?_
    rintro e w' ⟨hf, hq⟩
    refine ⟨hf, ?_⟩
    simp only [Bool.false_eq_true, if_false]
    rcases hR : rowsS W H (l.drop a) with er | x
    · rw [hR] at hq; exact Or.inl ⟨er, hq, rfl⟩
    · rw [hR] at hq
      have hwh : x.1 = W ∧ x.2.1 = H := by
        unfold rowsS at hR
        split at hR
        · cases hR
        · split at hR
          · split at hR
            · cases hR
            · split at hR
              · cases hR
              · simp only [Except.ok.injEq] at hR; subst hR; exact ⟨rfl, rfl⟩
          · cases hR
      obtain ⟨x1, x2, x3⟩ := x
      obtain ⟨rfl, rfl⟩ := hwh
      exact Or.inr ⟨x3, hq.1, hq.2, rfl⟩
  · refine (digits_any bs b g cp W H ao cap l a w h hm hx hy).mono ?_
    rintro e w' ⟨hf, hq⟩
    refine ⟨hf, ?_⟩
    simp only [if_true]
    exact digits_q hq

set_option maxHeartbeats 4000000 in
theorem file_any (bs : Nat) (ao : Option Addr) (cap : Nat) (l : List Nat) (w : World) (h : SR w bs ao cap l 0) (hcap : l.length ≤ cap) :
    Calls Tryd.prog 29 #[.pointer (some ⟨bs, 0, none⟩)] w fun e w' => Fr (fun k => k = bs) w w' ∧ FileQ w (readS l) e w' := by
  obtain ⟨R, hR⟩ : ∃ R, R = readS l := ⟨_, rfl⟩
  rw [← hR]
  have HR : Hid (R = readS l) := hR
  have HS : Hid (SR w bs ao cap l 0) := h
  have HC : Hid (l.length ≤ cap) := hcap
  clear h hcap hR
  have HF1 : Hid (Fr (fun k => k = bs) w (w.alloc (.cells #[.int .i64 0, .int .i64 0, .slice none 0 0] 25))) := (Fr.refl _ w).alloc _
  have HS1 : Hid (SR (w.alloc (.cells #[.int .i64 0, .int .i64 0, .slice none 0 0] 25)) bs ao cap l 0) := HS.out.kept ((Fr.refl (fun _ => False) w).alloc _) (fun h => h) (fun _ _ _ _ h => h)
  have HB1 : Hid ((w.alloc (.cells #[.int .i64 0, .int .i64 0, .slice none 0 0] 25)).heap[w.heap.size]? = some (.cells #[.int .i64 0, .int .i64 0, .slice none 0 0] 25 (0, 0))) := heap_alloc_new _ _
  go_enter Tryd.func29, Tryd.ntmps29
  go_wp2_with fail
  generalize (w.alloc (.cells #[.int .i64 0, .int .i64 0, .slice none 0 0] 25)) = w1 at *
  have HBS : Hid (bs < w.heap.size) := HS.out.lt
  refine (mark_j bs ao cap l w1 HS1.out HC.out).mono ?_
  rintro e w2 ⟨hf2, ⟨txt, hb, rfl, hs2⟩ | ⟨hb, rfl⟩⟩
  rotate_left
  · exact ⟨rfl, HF1.out.trans hf2 (fun _ _ h => h), by rw [HR.out, hb]; rfl⟩
  · have HF2 : Hid (Fr (fun k => k = bs) w w2) := HF1.out.trans hf2 (fun _ _ h => h)
    have HS2 : Hid (SR w2 bs ao cap l 2) := hs2
    have HB2 : Hid (w2.heap[w.heap.size]? = some (.cells #[.int .i64 0, .int .i64 0, .slice none 0 0] 25 (0, 0))) := by show _ = _; rw [hf2.block _ (lt_of_block HB1.out) (by have := HBS.out; omega)]; exact HB1.out
    have HR2 : Hid (R = bodyS txt (l.drop 2)) := by rw [HR.out]; exact hb
    clear hf2 hs2 hb HF1 HS1 HB1
    go_wp2_with fail
    refine (number_j bs ao cap l 2 w2 HS2.out).mono ?_
    rintro e w3 ⟨hf3, ⟨W, a3, hn3, hW, rfl, hs3⟩ | ⟨hn3, rfl⟩⟩
    rotate_left
    · exact ⟨rfl, HF2.out.trans hf3 (fun _ _ h => h), by rw [HR2.out]; unfold bodyS; rw [hn3]; rfl⟩
    · have HF3 : Hid (Fr (fun k => k = bs) w w3) := HF2.out.trans hf3 (fun _ _ h => h)
      have HS3 : Hid (SR w3 bs ao cap l a3) := hs3
      have HB3 : Hid (w3.heap[w.heap.size]? = some (.cells #[.int .i64 0, .int .i64 0, .slice none 0 0] 25 (0, 0))) := by show _ = _; rw [hf3.block _ (lt_of_block HB2.out) (by have := HBS.out; omega)]; exact HB2.out
      have HN3 : Hid (numberS (l.drop 2) = some (W, l.drop a3)) := hn3
      clear hf3 hs3 hn3 HF2 HS2 HB2
      go_wp2_with fail
      refine (number_j bs ao cap l a3 w3 HS3.out).mono ?_
      rintro e w4 ⟨hf4, ⟨H, a4, hn4, hH, rfl, hs4⟩ | ⟨hn4, rfl⟩⟩
      rotate_left
      · exact ⟨rfl, HF3.out.trans hf4 (fun _ _ h => h), by rw [HR2.out]; unfold bodyS; rw [HN3.out]; show FileQ w (match numberS (l.drop a3) with | none => _ | some (H, s) => _) _ _; rw [hn4]; rfl⟩
      · have HF4 : Hid (Fr (fun k => k = bs) w w4) := HF3.out.trans hf4 (fun _ _ h => h)
        have HS4 : Hid (SR w4 bs ao cap l a4) := hs4
        have HB4 : Hid (w4.heap[w.heap.size]? = some (.cells #[.int .i64 0, .int .i64 0, .slice none 0 0] 25 (0, 0))) := by show _ = _; rw [hf4.block _ (lt_of_block HB3.out) (by have := HBS.out; omega)]; exact HB3.out
        have HR4 : Hid (R = if sizeS W H then (if txt then digitsS W H (l.drop a4) else rowsS W H (l.drop a4)) else .error 31) := by
          rw [HR2.out]; unfold bodyS; rw [HN3.out]; show (match numberS (l.drop a3) with | none => _ | some (H, s) => _) = _; rw [hn4]
        clear hf4 hs4 hn4 HF3 HS3 HB3 HN3 HR2
        go_wp2_with fail
        cases hsz : sizeS W H
        · have hno : sizeOK (W : Int) (H : Int) = false := by
            unfold sizeOK
            refine decide_eq_false (fun k => ?_)
            have : sizeS W H = true := sizeS_iff.2 ⟨by omega, by omega, by have := k.2.2; rw [← Int.natCast_mul] at this; omega⟩
            rw [hsz] at this; cases this
          have HE : Hid (R = .error 31) := by rw [HR4.out, hsz]; rfl
          refine (new_no (W : Int) (H : Int) w4 (by omega) (by omega) hno).mono ?_
          rintro e w5 ⟨rfl, hv⟩
          rw [hv]
          clear hv hno hsz
          go_wp2_with fail
          exact ⟨rfl, HF4.out, by rw [HE.out]; rfl⟩
        · obtain ⟨z1, z2, z3⟩ := sizeS_iff.1 hsz
          have HZ : Hid (1 ≤ W ∧ 1 ≤ H ∧ W * H ≤ 1048576) := ⟨z1, z2, z3⟩
          have HR5 : Hid (R = if txt then digitsS W H (l.drop a4) else rowsS W H (l.drop a4)) := by rw [HR4.out, hsz]; rfl
          refine (new_yes W H w4 z1 z2 z3).mono ?_
          rintro e w5 ⟨b, g, rfl, hn⟩
          have HS5 : Hid (SR w5 bs ao cap l a4) := HS4.out.kept hn.fr (fun h => h) (fun _ _ _ _ h => h)
          have HF5 : Hid (Fr (fun k => k = bs) w w5) := HF4.out.trans hn.fr (fun _ _ h => h.elim)
          have HB5 : Hid (w5.heap[w.heap.size]? = some (.cells #[.int .i64 0, .int .i64 0, .slice none 0 0] 25 (0, 0))) := by show _ = _; rw [hn.fr.block _ (lt_of_block HB4.out) (fun h => h)]; exact HB4.out
          have HM5 : Hid (MapAt w5 b g (H * stride W) W H (fun _ _ => false)) := hn.at_
          have HG : Hid (w.heap.size < b ∧ w.heap.size < g ∧ bs ≠ b ∧ bs ≠ g ∧ b ≠ g ∧ (l ≠ [] → ∀ k off, ao = some ⟨k, off, none⟩ → k ≠ b ∧ k ≠ g)) := by
            have k1 := hn.nb
            have k2 := hn.ng
            have k3 := lt_of_block HB4.out
            have k4 := HS4.out.lt
            refine ⟨by omega, by omega, by omega, by omega, fun e => hn.at_.ne e.symm, fun hl k off e => ?_⟩
            obtain ⟨k', off', e', hc⟩ := HS4.out.seen hl
            rw [e] at e'
            simp only [Option.some.injEq, Addr.mk.injEq] at e'
            have k5 := seen_lt (hc 0 (List.length_pos_iff.2 hl))
            omega
          clear hn hsz z1 z2 z3 HS4 HF4 HB4 HR4
          cases txt
          · have hmk : ((mk false).toList == [80, 52]) = true := by decide +kernel
            have HR5b : Hid (R = rowsS W H (l.drop a4)) := HR5.out
            clear HR5
            go_wp2_with fail
            refine (body_j false bs b g (H * stride W) W H ao cap l a4 w5 HS5.out HM5.out ⟨HG.out.2.2.1, HG.out.2.2.2.1, HG.out.2.2.2.2.1⟩ HG.out.2.2.2.2.2).mono ?_
            rintro e w6 ⟨hf6, ⟨er, rfl, hr6⟩ | ⟨P, rfl, hm6, hr6⟩⟩
            · exact ⟨rfl, HF5.out.trans hf6 (fun i hi e => by
                rcases e with e | e
                · exact e
                · have := HG.out.2.1; exfalso; omega), by
                have hr7 : rowsS W H (l.drop a4) = .error er := hr6
                rw [HR5b.out, hr7]; rfl⟩
            · have HF6 : Hid (Fr (fun k => k = bs) w w6) := HF5.out.trans hf6 (fun i hi e => by
                rcases e with e | e
                · exact e
                · have := HG.out.2.1; exfalso; omega)
              have HB6 : Hid (w6.heap[w.heap.size]? = some (.cells #[.int .i64 0, .int .i64 0, .slice none 0 0] 25 (0, 0))) := by
                show _ = _
                rw [hf6.block _ (lt_of_block HB5.out) (by have := HG.out.2.1; have := HBS.out; omega)]; exact HB5.out
              have HM6 : Hid (MapAt w6 b g (H * stride W) W H P) := hm6
              have HR6 : Hid (R = .ok (W, H, P)) := by
                have hr7 : rowsS W H (l.drop a4) = .ok (W, H, P) := hr6
                rw [HR5b.out]; exact hr7
              clear hf6 hm6 hr6 HF5 HB5 HM5 HR5b HS5
              go_wp2_with fail
              refine (plain_any b g (H * stride W) W H P w6 HM6.out).mono ?_
              rintro e w7 ⟨g2, cap2, rfl, ho7, hf7, hg7⟩
              have HF7 : Hid (Fr (fun k => k = bs) w w7) := HF6.out.trans hf7 (fun _ _ h => h.elim)
              have HB7 : Hid (w7.heap[w.heap.size]? = some (.cells #[.int .i64 0, .int .i64 0, .slice none 0 0] 25 (0, 0))) := by show _ = _; rw [hf7.block _ (lt_of_block HB6.out) (fun h => h)]; exact HB6.out
              have HO7 : Hid (w7.ownsRow 0 50 1 (.slice (some ⟨g2, 0, none⟩) (H * stride W) cap2) (H * stride W) (wordCells (render W H P))) := ho7
              have HG7 : Hid (w.heap.size < g2) := by have := lt_of_block HB6.out; show _ < _; omega
              clear ho7 hf7 hg7 HF6 HB6
              obtain ⟨d0, d1, d2, df⟩ := cell_of_three HB7.out
              obtain ⟨NW, hNW⟩ : ∃ NW, NW = H * stride W := ⟨_, rfl⟩
              rw [← hNW] at HO7 ⊢
              have HNW : Hid (H * stride W = NW) := hNW.symm
              clear hNW
              go_wp2_with fail
              refine bodyPost_ret (v := .agg #[.int .i64 (W : Int), .int .i64 (H : Int), .slice (some ⟨g2, 0, none⟩) NW cap2]) (by simp [results, Tryd.results29, go_sem, World.cell?, World.setCell, Array.getElem?_modify, HB7.out]) rfl ?_
              refine ⟨(((HF7.out.setCell (p := ⟨w.heap.size, 0, none⟩) (fun h => absurd h (Nat.lt_irrefl _)) _).setCell (p := ⟨w.heap.size, 1, none⟩) (fun h => absurd h (Nat.lt_irrefl _)) _).setCell (p := ⟨w.heap.size, 2, none⟩) (fun h => absurd h (Nat.lt_irrefl _)) _), ?_⟩
              rw [HR6.out]
              refine ⟨_, rfl, g2, cap2, by rw [HNW.out], ?_, Nat.le_of_lt HG7.out, HZ.out.1, HZ.out.2.1, HZ.out.2.2⟩
              rw [HNW.out]
              exact row_kept HO7.out ((((Fr.refl (fun k => k = w.heap.size) w7).setCell (p := ⟨w.heap.size, 0, none⟩) (fun _ => rfl) _).setCell (p := ⟨w.heap.size, 1, none⟩) (fun _ => rfl) _).setCell (p := ⟨w.heap.size, 2, none⟩) (fun _ => rfl) _) (fun k hk e => by simp [Value.ownBlock] at hk; have := HG7.out; omega)
          · have hmk : ((mk true).toList == [80, 52]) = false := by decide +kernel
            have HR5b : Hid (R = digitsS W H (l.drop a4)) := HR5.out
            clear HR5
            go_wp2_with fail
            refine (body_j true bs b g (H * stride W) W H ao cap l a4 w5 HS5.out HM5.out ⟨HG.out.2.2.1, HG.out.2.2.2.1, HG.out.2.2.2.2.1⟩ HG.out.2.2.2.2.2).mono ?_
            rintro e w6 ⟨hf6, ⟨er, rfl, hr6⟩ | ⟨P, rfl, hm6, hr6⟩⟩
            · exact ⟨rfl, HF5.out.trans hf6 (fun i hi e => by
                rcases e with e | e
                · exact e
                · have := HG.out.2.1; exfalso; omega), by
                have hr7 : digitsS W H (l.drop a4) = .error er := hr6
                rw [HR5b.out, hr7]; rfl⟩
            · have HF6 : Hid (Fr (fun k => k = bs) w w6) := HF5.out.trans hf6 (fun i hi e => by
                rcases e with e | e
                · exact e
                · have := HG.out.2.1; exfalso; omega)
              have HB6 : Hid (w6.heap[w.heap.size]? = some (.cells #[.int .i64 0, .int .i64 0, .slice none 0 0] 25 (0, 0))) := by
                show _ = _
                rw [hf6.block _ (lt_of_block HB5.out) (by have := HG.out.2.1; have := HBS.out; omega)]; exact HB5.out
              have HM6 : Hid (MapAt w6 b g (H * stride W) W H P) := hm6
              have HR6 : Hid (R = .ok (W, H, P)) := by
                have hr7 : digitsS W H (l.drop a4) = .ok (W, H, P) := hr6
                rw [HR5b.out]; exact hr7
              clear hf6 hm6 hr6 HF5 HB5 HM5 HR5b HS5
              go_wp2_with fail
              refine (plain_any b g (H * stride W) W H P w6 HM6.out).mono ?_
              rintro e w7 ⟨g2, cap2, rfl, ho7, hf7, hg7⟩
              have HF7 : Hid (Fr (fun k => k = bs) w w7) := HF6.out.trans hf7 (fun _ _ h => h.elim)
              have HB7 : Hid (w7.heap[w.heap.size]? = some (.cells #[.int .i64 0, .int .i64 0, .slice none 0 0] 25 (0, 0))) := by show _ = _; rw [hf7.block _ (lt_of_block HB6.out) (fun h => h)]; exact HB6.out
              have HO7 : Hid (w7.ownsRow 0 50 1 (.slice (some ⟨g2, 0, none⟩) (H * stride W) cap2) (H * stride W) (wordCells (render W H P))) := ho7
              have HG7 : Hid (w.heap.size < g2) := by have := lt_of_block HB6.out; show _ < _; omega
              clear ho7 hf7 hg7 HF6 HB6
              obtain ⟨d0, d1, d2, df⟩ := cell_of_three HB7.out
              obtain ⟨NW, hNW⟩ : ∃ NW, NW = H * stride W := ⟨_, rfl⟩
              rw [← hNW] at HO7 ⊢
              have HNW : Hid (H * stride W = NW) := hNW.symm
              clear hNW
              go_wp2_with fail
              refine bodyPost_ret (v := .agg #[.int .i64 (W : Int), .int .i64 (H : Int), .slice (some ⟨g2, 0, none⟩) NW cap2]) (by simp [results, Tryd.results29, go_sem, World.cell?, World.setCell, Array.getElem?_modify, HB7.out]) rfl ?_
              refine ⟨(((HF7.out.setCell (p := ⟨w.heap.size, 0, none⟩) (fun h => absurd h (Nat.lt_irrefl _)) _).setCell (p := ⟨w.heap.size, 1, none⟩) (fun h => absurd h (Nat.lt_irrefl _)) _).setCell (p := ⟨w.heap.size, 2, none⟩) (fun h => absurd h (Nat.lt_irrefl _)) _), ?_⟩
              rw [HR6.out]
              refine ⟨_, rfl, g2, cap2, by rw [HNW.out], ?_, Nat.le_of_lt HG7.out, HZ.out.1, HZ.out.2.1, HZ.out.2.2⟩
              rw [HNW.out]
              exact row_kept HO7.out ((((Fr.refl (fun k => k = w.heap.size) w7).setCell (p := ⟨w.heap.size, 0, none⟩) (fun _ => rfl) _).setCell (p := ⟨w.heap.size, 1, none⟩) (fun _ => rfl) _).setCell (p := ⟨w.heap.size, 2, none⟩) (fun _ => rfl) _) (fun k hk e => by simp [Value.ownBlock] at hk; have := HG7.out; omega)
end Go.Proofs.YtpfajkkjnobdlaaDoor
