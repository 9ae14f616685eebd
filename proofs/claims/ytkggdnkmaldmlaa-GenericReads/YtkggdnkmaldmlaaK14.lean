/- 'Get', 'NewDecoder'; a clone of bytes. -/
import Derived.Test.YtkggdnkmaldmlaaK12
import Derived.Test.YtkggdnkmaldmlaaK13
import Derived.BigQuiet
import Derived.Test.YtkggdnkmaldmlaaK2
namespace Go.Proofs.Ytkggdnkmaldmlaa
open Go.RowKit

set_option maxRecDepth 100000 in
set_option maxHeartbeats 1000000 in
theorem clone_nil (w : World) : Calls Try.prog 61 #[.slice none 0 0] w fun e w' => e = .returned (.slice none 0 0) ∧ w' = w := by
  have q22 : ∀ (w : World) (a : Option Addr) (n c n' c' : Nat), (binOp .eql 30 (.slice a n c) (.slice none n' c')).run Try.prog w = .ok (.bool a.isNone) w := fun w a n c n' c' => Lib.run_eql_slice_nil w 30 5 a n c n' c' Try.underlying30
  go_enter Try.func61, Try.ntmps61
  go_wp2
  go_ret
  exact ⟨rfl, rfl⟩

set_option maxRecDepth 100000 in
set_option maxHeartbeats 1000000 in
theorem clone_some (a : Addr) (n cap : Nat) (l : List Nat) (w : World) (hl : l.length = n) (hn : n ≤ 140737488355328) (hc : ∀ (j : Nat) (u : Value), (byteCells l)[j]? = some u → w.cell? (a.add j) = some u) :
    Calls Try.prog 61 #[.slice (some a) n cap] w fun e w' => ∃ rv, e = .returned rv ∧ w'.ownsRow w.heap.size 5 1 rv n (byteCells l) ∧ Below w.heap.size w w' := by
  have q22 : ∀ (w : World) (a : Option Addr) (n c n' c' : Nat), (binOp .eql 30 (.slice a n c) (.slice none n' c')).run Try.prog w = .ok (.bool a.isNone) w := fun w a n c n' c' => Lib.run_eql_slice_nil w 30 5 a n c n' c' Try.underlying30
  obtain ⟨i0, hi, hz0, hz1, hz2⟩ := info_parts Try.info5
  have HC : Hid (∀ (j : Nat) (u : Value), (byteCells l)[j]? = some u → w.cell? (a.add j) = some u) := hc
  clear hc
  have hown : (w.alloc (.cells #[] 5)).ownsRow w.heap.size 5 1 (.slice (some ⟨w.heap.size, 0, none⟩) 0 0) 0 [] := World.ownsRow_made w #[] 0 (Nat.le_refl _) (by decide) rfl
  go_enter Try.func61, Try.ntmps61
  go_wp2_with (first | (at_builtin; refine wpList_append_own _ rfl _ _ 30 rfl w.heap.size 5 i0 (.int .u8 0) 1 1 Try.underlying30 hi hz0 hz1 hz2 rfl (by decide) _ _ _ rfl hown a n cap (byteCells l) rfl ?c0 ?c1 ?c2 ?c3 ?c4 ?c5 ?_))
  case c0 => rw [length_byteCells]; omega
  case c1 => exact fun j u hu => cell_later ((Below.refl _ _).alloc (Nat.le_refl _) _) (HC.out j u hu)
  case c2 => exact byteCells_one l
  case c3 => unfold maxLen; omega
  case c4 => omega
  case c5 => simp
  intro v' w1 hown' hgrow hnn
  have HO : Hid (w1.ownsRow w.heap.size 5 1 v' n (byteCells l)) := hown'
  have HB : Hid (Below w.heap.size w w1) := ((Below.refl _ _).alloc (Nat.le_refl _) _).grown hgrow (by simp) (fun k hk => by simp [Value.ownBlock] at hk; omega)
  clear hown' hgrow hnn hown
  go_wp2
  go_ret
  exact ⟨v', rfl, HO.out, HB.out⟩

theorem row_slice {w : World} {base e size n : Nat} {v : Value} {xs : List Value} (h : w.ownsRow base e size v n xs) : ∃ ao cap, v = .slice ao n cap := by
  rcases h.2 with ⟨rfl, e⟩ | ⟨g, cap, cur, rfl, _⟩
  · subst e; exact ⟨_, _, rfl⟩
  · exact ⟨_, _, rfl⟩

/-- A clone of bytes that can be read. -/
theorem clone_any (w : World) (v : Value) (l : List Nat) (h : SeenAt w v l) (hnil : v = .slice none 0 0 ∨ ∃ a n c, v = .slice (some a) n c) :
    Calls Try.prog 61 #[v] w fun e w' => ∃ rv, e = .returned rv ∧ w'.ownsRow 0 5 1 rv l.length (byteCells l) ∧ Fr (fun _ => False) w w' ∧ ∀ k, rv.ownBlock = some k → w.heap.size ≤ k := by
  obtain ⟨ao, cap, rfl, hl, hc⟩ := h
  rcases hnil with e | ⟨a, n, c, e⟩
  · simp only [Value.slice.injEq] at e
    obtain ⟨rfl, hl0, rfl⟩ := e
    rw [hl0]
    refine (clone_nil w).mono ?_
    rintro e w' ⟨rfl, rfl⟩
    refine ⟨_, rfl, ?_, Fr.refl _ _, fun k hk => by simp [Value.ownBlock] at hk⟩
    have := List.eq_nil_of_length_eq_zero hl0
    subst this
    exact ⟨rfl, Or.inl ⟨rfl, rfl⟩⟩
  · simp only [Value.slice.injEq] at e
    obtain ⟨rfl, hn, rfl⟩ := e
    refine (clone_some a l.length cap l w rfl hl ?_).mono ?_
    · intro j u hu
      have hj : j < l.length := by
        by_cases hj : j < l.length
        · exact hj
        · rw [byteCells_get, List.getElem?_eq_none (by omega)] at hu; cases hu
      obtain ⟨b, off, e, hcc⟩ := hc (by intro e; subst e; simp at hj)
      simp only [Option.some.injEq] at e
      subst e
      have := hcc j hj
      rw [byteCells_get, List.getElem?_eq_getElem hj] at hu
      rw [List.getElem?_eq_getElem hj] at this
      rw [← hu]
      exact (congrArg w.cell? (show (⟨b, off, none⟩ : Addr).add j = ⟨b, off + j, none⟩ by simp [Addr.add])).trans this
    · rintro e w' ⟨rv, rfl, ho, hb⟩
      exact ⟨rv, rfl, ownsRow_base ho (fun _ _ => Nat.zero_le _), Fr.of_below hb _, fun k hk => (ho.lt k hk).1⟩

set_option maxRecDepth 100000 in
set_option maxHeartbeats 1000000 in
/-- A decision. -/
theorem get_any (w : World) (bd gc cc : Nat) (vb : Value) (B : List Nat) (o : De) (h : DeAt w bd gc cc vb B o) (hok : Eok B o) (hm : o.made < 16777216) (i : Int) (hi : -9223372036854775808 ≤ i ∧ i ≤ 9223372036854775807) :
    Calls Try.prog 129 #[.pointer (some ⟨bd, 0, none⟩), .int .i64 i] w fun e w' => e = .returned (.tuple #[.int .i64 (getBit o i : Nat), .int .i64 0]) ∧ DeAt w' bd gc cc vb B (getP B o i) ∧ DStep bd gc w w' := by
  obtain ⟨e0, e1, e2, e3, e4, e5, e6, ef⟩ := cell_of_seven h.blk
  have HK : Hid (Eok B o) := hok
  have HI : Hid (-9223372036854775808 ≤ i ∧ i ≤ 9223372036854775807) := hi
  have HM : Hid (o.made < 16777216) := hm
  have HF : Hid (((o.made : Int) == 16777216) = false) := by show _ = _; rw [beq_eq_false_iff_ne]; omega
  have hs : Hid (DeAt (w.setCell ⟨bd, 1, none⟩ (.int .i64 ((o.made + 1 : Nat) : Int))) bd gc cc vb B { o with made := o.made + 1 }) := h.setMade (o.made + 1)
  have HST : Hid (DStep bd gc w (w.setCell ⟨bd, 1, none⟩ (.int .i64 ((o.made + 1 : Nat) : Int)))) := (Fr.set1 _ _ _ _).mono (fun _ _ e => Or.inl e)
  have HX : Hid (o.x.getD (placeOf i o.x.length) 0 < 94) := getD_lt hok.cells _
  obtain ⟨z, HZ⟩ : ∃ z, Hid (z = getBit o i) := ⟨_, rfl⟩
  have hz : z < 2 := by rw [HZ.out]; exact decBit_lt _ _
  rw [← HZ.out]
  clear h hok hi hm e2 e3 e4 e5
  go_enter Try.func129, Try.ntmps129
  go_wp2_with (first | (go_at_call 118; refine (isFull_at _ bd o.made e1 false HF.out).mono ?_; rintro e w1 ⟨rfl, rfl⟩) | (go_at_call 120; refine (next_at _ bd gc cc o.x.length o.made i HI.out HK.out.pos HK.out.lim HM.out e0 e1 (ef 1)).mono ?_; rintro e w2 ⟨rfl, rfl⟩))
  refine (decode_any _ bd gc cc vb B _ (placeOf i o.x.length) hs.out HK.out.bytes HK.out.ok (placeOf_lt i HK.out.pos) HX.out).mono ?_
  rintro e w3 ⟨rfl, hc3, hs3⟩
  have HC3 : Hid (DeAt w3 bd gc cc vb B (getP B o i)) := hc3
  have HS3 : Hid (DStep bd gc (w1.setCell ⟨bd, 1, none⟩ (.int .i64 ((o.made + 1 : Nat) : Int))) w3) := hs3
  have ez : decBit o.s (o.x.getD (placeOf i o.x.length) 0) = z := by rw [HZ.out]; rfl
  rw [ez]
  clear hc3 hs3 ez
  go_wp2_with fail
  go_ret2
  exact ⟨rfl, HC3.out, HST.out.trans HS3.out⟩

set_option maxRecDepth 100000 in
set_option maxHeartbeats 1000000 in
/-- What is refused. -/
theorem newDecoder_refuses (w : World) (v : Value) (i : Int) (h : ¬ (1 ≤ i ∧ i ≤ 131072)) :
    Calls Try.prog 31 #[v, .int .i64 i] w fun e w' => e = .returned (.tuple #[.pointer none, .int .i64 40]) ∧ w' = w := by
  have HT : Hid (∀ w, Calls Try.prog 45 #[.int .i64 i] w fun e w' => e = .returned (.bool false) ∧ w' = w) := fun w => isTable_at w i false (by simp [h])
  clear h
  go_enter Try.func31, Try.ntmps31
  go_wp2_with (first | (go_at_call 45; refine (HT.out _).mono ?_; rintro e w1 ⟨rfl, rfl⟩))
  go_ret2
  exact ⟨rfl, rfl⟩

set_option maxRecDepth 100000 in
set_option maxHeartbeats 1000000 in
theorem newDecoder_any (w : World) (v : Value) (B : List Nat) (n : Nat) (h1 : 1 ≤ n) (h2 : n ≤ 131072) (hv : SeenAt w v B) (hnil : v = .slice none 0 0 ∨ ∃ a n c, v = .slice (some a) n c) (hB : ∀ y ∈ B, y < 256) :
    Calls Try.prog 31 #[v, .int .i64 n] w fun e w' => ∃ bd gc vb, e = .returned (.tuple #[.pointer (some ⟨bd, 0, none⟩), .int .i64 0]) ∧ DeAt w' bd gc n vb B (newD B n) ∧ Fr (fun _ => False) w w' ∧ w.heap.size ≤ bd ∧ w.heap.size ≤ gc ∧ ∀ k, vb.ownBlock = some k → w.heap.size ≤ k := by
  have HT : Hid (∀ w, Calls Try.prog 45 #[.int .i64 n] w fun e w' => e = .returned (.bool true) ∧ w' = w) := fun w => isTable_at w n true (by rw [eq_comm, decide_eq_true_eq]; omega)
  have HN : Hid (1 ≤ n ∧ n ≤ 131072) := ⟨h1, h2⟩
  have HV : Hid (SeenAt w v B) := hv
  have HNIL : Hid (v = .slice none 0 0 ∨ ∃ a n c, v = .slice (some a) n c) := hnil
  have HB : Hid (∀ y ∈ B, y < 256) := hB
  have HL : Hid (B.length ≤ 140737488355328) := by obtain ⟨_, _, _, hl, _⟩ := hv; exact hl
  clear h1 h2 hv hnil hB
  go_enter Try.func31, Try.ntmps31
  go_wp2_with (first | (go_at_call 45; refine (HT.out _).mono ?_; rintro e w1 ⟨rfl, rfl⟩) | (go_at_call 46; refine (newTable_at _ n HN.out.1 HN.out.2).mono ?_; rintro e w2 ⟨g, rfl, hown, hf, hg⟩; have HO : Hid (w2.ownsRow 0 108 1 (.slice (some ⟨g, 0, none⟩) n n) n (byteCells (List.replicate n 0))) := hown; have HF : Hid (Fr (fun _ => False) w1 w2) := hf; clear hown hf))
  refine (clone_any w2 v B ?_ HNIL.out).mono ?_
  · obtain ⟨ao, cap, e, hl, hc⟩ := HV.out
    refine ⟨ao, cap, e, hl, fun hne => ?_⟩
    obtain ⟨b, off, e2, hcc⟩ := hc hne
    exact ⟨b, off, e2, fun j hj => HF.out.cell (hcc j hj) (fun hh => hh)⟩
  rintro e w3 ⟨rv, rfl, hown3, hf3, hr3⟩
  have HO3 : Hid (w3.ownsRow 0 5 1 rv B.length (byteCells B)) := hown3
  have HF3 : Hid (Fr (fun _ => False) w2 w3) := hf3
  have HR3 : Hid (∀ k, rv.ownBlock = some k → w2.heap.size ≤ k) := hr3
  obtain ⟨ao, cap, rfl⟩ := row_slice hown3
  clear hown3 hf3 hr3
  have HD : Hid (DeAt (w3.alloc (.cells #[.slice (some ⟨g, 0, none⟩) n n, .int .i64 0, .int .u32 32768, .int .u32 0, .int .i64 0, .slice ao B.length cap, .int .i64 0] 76)) w3.heap.size g n (.slice ao B.length cap) B { s := { a := 32768, c := 0, t := 0, p := 0 }, x := List.replicate n 0, made := 0 }) := by
    refine ⟨?_, ?_, HO3.out.alloc _, HL.out⟩
    · simp only [List.length_replicate]
      exact heap_alloc_new w3 _
    · simp only [List.length_replicate]
      exact (row_kept1 HO.out HF3.out (fun hh => hh)).alloc _
  obtain ⟨b0, Hb0⟩ : ∃ b0, Hid (b0 = byteD B 0) := ⟨_, rfl⟩
  have hb0 : b0 < 256 := by rw [Hb0.out]; exact byteD_lt HB.out 0
  have hb1 : (b0 : Int) * 65536 % 4294967296 = ((b0 * 65536 : Nat) : Int) := by omega
  generalize hV : Value.slice ao B.length cap = V at *
  have HVV : Hid (Value.slice ao B.length cap = V) := hV
  rw [← hV]
  clear hV
  go_wp2_with fail
  rw [HVV.out]
  refine (byteAt_any _ w3.heap.size g n V B _ HD.out HB.out 0 (by decide)).mono ?_
  rw [← Hb0.out]
  rintro e w4 ⟨rfl, rfl⟩
  have hlt0 := HD.out.lt
  obtain ⟨e0, e1, e2, e3, e4, e5, e6, ef⟩ := cell_of_seven HD.out.blk
  have HF4 : Hid (Fr (fun _ => False) w1 (w3.alloc (.cells #[.slice (some ⟨g, 0, none⟩) n n, .int .i64 0, .int .u32 32768, .int .u32 0, .int .i64 0, V, .int .i64 0] 76))) := (HF.out.trans HF3.out (fun _ _ hh => hh)).alloc _
  generalize World.alloc w3 _ = w4 at *
  simp only [List.length_replicate] at e0
  have HD2 : Hid (DeAt (w4.setCell ⟨w3.heap.size, 3, none⟩ (.int .u32 ((b0 : Int) * 65536))) w3.heap.size g n V B { s := { a := 32768, c := b0 * 65536, t := 0, p := 0 }, x := List.replicate n 0, made := 0 }) := by
    have := HD.out.setC (b0 * 65536)
    rw [show ((b0 * 65536 : Nat) : Int) = (b0 : Int) * 65536 by omega] at this
    exact this
  have HDW : Hid (Dw B { a := 32768, c := b0 * 65536, t := 0, p := 0 }) := ⟨by show 1 ≤ 32768; decide, by show 32768 < 65536; decide, by show b0 * 65536 < _; omega, Nat.zero_le _, Nat.zero_le _⟩
  have HS4 : Hid (DStep w3.heap.size g w4 (w4.setCell ⟨w3.heap.size, 3, none⟩ (.int .u32 ((b0 : Int) * 65536)))) := (Fr.set1 _ _ _ _).mono (fun _ _ e => Or.inl e)
  go_wp2_with fail
  refine (in_any _ w3.heap.size g n V B _ HD2.out HB.out HDW.out).mono ?_
  rintro e w5 ⟨rfl, hc5, hs5⟩
  obtain ⟨q0, q1, q2, q3, q4, q5, q6, qf⟩ := cell_of_seven hc5.blk
  have HC5 : Hid (DeAt w5 w3.heap.size g n V B { s := inD B { a := 32768, c := b0 * 65536, t := 0, p := 0 }, x := List.replicate n 0, made := 0 }) := hc5
  have HS5 : Hid (DStep w3.heap.size g (w4.setCell ⟨w3.heap.size, 3, none⟩ (.int .u32 ((b0 : Int) * 65536))) w5) := hs5
  clear hc5 hs5 e0 e1 e2 e3 e4 e5 e6 ef
  obtain ⟨hiw, hia, hit⟩ := inD_dw HDW.out
  have hic := hiw.clt
  have hitl := hiw.tlt
  have HNE : Hid (newD B n = { s := { inD B { a := 32768, c := b0 * 65536, t := 0, p := 0 } with c := (inD B { a := 32768, c := b0 * 65536, t := 0, p := 0 }).c * 128 % 4294967296, t := (inD B { a := 32768, c := b0 * 65536, t := 0, p := 0 }).t - 7 }, x := List.replicate n 0, made := 0 }) := by
    rw [Hb0.out]; rfl
  clear hiw hia
  generalize inD B { a := 32768, c := b0 * 65536, t := 0, p := 0 } = s2 at *
  obtain ⟨a, c, t, p⟩ := s2
  simp only [List.length_replicate] at q0 q1 q2 q3 q4 q5 q6 hic hitl hit HNE
  obtain ⟨d, HDD⟩ : ∃ d, Hid (d = c * 128 % 4294967296) := ⟨_, rfl⟩
  have hd : (c : Int) * 128 % 4294967296 = (d : Int) := by rw [HDD.out]; omega
  have hd2 : d < 4294967296 := by rw [HDD.out]; omega
  have hl5 := HC5.out.lt
  go_wp2_with fail
  go_ret2
  have h6 := (HC5.out.setC d).setT (t - 7)
  rw [show ((t - 7 : Nat) : Int) = (t : Int) - 7 by omega] at h6
  have s1 := HF.out.size
  have s2 := HF3.out.size
  refine ⟨w3.heap.size, g, V, rfl, ?_, ?_, by omega, hg, fun k hk => by have := HR3.out k hk; omega⟩
  · rw [HNE.out, ← HDD.out]; exact h6
  · refine HF4.out.trans (DStep.trans HS4.out (DStep.trans HS5.out (Fr.setCell (Fr.setCell (Fr.refl _ _) (fun _ => Or.inl rfl) _) (fun _ => Or.inl rfl) _))) ?_
    rintro i hi (e | e)
    · omega
    · omega

end Go.Proofs.Ytkggdnkmaldmlaa

/- 'States'. -/
namespace Go.Proofs.Ytkggdnkmaldmlaa
open Go.RowKit

theorem take_set_states (x : List Nat) (k : Nat) (hk : k < x.length) : (x.take k ++ List.replicate (x.length - k) 0).set k (x[k]?.getD 0) = x.take (k + 1) ++ List.replicate (x.length - (k + 1)) 0 := by
  apply List.ext_getElem?
  intro i
  rw [List.getElem?_set]
  split
  · rename_i e; subst e
    rw [if_pos (by simp; omega), List.getElem?_append_left (by simp; omega), List.getElem?_take_of_lt (by omega), List.getElem?_eq_getElem hk]; rfl
  · rename_i e
    by_cases hi : i < k
    · rw [List.getElem?_append_left (by simp; omega), List.getElem?_append_left (by simp; omega), List.getElem?_take_of_lt hi, List.getElem?_take_of_lt (by omega)]
    · rw [List.getElem?_append_right (by simp; omega), List.getElem?_append_right (by simp; omega), List.getElem?_replicate, List.getElem?_replicate]
      simp only [List.length_take]
      by_cases h2 : i < x.length
      · rw [if_pos (by omega), if_pos (by omega)]
      · rw [if_neg (by omega), if_neg (by omega)]

set_option maxRecDepth 100000 in
set_option maxHeartbeats 1000000 in
theorem states_at (w : World) (bc gc cc : Nat) (x : List Nat) (hpos : 0 < x.length) (hlim : x.length ≤ 131072) (e0 : w.cell? ⟨bc, 0, none⟩ = some (.slice (some ⟨gc, 0, none⟩) x.length cc)) (hx : w.ownsRow 0 108 1 (.slice (some ⟨gc, 0, none⟩) x.length cc) x.length (byteCells x)) :
    Calls Try.prog 32 #[.pointer (some ⟨bc, 0, none⟩)] w fun e w' => ∃ g, e = .returned (.slice (some ⟨g, 0, none⟩) x.length x.length) ∧ w'.ownsRow 0 5 1 (.slice (some ⟨g, 0, none⟩) x.length x.length) x.length (byteCells x) ∧ Fr (fun _ => False) w w' ∧ w.heap.size ≤ g := by
  obtain ⟨i0, hi, hz0, hz1, hz2⟩ := info_parts Try.info5
  have HX : Hid (w.ownsRow 0 108 1 (.slice (some ⟨gc, 0, none⟩) x.length cc) x.length (byteCells x)) := hx
  obtain ⟨n, Hn⟩ : ∃ n, Hid (n = x.length) := ⟨_, rfl⟩
  rw [← Hn.out] at hpos hlim e0 HX ⊢
  clear hx
  have hbl : bc < w.heap.size := World.block_lt_of_cell? w ⟨bc, 0, none⟩ e0
  go_enter Try.func32, Try.ntmps32
  go_wp2_with (first | (at_make; refine wpList_make_full _ rfl _ _ 30 rfl w.heap.size 5 i0 (.int .u8 0) 1 Try.underlying30 hi hz0 hz1 .i64 .i64 _ _ n rfl rfl ?_ ?_ ?_ ?_ ?_ ?_))
  · omega
  · omega
  · rw [hz2]; omega
  · unfold maxLen; omega
  · exact Nat.le_refl _
  · intro w2 hown hgrow
    have f : Fr (fun _ => False) w w2 := (Fr.refl _ _).grown hgrow (fun k hk _ => by cases hk)
    have e02 := f.cell e0 (fun hh => hh)
    have HF : Hid (Fr (fun _ => False) w w2) := f
    obtain ⟨g, HG⟩ : ∃ g, Hid (g = w.heap.size) := ⟨_, rfl⟩
    rw [← HG.out] at hown ⊢
    have HO : Hid (w2.ownsRow 0 5 1 (.slice (some ⟨g, 0, none⟩) n n) n (byteCells (x.take 0 ++ List.replicate (n - 0) 0))) := by
      rw [List.take_zero, List.nil_append, Nat.sub_zero, byteCells_replicate, ← toList_madeCells_one]
      exact ownsRow_base hown (fun _ _ => Nat.zero_le _)
    have HXC : Hid (∀ wr, Fr (fun k => k = g) w2 wr → ∀ j, j < n → wr.cell? ⟨gc, j, none⟩ = some (.int .u8 (x[j]?.getD 0 : Nat))) := by
      intro wr f2 j hj
      have hgc := (HX.out.lt gc rfl).2
      have c := HX.out.cellAt j (by omega)
      rw [byteCells_get, List.getElem?_eq_getElem (by have := Hn.out; omega)] at c
      rw [f2.cell (f.cell c (fun hh => hh)) (by show ¬ gc = g; rw [HG.out]; omega), List.getElem?_eq_getElem (by have := Hn.out; omega)]; rfl
    clear hown hgrow f
    go_wp2_with fail
    go_loopw [17] (fun i wr => ∃ k : Nat, k ≤ n ∧ i = .int .i64 k ∧ wr.ownsRow 0 5 1 (.slice (some ⟨g, 0, none⟩) n n) n (byteCells (x.take k ++ List.replicate (n - k) 0)) ∧ Fr (fun k => k = g) w2 wr) (fun i _ => n - (intOf i).toNat)
    case atStart => exact ⟨0, Nat.zero_le _, rfl, HO.out, Fr.refl _ _⟩
    case round =>
      obtain ⟨k, hk, rfl, hown, hfr⟩ := hrel
      have HO2 : Hid (wr.ownsRow 0 5 1 (.slice (some ⟨g, 0, none⟩) n n) n (byteCells (x.take k ++ List.replicate (n - k) 0))) := hown
      have HF2 : Hid (Fr (fun k => k = g) w2 wr) := hfr
      by_cases hlt : k < n
      · have cx := HXC.out wr hfr k hlt
        have cg : ∃ v, wr.cell? ⟨g, k, none⟩ = some v := by
          rw [hown.cellAt k (by omega)]
          have hl := hown.1
          exact ⟨_, List.getElem?_eq_getElem (by omega)⟩
        obtain ⟨v, cg⟩ := cg
        have cf := hown.frozenAt k
        clear hown hfr
        go_wp2_with fail
        go_roundw
        case rel =>
          refine ⟨k + 1, by omega, congrArg (Value.int .i64) (by omega), ?_, HF2.out.setCell (p := ⟨g, k, none⟩) (fun _ => rfl) _⟩
          have := (HO2.out.stored k (.int .u8 (x[k]?.getD 0 : Nat))).1
          rw [byteCells_set, Hn.out, take_set_states x k (by have := Hn.out; omega), ← Hn.out] at this
          exact this
        case measure => simp [intOf]; omega
      · have hkn : k = n := by omega
        subst hkn
        clear hown hfr
        go_wp2_with fail
        go_ret
        refine ⟨g, rfl, ?_, HF.out.trans HF2.out (fun i hi e => by have := HG.out; omega), by rw [HG.out]; exact Nat.le_refl _⟩
        have := HO2.out
        rw [Nat.sub_self, List.replicate_zero, List.append_nil, List.take_of_length_le (by have := Hn.out; omega)] at this
        exact this

end Go.Proofs.Ytkggdnkmaldmlaa

/- 'Eq' of two slices of bytes. -/
namespace Go.Proofs.Ytkggdnkmaldmlaa
open Go.RowKit

theorem SeenAt.kept {w w' : World} {v : Value} {l : List Nat} {S : Nat → Prop} (h : SeenAt w v l) (f : Fr S w w') (hs : ∀ k, v.ownBlock = some k → ¬ S k) : SeenAt w' v l := by
  obtain ⟨ao, cap, rfl, hl, hc⟩ := h
  refine ⟨ao, cap, rfl, hl, fun hne => ?_⟩
  obtain ⟨b, off, rfl, hcc⟩ := hc hne
  exact ⟨b, off, rfl, fun j hj => f.cell (hcc j hj) (hs b rfl)⟩
theorem SeenAt.drewN {w : World} {v : Value} {l : List Nat} (h : SeenAt w v l) (q : Nat) : SeenAt (w.drewN q) v l := h
theorem SeenAt.of_row {w : World} {v : Value} {l : List Nat} (h : w.ownsRow 0 5 1 v l.length (byteCells l)) (hl : l.length ≤ 140737488355328) : SeenAt w v l := by
  rcases h.2 with ⟨rfl, e⟩ | ⟨g, cap, cur, rfl, _, hg, hc, hm, _, ht⟩
  · exact ⟨none, 0, by rw [e], hl, fun hn => absurd (List.eq_nil_of_length_eq_zero e) hn⟩
  · refine ⟨_, cap, rfl, hl, fun _ => ⟨g, 0, rfl, fun j hj => ?_⟩⟩
    rw [Nat.zero_add, h.cellAt j (by omega), byteCells_get, List.getElem?_eq_getElem hj]
    rfl

set_option maxRecDepth 100000 in
set_option maxHeartbeats 1000000 in
theorem eq_len (v u : Value) (la lb : List Nat) (w : World) (ha : SeenAt w v la) (hb : SeenAt w u lb) (hl : la.length ≠ lb.length) :
    Calls Try.prog 14 #[v, u] w fun e w' => e = .returned (.bool false) ∧ w' = w := by
  obtain ⟨ao, ca, rfl, hla, _⟩ := ha
  obtain ⟨bo, cb, rfl, hlb, _⟩ := hb
  have ht : ((la.length : Int) != (lb.length : Int)) = true := by rw [bne_iff_ne]; omega
  go_enter Try.func14, Try.ntmps14
  go_wp2
  go_ret
  exact ⟨rfl, rfl⟩

set_option maxRecDepth 100000 in
set_option maxHeartbeats 1000000 in
theorem eq_same (v u : Value) (la lb : List Nat) (w : World) (ha : SeenAt w v la) (hb : SeenAt w u lb) (hl : la.length = lb.length) (bb : Bool) (hbb : Hid (bb = decide (la = lb))) :
    Calls Try.prog 14 #[v, u] w fun e w' => e = .returned (.bool bb) ∧ ∃ q, w' = w.drewN q := by
  obtain ⟨ao, ca, rfl, hla, hca⟩ := ha
  obtain ⟨bo, cb, rfl, hlb, hcb⟩ := hb
  have HA : Hid (la ≠ [] → ∃ b off, ao = some ⟨b, off, none⟩ ∧ ∀ j, j < la.length → w.cell? ⟨b, off + j, none⟩ = some (.int .u8 (la[j]?.getD 0 : Nat))) := hca
  have HB : Hid (lb ≠ [] → ∃ b off, bo = some ⟨b, off, none⟩ ∧ ∀ j, j < lb.length → w.cell? ⟨b, off + j, none⟩ = some (.int .u8 (lb[j]?.getD 0 : Nat))) := hcb
  have HL : Hid (la.length = lb.length) := hl
  clear hca hcb hl hlb
  rw [← HL.out]
  obtain ⟨n, hn⟩ : ∃ n, n = la.length := ⟨_, rfl⟩
  rw [← hn] at hla ⊢
  have Hn : Hid (n = la.length) := hn
  clear hn
  have ht : ((n : Int) != (n : Int)) = false := by simp
  by_cases h0 : n = 0
  · have hbt : bb = true := by
      rw [hbb.out]
      have e1 : la = [] := List.eq_nil_of_length_eq_zero (by have := Hn.out; omega)
      have e2 : lb = [] := List.eq_nil_of_length_eq_zero (by have := Hn.out; have := HL.out; omega)
      simp [e1, e2]
    subst hbt; subst h0
    go_enter Try.func14, Try.ntmps14
    go_wp2
    refine wp_loop_rounds 1 ?_
    rw [rounds_succ]
    go_wp2
    go_ret
    exact ⟨rfl, 0, rfl⟩
  · obtain ⟨b, off, rfl, hca⟩ := HA.out (fun e => h0 (by have := Hn.out; rw [e] at this; simpa using this))
    obtain ⟨b2, off2, rfl, hcb⟩ := HB.out (fun e => h0 (by have := Hn.out; have h2 := HL.out; rw [e] at h2; simp at h2; rw [h2] at this; simpa using this))
    have KA : Hid (∀ j, j < n → w.cell? ⟨b, off + j, none⟩ = some (.int .u8 (la[j]?.getD 0 : Nat))) := fun j hj => hca j (by have := Hn.out; omega)
    have KB : Hid (∀ j, j < n → w.cell? ⟨b2, off2 + j, none⟩ = some (.int .u8 (lb[j]?.getD 0 : Nat))) := fun j hj => hcb j (by have := Hn.out; have := HL.out; omega)
    clear hca hcb HA HB
    go_enter Try.func14, Try.ntmps14
    go_wp2
    go_loopw [5] (fun i wr => ∃ (k q : Nat), k ≤ n ∧ i = .int .i64 k ∧ wr = w.drewN q ∧ Hid (la.take k = lb.take k)) (fun i _ => n - (intOf i).toNat)
    case atStart => exact ⟨0, 0, Nat.zero_le _, rfl, rfl, rfl⟩
    case round =>
      obtain ⟨k, q, hk, rfl, rfl, HT⟩ := hrel
      by_cases hlt : k < n
      · have c1 := KA.out k hlt
        have c2 := KB.out k hlt
        have HE : Hid (la[k]?.getD 0 = lb[k]?.getD 0 → la.take (k + 1) = lb.take (k + 1)) := fun he => take_succ_eq HT.out (by have := Hn.out; omega) (by have := Hn.out; have := HL.out; omega) he
        have HD : Hid (la[k]?.getD 0 ≠ lb[k]?.getD 0 → bb = false) := fun he => by
          rw [hbb.out]; simp; intro e; exact he (by rw [e])
        generalize la[k]?.getD 0 = x at *
        generalize lb[k]?.getD 0 = y at *
        by_cases hxy : x = y
        · subst hxy
          have HE2 : Hid (la.take (k + 1) = lb.take (k + 1)) := HE.out rfl
          clear HE HD
          have hne : ((x : Int) != (x : Int)) = false := by simp
          go_wp2
          go_quiet (fail)
          go_wp2
          go_roundw
          case rel => exact ⟨k + 1, _, by omega, congrArg (Value.int .i64) (by omega), rfl, HE2⟩
          case measure => simp [intOf]; omega
        · have hne : ((x : Int) != (y : Int)) = true := by rw [bne_iff_ne]; omega
          have hbf := HD.out hxy
          subst hbf
          clear HE HD
          go_wp2
          go_quiet (fail)
          go_wp2
          go_ret
          exact ⟨rfl, q + nq, World.drewN_drewN _ _ _⟩
      · have hkn : k = n := by omega
        have hbt : bb = true := by
          rw [hbb.out]
          have h1 := HT.out
          rw [List.take_of_length_le (by have := Hn.out; omega), List.take_of_length_le (by have := Hn.out; have := HL.out; omega)] at h1
          simp [h1]
        subst hbt; subst hkn
        go_wp2
        go_ret
        exact ⟨rfl, q, rfl⟩

/-- 'Eq' of any two. -/
theorem eq_any (v u : Value) (la lb : List Nat) (w : World) (ha : SeenAt w v la) (hb : SeenAt w u lb) :
    Calls Try.prog 14 #[v, u] w fun e w' => e = .returned (.bool (decide (la = lb))) ∧ ∃ q, w' = w.drewN q := by
  by_cases hl : la.length = lb.length
  · exact eq_same v u la lb w ha hb hl _ rfl
  · refine (eq_len v u la lb w ha hb hl).mono ?_
    rintro e w' ⟨rfl, rfl⟩
    exact ⟨by rw [decide_eq_false (fun e => hl (by rw [e]))], 0, rfl⟩

end Go.Proofs.Ytkggdnkmaldmlaa


/- 'wakes'. -/
namespace Go.Proofs.Ytkggdnkmaldmlaa
open Go.RowKit

/-- Steps of a coder whose blocks are new. -/
theorem CStep.fresh {w w1 w2 : World} {bc gc gb gb' : Nat} {T : Nat → Prop} (f : Fr T w w1) (h : CStep bc gc gb gb' w1 w2) (s : w.heap.size ≤ bc ∧ w.heap.size ≤ gc ∧ w.heap.size ≤ gb) : Fr T w w2 ∧ w.heap.size ≤ gb' := by
  have hs := f.size
  refine ⟨f.trans h.fr (fun i hi e => by omega), ?_⟩
  rcases h.row with e | e <;> omega
theorem DStep.fresh {w w1 w2 : World} {bd gc : Nat} {T : Nat → Prop} (f : Fr T w w1) (h : DStep bd gc w1 w2) (s : w.heap.size ≤ bd ∧ w.heap.size ≤ gc) : Fr T w w2 :=
  f.trans h (fun i hi e => by omega)

end Go.Proofs.Ytkggdnkmaldmlaa

/- Two coders side by side; decisions that are handed in. -/
namespace Go.Proofs.Ytkggdnkmaldmlaa
open Go.RowKit

/-- A coder's blocks are new, and apart from another's. -/
structure Two (w0 w : World) (b1 g1 c1 l1 m1 : Nat) (o1 : Co) (b2 g2 c2 l2 m2 : Nat) (o2 : Co) : Prop where
  at1 : CoAt w b1 g1 c1 l1 m1 o1
  at2 : CoAt w b2 g2 c2 l2 m2 o2
  fr : Fr (fun _ => False) w0 w
  new1 : w0.heap.size ≤ b1 ∧ w0.heap.size ≤ g1 ∧ w0.heap.size ≤ l1
  new2 : w0.heap.size ≤ b2 ∧ w0.heap.size ≤ g2 ∧ w0.heap.size ≤ l2
  apart : (b1 ≠ b2 ∧ b1 ≠ g2 ∧ b1 ≠ l2) ∧ (g1 ≠ b2 ∧ g1 ≠ g2 ∧ g1 ≠ l2) ∧ (l1 ≠ b2 ∧ l1 ≠ g2 ∧ l1 ≠ l2)

theorem Two.step1 {w0 w w' : World} {b1 g1 c1 l1 m1 l1' m1' : Nat} {o1 o1' : Co} {b2 g2 c2 l2 m2 : Nat} {o2 : Co} (h : Two w0 w b1 g1 c1 l1 m1 o1 b2 g2 c2 l2 m2 o2) (hc : CoAt w' b1 g1 c1 l1' m1' o1') (hs : CStep b1 g1 l1 l1' w w') :
    Two w0 w' b1 g1 c1 l1' m1' o1' b2 g2 c2 l2 m2 o2 := by
  obtain ⟨f, n⟩ := CStep.fresh h.fr hs h.new1
  have a := h.apart
  have x1 := h.at2.lt
  have x2 := h.at2.xlt
  have x3 := h.at2.blt
  refine ⟨hc, h.at2.kept hs.fr (by omega) (by omega) (by omega), f, ⟨h.new1.1, h.new1.2.1, n⟩, h.new2, ⟨a.1, a.2.1, ?_⟩⟩
  rcases hs.row with e | e
  · rw [e]; exact a.2.2
  · omega
theorem Two.swap {w0 w : World} {b1 g1 c1 l1 m1 : Nat} {o1 : Co} {b2 g2 c2 l2 m2 : Nat} {o2 : Co} (h : Two w0 w b1 g1 c1 l1 m1 o1 b2 g2 c2 l2 m2 o2) : Two w0 w b2 g2 c2 l2 m2 o2 b1 g1 c1 l1 m1 o1 := by
  have a := h.apart
  exact ⟨h.at2, h.at1, h.fr, h.new2, h.new1, by omega⟩
theorem Two.step2 {w0 w w' : World} {b1 g1 c1 l1 m1 : Nat} {o1 : Co} {b2 g2 c2 l2 m2 l2' m2' : Nat} {o2 o2' : Co} (h : Two w0 w b1 g1 c1 l1 m1 o1 b2 g2 c2 l2 m2 o2) (hc : CoAt w' b2 g2 c2 l2' m2' o2') (hs : CStep b2 g2 l2 l2' w w') :
    Two w0 w' b1 g1 c1 l1 m1 o1 b2 g2 c2 l2' m2' o2' := (h.swap.step1 hc hs).swap
theorem Two.later {w0 w w' : World} {b1 g1 c1 l1 m1 : Nat} {o1 : Co} {b2 g2 c2 l2 m2 : Nat} {o2 : Co} (h : Two w0 w b1 g1 c1 l1 m1 o1 b2 g2 c2 l2 m2 o2) (f : Fr (fun _ => False) w w') : Two w0 w' b1 g1 c1 l1 m1 o1 b2 g2 c2 l2 m2 o2 :=
  ⟨h.at1.kept f (fun hh => hh) (fun hh => hh) (fun hh => hh), h.at2.kept f (fun hh => hh) (fun hh => hh) (fun hh => hh), h.fr.trans f (fun _ _ hh => hh), h.new1, h.new2, h.apart⟩

/-- Decisions that are handed in: their contexts, their bits. -/
structure DecsAt (w : World) (ao : Option Addr) (n : Nat) (K D : Nat → Int) : Prop where
  lim : n ≤ 9223372036854775807
  at_ : 0 < n → ∃ b off, ao = some ⟨b, off, none⟩ ∧ ∀ j, j < n → w.cell? ⟨b, off + j * 2 + 0, none⟩ = some (.int .i64 (K j)) ∧ w.cell? ⟨b, off + j * 2 + 1, none⟩ = some (.int .i64 (D j))
  bd : ∀ j, j < n → (-9223372036854775808 ≤ K j ∧ K j ≤ 9223372036854775807) ∧ (-9223372036854775808 ≤ D j ∧ D j ≤ 9223372036854775807)

theorem DecsAt.kept {w w' : World} {ao : Option Addr} {n : Nat} {K D : Nat → Int} (h : DecsAt w ao n K D) (f : Fr (fun _ => False) w w') : DecsAt w' ao n K D := by
  refine ⟨h.lim, fun hn => ?_, h.bd⟩
  obtain ⟨b, off, e, hc⟩ := h.at_ hn
  exact ⟨b, off, e, fun j hj => ⟨f.cell (hc j hj).1 (fun hh => hh), f.cell (hc j hj).2 (fun hh => hh)⟩⟩

/-- The lowest bit. -/
def lowBit (d : Int) : Nat := (d % 2).toNat
theorem lowBit_lt (d : Int) : lowBit d < 2 := by unfold lowBit; omega
theorem lowBit_and (d : Int) : bits .and .i64 d 1 = (lowBit d : Int) := by
  show IntKind.i64.wrap ((BitVec.ofInt 64 d &&& BitVec.ofInt 64 1).toNat : Int) = _
  rw [BitVec.toNat_and, BitVec.toNat_ofInt, show (BitVec.ofInt 64 1).toNat = 1 from rfl, Nat.and_one_is_mod, IntKind.wrap_i64]
  unfold lowBit
  omega

theorem placeOf_moved (x : Nat) (n : Nat) (m : Int) (hx : x < n) : placeOf ((x : Int) + n * m) n = x := by
  unfold placeOf
  rw [Int.add_mul_emod_self_left, Int.emod_eq_of_lt (by omega) (by omega)]; rfl
theorem placeOf_nat (x : Nat) (n : Nat) (hx : x < n) : placeOf (x : Int) n = x := by
  unfold placeOf
  rw [Int.emod_eq_of_lt (by omega) (by omega)]; rfl
theorem putP_congr (o : Co) (k k' : Int) (bit : Nat) (h : placeOf k o.x.length = placeOf k' o.x.length) : putP o k bit = putP o k' bit := by
  unfold putP; rw [h]
theorem putP_xlen (o : Co) (k : Int) (bit : Nat) : (putP o k bit).x.length = o.x.length := by simp [putP]

/-- A coder of n contexts behind the first k decisions. -/
def runC (n : Nat) (K : Nat → Int) (D : Nat → Nat) : Nat → Co
  | 0 => newP n
  | k + 1 => putP (runC n K D k) (K k) (D k)
theorem runC_ok {n : Nat} (h1 : 1 ≤ n) (h2 : n ≤ 131072) (K : Nat → Int) (D : Nat → Nat) : ∀ k, k ≤ 16777216 → Ook (runC n K D k) ∧ (runC n K D k).made = k ∧ (runC n K D k).x.length = n
  | 0, _ => ⟨newP_ok h1 h2, rfl, by simp [runC, newP]⟩
  | k + 1, h => by
    obtain ⟨a, b, c⟩ := runC_ok h1 h2 K D k (by omega)
    exact ⟨putP_ok a _ _ (by omega), by show (runC n K D k).made + 1 = _; omega, by show (putP _ _ _).x.length = n; rw [putP_xlen, c]⟩

end Go.Proofs.Ytkggdnkmaldmlaa
