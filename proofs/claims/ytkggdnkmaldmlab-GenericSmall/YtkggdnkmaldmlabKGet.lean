/- 'Get', 'NewDecoder'; a clone of bytes. -/
import Derived.Test.YtkggdnkmaldmlabKDec
import Derived.Test.YtkggdnkmaldmlabKFlush
namespace Go.Proofs.Ytkggdnkmaldmlab
open Go.RowKit

set_option maxRecDepth 100000 in
set_option maxHeartbeats 1000000 in
theorem clone_nil (w : World) : Calls Try.prog 19 #[.slice none 0 0] w fun e w' => e = .returned (.slice none 0 0) ∧ w' = w := by
  have q22 : ∀ (w : World) (a : Option Addr) (n c n' c' : Nat), (binOp .eql 37 (.slice a n c) (.slice none n' c')).run Try.prog w = .ok (.bool a.isNone) w := fun w a n c n' c' => Lib.run_eql_slice_nil w 37 5 a n c n' c' Try.underlying37
  go_enter Try.func19, Try.ntmps19
  go_wp2
  go_ret
  exact ⟨rfl, rfl⟩

set_option maxRecDepth 100000 in
set_option maxHeartbeats 1000000 in
theorem clone_some (a : Addr) (n cap : Nat) (l : List Nat) (w : World) (hl : l.length = n) (hn : n ≤ 140737488355328) (hc : ∀ (j : Nat) (u : Value), (byteCells l)[j]? = some u → w.cell? (a.add j) = some u) :
    Calls Try.prog 19 #[.slice (some a) n cap] w fun e w' => ∃ rv, e = .returned rv ∧ w'.ownsRow w.heap.size 5 1 rv n (byteCells l) ∧ Below w.heap.size w w' := by
  have q22 : ∀ (w : World) (a : Option Addr) (n c n' c' : Nat), (binOp .eql 37 (.slice a n c) (.slice none n' c')).run Try.prog w = .ok (.bool a.isNone) w := fun w a n c n' c' => Lib.run_eql_slice_nil w 37 5 a n c n' c' Try.underlying37
  obtain ⟨i0, hi, hz0, hz1, hz2⟩ := info_parts Try.info5
  have HC : Hid (∀ (j : Nat) (u : Value), (byteCells l)[j]? = some u → w.cell? (a.add j) = some u) := hc
  clear hc
  have hown : (w.alloc (.cells #[] 5)).ownsRow w.heap.size 5 1 (.slice (some ⟨w.heap.size, 0, none⟩) 0 0) 0 [] := World.ownsRow_made w #[] 0 (Nat.le_refl _) (by decide) rfl
  go_enter Try.func19, Try.ntmps19
  go_wp2_with (first | (at_builtin; refine wpList_append_own _ rfl _ _ 37 rfl w.heap.size 5 i0 (.int .u8 0) 1 1 Try.underlying37 hi hz0 hz1 hz2 rfl (by decide) _ _ _ rfl hown a n cap (byteCells l) rfl ?c0 ?c1 ?c2 ?c3 ?c4 ?c5 ?_))
  case c0 => rw [length_byteCells]; omega
  case c1 => exact fun j u hu => cell_later ((Below.refl _ _).alloc (Nat.le_refl _) _) (HC.out j u hu)
  case c2 => exact byteCells_one l
  case c3 => unfold maxLen; omega
  case c4 => omega
  case c5 => simp
  intro v' w1 hown' hgrow hnn
  have HO : Hid (w1.ownsRow w.heap.size 5 1 v' n (byteCells l)) := hown'
  have HB : Hid (Below w.heap.size w w1) := ((Below.refl _ _).alloc (Nat.le_refl _) _).grown hgrow (by simp) (fun k hk => by simp [Value.ownBlock] at hk; omega)
  clear hown' hgrow hnn hown
  go_wp2
  go_ret
  exact ⟨v', rfl, HO.out, HB.out⟩

theorem row_slice {w : World} {base e size n : Nat} {v : Value} {xs : List Value} (h : w.ownsRow base e size v n xs) : ∃ ao cap, v = .slice ao n cap := by
  rcases h.2 with ⟨rfl, e⟩ | ⟨g, cap, cur, rfl, _⟩
  · subst e; exact ⟨_, _, rfl⟩
  · exact ⟨_, _, rfl⟩

/-- A clone of bytes that can be read. -/
theorem clone_any (w : World) (v : Value) (l : List Nat) (h : SeenAt w v l) (hnil : v = .slice none 0 0 ∨ ∃ a n c, v = .slice (some a) n c) :
    Calls Try.prog 19 #[v] w fun e w' => ∃ rv, e = .returned rv ∧ w'.ownsRow 0 5 1 rv l.length (byteCells l) ∧ Fr (fun _ => False) w w' ∧ ∀ k, rv.ownBlock = some k → w.heap.size ≤ k := by
  obtain ⟨ao, cap, rfl, hl, hc⟩ := h
  rcases hnil with e | ⟨a, n, c, e⟩
  · simp only [Value.slice.injEq] at e
    obtain ⟨rfl, hl0, rfl⟩ := e
    rw [hl0]
    refine (clone_nil w).mono ?_
    rintro e w' ⟨rfl, rfl⟩
    refine ⟨_, rfl, ?_, Fr.refl _ _, fun k hk => by simp [Value.ownBlock] at hk⟩
    have := List.eq_nil_of_length_eq_zero hl0
    subst this
    exact ⟨rfl, Or.inl ⟨rfl, rfl⟩⟩
  · simp only [Value.slice.injEq] at e
    obtain ⟨rfl, hn, rfl⟩ := e
    refine (clone_some a l.length cap l w rfl hl ?_).mono ?_
    · intro j u hu
      have hj : j < l.length := by
        by_cases hj : j < l.length
        · exact hj
        · rw [byteCells_get, List.getElem?_eq_none (by omega)] at hu; cases hu
      obtain ⟨b, off, e, hcc⟩ := hc (by intro e; subst e; simp at hj)
      simp only [Option.some.injEq] at e
      subst e
      have := hcc j hj
      rw [byteCells_get, List.getElem?_eq_getElem hj] at hu
      rw [List.getElem?_eq_getElem hj] at this
      rw [← hu]
      exact (congrArg w.cell? (show (⟨b, off, none⟩ : Addr).add j = ⟨b, off + j, none⟩ by simp [Addr.add])).trans this
    · rintro e w' ⟨rv, rfl, ho, hb⟩
      exact ⟨rv, rfl, ownsRow_base ho (fun _ _ => Nat.zero_le _), Fr.of_below hb _, fun k hk => (ho.lt k hk).1⟩

set_option maxRecDepth 100000 in
set_option maxHeartbeats 1000000 in
/-- A decision. -/
theorem get_any (w : World) (bd gc cc : Nat) (vb : Value) (B : List Nat) (o : De) (h : DeAt w bd gc cc vb B o) (hok : Eok B o) (hm : o.made < 16777216) (i : Int) (hi : -9223372036854775808 ≤ i ∧ i ≤ 9223372036854775807) :
    Calls Try.prog 87 #[.pointer (some ⟨bd, 0, none⟩), .int .i64 i] w fun e w' => e = .returned (.tuple #[.int .i64 (getBit o i : Nat), .int .i64 0]) ∧ DeAt w' bd gc cc vb B (getP B o i) ∧ DStep bd gc w w' := by
  obtain ⟨e0, e1, e2, e3, e4, e5, e6, ef⟩ := cell_of_seven h.blk
  have HK : Hid (Eok B o) := hok
  have HI : Hid (-9223372036854775808 ≤ i ∧ i ≤ 9223372036854775807) := hi
  have HM : Hid (o.made < 16777216) := hm
  have HF : Hid (((o.made : Int) == 16777216) = false) := by show _ = _; rw [beq_eq_false_iff_ne]; omega
  have hs : Hid (DeAt (w.setCell ⟨bd, 1, none⟩ (.int .i64 ((o.made + 1 : Nat) : Int))) bd gc cc vb B { o with made := o.made + 1 }) := h.setMade (o.made + 1)
  have HST : Hid (DStep bd gc w (w.setCell ⟨bd, 1, none⟩ (.int .i64 ((o.made + 1 : Nat) : Int)))) := (Fr.set1 _ _ _ _).mono (fun _ _ e => Or.inl e)
  have HX : Hid (o.x.getD (placeOf i o.x.length) 0 < 94) := getD_lt hok.cells _
  obtain ⟨z, HZ⟩ : ∃ z, Hid (z = getBit o i) := ⟨_, rfl⟩
  have hz : z < 2 := by rw [HZ.out]; exact decBit_lt _ _
  rw [← HZ.out]
  clear h hok hi hm e2 e3 e4 e5
  go_enter Try.func87, Try.ntmps87
  go_wp2_with (first | (go_at_call 76; refine (isFull_at _ bd o.made e1 false HF.out).mono ?_; rintro e w1 ⟨rfl, rfl⟩) | (go_at_call 78; refine (next_at _ bd gc cc o.x.length o.made i HI.out HK.out.pos HK.out.lim HM.out e0 e1 (ef 1)).mono ?_; rintro e w2 ⟨rfl, rfl⟩))
  refine (decode_any _ bd gc cc vb B _ (placeOf i o.x.length) hs.out HK.out.bytes HK.out.ok (placeOf_lt i HK.out.pos) HX.out).mono ?_
  rintro e w3 ⟨rfl, hc3, hs3⟩
  have HC3 : Hid (DeAt w3 bd gc cc vb B (getP B o i)) := hc3
  have HS3 : Hid (DStep bd gc (w1.setCell ⟨bd, 1, none⟩ (.int .i64 ((o.made + 1 : Nat) : Int))) w3) := hs3
  have ez : decBit o.s (o.x.getD (placeOf i o.x.length) 0) = z := by rw [HZ.out]; rfl
  rw [ez]
  clear hc3 hs3 ez
  go_wp2_with fail
  go_ret2
  exact ⟨rfl, HC3.out, HST.out.trans HS3.out⟩

set_option maxRecDepth 100000 in
set_option maxHeartbeats 1000000 in
/-- What is refused. -/
theorem newDecoder_refuses (w : World) (v : Value) (i : Int) (h : ¬ (1 ≤ i ∧ i ≤ 131072)) :
    Calls Try.prog 7 #[v, .int .i64 i] w fun e w' => e = .returned (.tuple #[.pointer none, .int .i64 40]) ∧ w' = w := by
  have HT : Hid (∀ w, Calls Try.prog 17 #[.int .i64 i] w fun e w' => e = .returned (.bool false) ∧ w' = w) := fun w => isTable_at w i false (by simp [h])
  clear h
  go_enter Try.func7, Try.ntmps7
  go_wp2_with (first | (go_at_call 17; refine (HT.out _).mono ?_; rintro e w1 ⟨rfl, rfl⟩))
  go_ret2
  exact ⟨rfl, rfl⟩

set_option maxRecDepth 100000 in
set_option maxHeartbeats 1000000 in
theorem newDecoder_any (w : World) (v : Value) (B : List Nat) (n : Nat) (h1 : 1 ≤ n) (h2 : n ≤ 131072) (hv : SeenAt w v B) (hnil : v = .slice none 0 0 ∨ ∃ a n c, v = .slice (some a) n c) (hB : ∀ y ∈ B, y < 256) :
    Calls Try.prog 7 #[v, .int .i64 n] w fun e w' => ∃ bd gc vb, e = .returned (.tuple #[.pointer (some ⟨bd, 0, none⟩), .int .i64 0]) ∧ DeAt w' bd gc n vb B (newD B n) ∧ Fr (fun _ => False) w w' ∧ w.heap.size ≤ bd ∧ w.heap.size ≤ gc ∧ ∀ k, vb.ownBlock = some k → w.heap.size ≤ k := by
  have HT : Hid (∀ w, Calls Try.prog 17 #[.int .i64 n] w fun e w' => e = .returned (.bool true) ∧ w' = w) := fun w => isTable_at w n true (by rw [eq_comm, decide_eq_true_eq]; omega)
  have HN : Hid (1 ≤ n ∧ n ≤ 131072) := ⟨h1, h2⟩
  have HV : Hid (SeenAt w v B) := hv
  have HNIL : Hid (v = .slice none 0 0 ∨ ∃ a n c, v = .slice (some a) n c) := hnil
  have HB : Hid (∀ y ∈ B, y < 256) := hB
  have HL : Hid (B.length ≤ 140737488355328) := by obtain ⟨_, _, _, hl, _⟩ := hv; exact hl
  clear h1 h2 hv hnil hB
  go_enter Try.func7, Try.ntmps7
  go_wp2_with (first | (go_at_call 17; refine (HT.out _).mono ?_; rintro e w1 ⟨rfl, rfl⟩) | (go_at_call 18; refine (newTable_at _ n HN.out.1 HN.out.2).mono ?_; rintro e w2 ⟨g, rfl, hown, hf, hg⟩; have HO : Hid (w2.ownsRow 0 121 1 (.slice (some ⟨g, 0, none⟩) n n) n (byteCells (List.replicate n 0))) := hown; have HF : Hid (Fr (fun _ => False) w1 w2) := hf; clear hown hf))
  refine (clone_any w2 v B ?_ HNIL.out).mono ?_
  · obtain ⟨ao, cap, e, hl, hc⟩ := HV.out
    refine ⟨ao, cap, e, hl, fun hne => ?_⟩
    obtain ⟨b, off, e2, hcc⟩ := hc hne
    exact ⟨b, off, e2, fun j hj => HF.out.cell (hcc j hj) (fun hh => hh)⟩
  rintro e w3 ⟨rv, rfl, hown3, hf3, hr3⟩
  have HO3 : Hid (w3.ownsRow 0 5 1 rv B.length (byteCells B)) := hown3
  have HF3 : Hid (Fr (fun _ => False) w2 w3) := hf3
  have HR3 : Hid (∀ k, rv.ownBlock = some k → w2.heap.size ≤ k) := hr3
  obtain ⟨ao, cap, rfl⟩ := row_slice hown3
  clear hown3 hf3 hr3
  have HD : Hid (DeAt (w3.alloc (.cells #[.slice (some ⟨g, 0, none⟩) n n, .int .i64 0, .int .u32 32768, .int .u32 0, .int .i64 0, .slice ao B.length cap, .int .i64 0] 58)) w3.heap.size g n (.slice ao B.length cap) B { s := { a := 32768, c := 0, t := 0, p := 0 }, x := List.replicate n 0, made := 0 }) := by
    refine ⟨?_, ?_, HO3.out.alloc _, HL.out⟩
    · simp only [List.length_replicate]
      exact heap_alloc_new w3 _
    · simp only [List.length_replicate]
      exact (row_kept1 HO.out HF3.out (fun hh => hh)).alloc _
  obtain ⟨b0, Hb0⟩ : ∃ b0, Hid (b0 = byteD B 0) := ⟨_, rfl⟩
  have hb0 : b0 < 256 := by rw [Hb0.out]; exact byteD_lt HB.out 0
  have hb1 : (b0 : Int) * 65536 % 4294967296 = ((b0 * 65536 : Nat) : Int) := by omega
  generalize hV : Value.slice ao B.length cap = V at *
  have HVV : Hid (Value.slice ao B.length cap = V) := hV
  rw [← hV]
  clear hV
  go_wp2_with fail
  rw [HVV.out]
  refine (byteAt_any _ w3.heap.size g n V B _ HD.out HB.out 0 (by decide)).mono ?_
  rw [← Hb0.out]
  rintro e w4 ⟨rfl, rfl⟩
  have hlt0 := HD.out.lt
  obtain ⟨e0, e1, e2, e3, e4, e5, e6, ef⟩ := cell_of_seven HD.out.blk
  have HF4 : Hid (Fr (fun _ => False) w1 (w3.alloc (.cells #[.slice (some ⟨g, 0, none⟩) n n, .int .i64 0, .int .u32 32768, .int .u32 0, .int .i64 0, V, .int .i64 0] 58))) := (HF.out.trans HF3.out (fun _ _ hh => hh)).alloc _
  generalize World.alloc w3 _ = w4 at *
  simp only [List.length_replicate] at e0
  have HD2 : Hid (DeAt (w4.setCell ⟨w3.heap.size, 3, none⟩ (.int .u32 ((b0 : Int) * 65536))) w3.heap.size g n V B { s := { a := 32768, c := b0 * 65536, t := 0, p := 0 }, x := List.replicate n 0, made := 0 }) := by
    have := HD.out.setC (b0 * 65536)
    rw [show ((b0 * 65536 : Nat) : Int) = (b0 : Int) * 65536 by omega] at this
    exact this
  have HDW : Hid (Dw B { a := 32768, c := b0 * 65536, t := 0, p := 0 }) := ⟨by show 1 ≤ 32768; decide, by show 32768 < 65536; decide, by show b0 * 65536 < _; omega, Nat.zero_le _, Nat.zero_le _⟩
  have HS4 : Hid (DStep w3.heap.size g w4 (w4.setCell ⟨w3.heap.size, 3, none⟩ (.int .u32 ((b0 : Int) * 65536)))) := (Fr.set1 _ _ _ _).mono (fun _ _ e => Or.inl e)
  go_wp2_with fail
  refine (in_any _ w3.heap.size g n V B _ HD2.out HB.out HDW.out).mono ?_
  rintro e w5 ⟨rfl, hc5, hs5⟩
  obtain ⟨q0, q1, q2, q3, q4, q5, q6, qf⟩ := cell_of_seven hc5.blk
  have HC5 : Hid (DeAt w5 w3.heap.size g n V B { s := inD B { a := 32768, c := b0 * 65536, t := 0, p := 0 }, x := List.replicate n 0, made := 0 }) := hc5
  have HS5 : Hid (DStep w3.heap.size g (w4.setCell ⟨w3.heap.size, 3, none⟩ (.int .u32 ((b0 : Int) * 65536))) w5) := hs5
  clear hc5 hs5 e0 e1 e2 e3 e4 e5 e6 ef
  obtain ⟨hiw, hia, hit⟩ := inD_dw HDW.out
  have hic := hiw.clt
  have hitl := hiw.tlt
  have HNE : Hid (newD B n = { s := { inD B { a := 32768, c := b0 * 65536, t := 0, p := 0 } with c := (inD B { a := 32768, c := b0 * 65536, t := 0, p := 0 }).c * 128 % 4294967296, t := (inD B { a := 32768, c := b0 * 65536, t := 0, p := 0 }).t - 7 }, x := List.replicate n 0, made := 0 }) := by
    rw [Hb0.out]; rfl
  clear hiw hia
  generalize inD B { a := 32768, c := b0 * 65536, t := 0, p := 0 } = s2 at *
  obtain ⟨a, c, t, p⟩ := s2
  simp only [List.length_replicate] at q0 q1 q2 q3 q4 q5 q6 hic hitl hit HNE
  obtain ⟨d, HDD⟩ : ∃ d, Hid (d = c * 128 % 4294967296) := ⟨_, rfl⟩
  have hd : (c : Int) * 128 % 4294967296 = (d : Int) := by rw [HDD.out]; omega
  have hd2 : d < 4294967296 := by rw [HDD.out]; omega
  have hl5 := HC5.out.lt
  go_wp2_with fail
  go_ret2
  have h6 := (HC5.out.setC d).setT (t - 7)
  rw [show ((t - 7 : Nat) : Int) = (t : Int) - 7 by omega] at h6
  have s1 := HF.out.size
  have s2 := HF3.out.size
  refine ⟨w3.heap.size, g, V, rfl, ?_, ?_, by omega, hg, fun k hk => by have := HR3.out k hk; omega⟩
  · rw [HNE.out, ← HDD.out]; exact h6
  · refine HF4.out.trans (DStep.trans HS4.out (DStep.trans HS5.out (Fr.setCell (Fr.setCell (Fr.refl _ _) (fun _ => Or.inl rfl) _) (fun _ => Or.inl rfl) _))) ?_
    rintro i hi (e | e)
    · omega
    · omega

end Go.Proofs.Ytkggdnkmaldmlab
