/- The reference's coder: 'Flush'. -/
import Derived.BigQuiet
import Derived.BigRegion
import Derived.Test.YtllhekkclhcdbaaDoorKReP
import Derived.Test.YtllhekkclhcdbaaDoorKFlush
import Derived.Deep.AppendLies
namespace Go.Proofs.YtllhekkclhcdbaaDoor
open Go.RowKit

/-- The first half: C is set. -/
theorem flushC_eq (c a : Nat) : (c + a ≤ (c ||| 65535) → flushC c a = (c ||| 65535) - 32768) ∧ (¬ c + a ≤ (c ||| 65535) → flushC c a = (c ||| 65535)) := by
  unfold flushC
  exact ⟨fun h => if_pos h, fun h => if_neg h⟩

theorem addr_one (g j : Nat) : (⟨g, 1, none⟩ : Addr).add j = ⟨g, 1 + j, none⟩ := by unfold Addr.add; split <;> simp_all
theorem bytes_last (s : Cs) : s.bytes[s.b.length]?.getD 0 = s.l := by simp [Cs.bytes]
theorem byteCells_getD (s : Cs) (j : Nat) (hj : j < s.b.length + 1) : (byteCells s.bytes)[j]? = some (.int .u8 (s.bytes[j]?.getD 0 : Nat)) := by
  have hl : j < s.bytes.length := by simp [Cs.bytes]; omega
  rw [byteCells_get, List.getElem?_eq_getElem hl]; rfl
theorem news_at {w : World} {g : Nat} {s : Cs} (hc : ∀ j, j < s.b.length + 1 → w.cell? ⟨g, j, none⟩ = some (.int .u8 (s.bytes[j]?.getD 0 : Nat))) {l : List Nat} {j : Nat} {u : Value} (hu : (byteCells (l.drop 1))[j]? = some u) (hl : l = s.b ∨ l = s.b ++ [s.l]) : w.cell? ⟨g, 1 + j, none⟩ = some u := by
  rw [byteCells_get, List.getElem?_drop] at hu
  have hlt : 1 + j < l.length := by
    rcases Nat.lt_or_ge (1 + j) l.length with h | h
    · exact h
    · rw [List.getElem?_eq_none h] at hu; simp at hu
  have hll : l.length ≤ s.b.length + 1 := by rcases hl with rfl | rfl <;> simp
  rw [hc (1 + j) (by omega)]
  have he : s.bytes[1 + j]? = l[1 + j]? := by
    rcases hl with rfl | rfl
    · show (s.b ++ [s.l])[1 + j]? = _
      rw [List.getElem?_append_left hlt]
    · rfl
  rw [he]
  rw [List.getElem?_eq_getElem hlt] at hu ⊢
  simpa using hu

set_option maxRecDepth 100000 in
set_option maxHeartbeats 40000000 in
theorem rflush_any (w : World) (br gt ct gs gz n gb cb : Nat) (o : Co) (h : ReAt w br gt ct gs gz n gb cb o false) (hok : Ook o) :
    Calls Tryd.prog 28 #[.pointer (some ⟨br, 0, none⟩)] w fun e w' => ∃ gq N cq gb2 cb2, e = .returned (.tuple #[.slice (some ⟨gq, 0, none⟩) N cq, .int .i64 0]) ∧ w'.ownsRow 0 5 1 (.slice (some ⟨gq, 0, none⟩) N cq) N (byteCells (flushP o.s)) ∧ w.heap.size ≤ gq ∧ ReAt w' br gt ct gs gz n gb2 cb2 { o with s := flush2 o.s } true ∧ RStep br gs gz gb gb2 w w' := by
  obtain ⟨e0, e1, e2, e3, e4, e5, e6, e7, e8, ef⟩ := cell_of_nine h.blk
  have h1 := h.setDone
  have F1 : Fr (fun j => j = br) w (w.setCell ⟨br, 8, none⟩ (.bool true)) := Fr.set1 w br 8 _
  obtain ⟨w1, hw1⟩ : ∃ w1, w.setCell ⟨br, 8, none⟩ (.bool true) = w1 := ⟨_, rfl⟩
  rw [hw1] at h1 F1
  have H1 : Hid (ReAt w1 br gt ct gs gz n gb cb o true) := h1
  have HF1 : Hid (Fr (fun j => j = br) w w1) := F1
  obtain ⟨f0, f1, f2, f3, f4, f5, f6, f7, f8, ff⟩ := cell_of_nine h1.blk
  have hroom := hok.ok.cw.room
  have hcb : o.s.c + o.s.a ≤ 268435456 := Nat.le_trans (Nat.le_mul_of_pos_right _ (Nat.two_pow_pos o.s.t)) hroom
  have k1 : IntKind.i64.wrap ((o.s.c : Int) + (o.s.a : Int)) = (o.s.c : Int) + (o.s.a : Int) := by rw [IntKind.wrap_i64]; omega
  have ef8 := ef 8
  clear ef e0 e1 e2 e3 e4 e5 e6 e7 h1 F1 h
  go_enter Tryd.func28, Tryd.ntmps28
  go_wp2_with fail
  go_quiet (fail)
  have hnx := H1.out.kept (Fr.drewN (Fr.refl (fun _ => False) w1) nq) (fun h => h) (fun h => h) (fun h => h) (fun h => h) (fun h => h)
  have HFn : Hid (Fr (fun j => j = br) w (w1.drewN nq)) := HF1.out.drewN nq
  generalize w1.drewN nq = wn at *
  obtain ⟨d, hd⟩ : ∃ d, o.s.c ||| 65535 = d := ⟨_, rfl⟩
  have hol := or_low_le o.s.c
  rw [hd] at hol
  have kor : bits BinOp.or IntKind.i64 (o.s.c : Int) 65535 = (d : Int) := by
    show IntKind.i64.wrap ((BitVec.ofInt 64 (o.s.c : Int) ||| BitVec.ofInt 64 65535).toNat : Int) = _
    rw [BitVec.toNat_or, BitVec.toNat_ofInt, show (BitVec.ofInt 64 65535).toNat = 65535 from rfl, show ((o.s.c : Int) % ((2 ^ 64 : Nat) : Int)).toNat = o.s.c by omega, hd, IntKind.wrap_i64]
    omega
  obtain ⟨g0, g1, g2, g3, g4, g5, g6, g7, g8, gf⟩ := cell_of_nine hnx.blk
  have gf5 := gf 5
  have h3 := hnx.setC d
  obtain ⟨w3, hw3⟩ : ∃ w3, wn.setCell ⟨br, 5, none⟩ (.int .i64 (d : Int)) = w3 := ⟨_, rfl⟩
  have HF3 : Hid (Fr (fun j => j = br) w w3) := by rw [← hw3]; exact HFn.out.setCell (p := ⟨br, 5, none⟩) (fun _ => rfl) _
  rw [hw3] at h3
  have HR3 : Hid (ReAt w3 br gt ct gs gz n gb cb { o with s := { o.s with c := d } } true) := h3
  obtain ⟨p0, p1, p2, p3, p4, p5, p6, p7, p8, pf⟩ := cell_of_nine h3.blk
  have pf5 := pf 5
  obtain ⟨q1', q2'⟩ := flushC_eq o.s.c o.s.a
  rw [hd] at q1' q2'
  clear gf pf h3 hnx
  by_cases hge : o.s.c + o.s.a ≤ d
  · have hd1 : decide ((o.s.c : Int) + (o.s.a : Int) ≤ (d : Int)) = true := decide_eq_true (by omega)
    have hf := q1' hge
    have hd65 : 32768 ≤ d := by rw [← hd]; have := @Nat.right_le_or o.s.c 65535; omega
    have kd : IntKind.i64.wrap ((d : Int) - 32768) = ((d - 32768 : Nat) : Int) := by rw [IntKind.wrap_i64]; omega
    obtain ⟨d2, hd2⟩ : ∃ d2, d - 32768 = d2 := ⟨_, rfl⟩
    rw [hd2] at kd hf
    have h4 := HR3.out.setC d2
    obtain ⟨w4, hw4⟩ : ∃ w4, w3.setCell ⟨br, 5, none⟩ (.int .i64 (d2 : Int)) = w4 := ⟨_, rfl⟩
    have HF4 : Hid (Fr (fun j => j = br) w w4) := by rw [← hw4]; exact HF3.out.setCell (p := ⟨br, 5, none⟩) (fun _ => rfl) _
    rw [hw4] at h4
    have HR4 : Hid (ReAt w4 br gt ct gs gz n gb cb { o with s := { o.s with c := flushC o.s.c o.s.a } } true) := by rw [hf]; exact h4
    clear h4 q1' q2' hge hd hol hd2 hd65 hf
    go_wp2_with fail
    obtain ⟨x, hx⟩ : ∃ x, flushC o.s.c o.s.a = x := ⟨_, rfl⟩
    rw [hx] at HR4
    have hxl : x * 2 ^ o.s.t < 268435456 := by
      rw [← hx]
      exact Nat.lt_of_lt_of_le (Nat.mul_lt_mul_of_pos_right (flushC_lt hok.ok.half) (Nat.two_pow_pos _)) hroom
    have Hx : Hid (flushC o.s.c o.s.a = x ∧ x * 2 ^ o.s.t < 268435456) := ⟨hx, hxl⟩
    have ht12 := hok.ok.cw.tlt
    have mt : min o.s.t 64 = o.s.t := by omega
    have kt : IntKind.u64.wrap (o.s.t : Int) = (o.s.t : Int) := by rw [IntKind.wrap_u64]; omega
    have ks : IntKind.i64.wrap ((x : Int) * 2 ^ o.s.t) = ((x * 2 ^ o.s.t : Nat) : Int) := by
      rw [show (x : Int) * 2 ^ o.s.t = ((x * 2 ^ o.s.t : Nat) : Int) by push_cast; rfl, IntKind.wrap_i64]; omega
    obtain ⟨X, hX⟩ : ∃ X, x * 2 ^ o.s.t = X := ⟨_, rfl⟩
    rw [hX] at ks hxl
    have ka : bits BinOp.and IntKind.i64 (X : Int) 4294967295 = (X : Int) := by
      have := band64 X 32 (by omega) (by decide)
      rw [Nat.mod_eq_of_lt (show X < 2 ^ 32 by have : (2 : Nat) ^ 32 = 4294967296 := rfl; omega)] at this
      exact this
    obtain ⟨q0, q1, q2, q3, q4, q5, q6, q7, q8, qf⟩ := cell_of_nine HR4.out.blk
    have qf5 := qf 5
    clear qf hx hroom hcb k1 kor p5 pf5 g5 gf5
    go_region
    all_goals go_wp2_with fail
    have hr5 := (HR4.out.setC X).kept (Fr.drew (Fr.refl (fun _ => False) _)) (fun h => h) (fun h => h) (fun h => h) (fun h => h) (fun h => h)
    have hs5 : RStep br gs gz gb gb w (w4.setCell ⟨br, 5, none⟩ (.int .i64 (X : Int))).drew := RStep.of_fr ((((HF4.out.mono (fun _ _ h => Or.inl h)).setCell (p := ⟨br, 5, none⟩) (fun _ => Or.inl rfl) _)).drew)
    have hlen9 : o.s.b.length ≤ 900000000 := by have h9 := hok.len; have h8 := hok.made; omega
    refine (rout_any _ br gt ct gs gz n gb cb _ true hr5 hxl hok.ok.cw.llt (by show o.s.b.length ≤ 1000000000; omega)).mono ?_
    rintro e w6 ⟨rfl, gb1, cb1, hr6, hst6⟩
    have HS6 : Hid (RStep br gs gz gb gb1 w w6) := hs5.trans hst6
    have ef1 : flush1 o.s = outP { o.s with c := X } := by rw [← hX, ← Hx.out.1]; rfl
    have hw : Cw (outP { o.s with a := 1, c := X }) := outP_cw (Nat.le_refl 1) (by show 1 < 65536; decide) hok.ok.cw.llt hok.ok.cw.blt
    have hx2 : (flush1 o.s).c * 2 ^ (flush1 o.s).t < 268435456 := by
      rw [ef1]
      refine Nat.lt_of_lt_of_le ?_ hw.room
      exact Nat.mul_lt_mul_of_pos_right (by show _ < _ + 1; exact Nat.lt_succ_self _) (Nat.two_pow_pos _)
    have hl2 : (flush1 o.s).l < 256 ∧ (flush1 o.s).t ≤ 12 ∧ (flush1 o.s).b.length = o.s.b.length + 1 := by
      rw [ef1]; exact ⟨hw.llt, hw.tlt, by simp [outP]⟩
    have hbl2 : ∀ z ∈ (flush1 o.s).b, z < 256 := by rw [ef1]; exact hw.blt
    have HR6 : Hid (ReAt w6 br gt ct gs gz n gb1 cb1 { o with s := flush1 o.s } true) := by rw [ef1]; exact hr6
    obtain ⟨s1, hs1⟩ : ∃ s1, flush1 o.s = s1 := ⟨_, rfl⟩
    rw [hs1] at HR6 hx2 hl2 hbl2
    obtain ⟨hl2a, hl2b, hl2c⟩ := hl2
    have mt2 : min s1.t 64 = s1.t := by omega
    have kt2 : IntKind.u64.wrap (s1.t : Int) = (s1.t : Int) := by rw [IntKind.wrap_u64]; omega
    have ks2 : IntKind.i64.wrap ((s1.c : Int) * 2 ^ s1.t) = ((s1.c * 2 ^ s1.t : Nat) : Int) := by
      rw [show (s1.c : Int) * 2 ^ s1.t = ((s1.c * 2 ^ s1.t : Nat) : Int) by push_cast; rfl, IntKind.wrap_i64]; omega
    obtain ⟨X2, hX2⟩ : ∃ X2, s1.c * 2 ^ s1.t = X2 := ⟨_, rfl⟩
    rw [hX2] at ks2 hx2
    have ka2 : bits BinOp.and IntKind.i64 (X2 : Int) 4294967295 = (X2 : Int) := by
      have := band64 X2 32 (by omega) (by decide)
      rw [Nat.mod_eq_of_lt (show X2 < 2 ^ 32 by have : (2 : Nat) ^ 32 = 4294967296 := rfl; omega)] at this
      exact this
    obtain ⟨r0, r1, r2, r3, r4, r5, r6, r7, r8, rf⟩ := cell_of_nine HR6.out.blk
    have rf5 := rf 5
    clear rf hr5 hr6 hst6 hw ef1 ks ka mt kt q0 q1 q2 q3 q4 q5 q6 q7 q8 qf5 hs5
    go_wp2_with fail
    go_region
    all_goals go_wp2_with fail
    have hr7 := (HR6.out.setC X2).kept (Fr.drew (Fr.refl (fun _ => False) _)) (fun h => h) (fun h => h) (fun h => h) (fun h => h) (fun h => h)
    have hs7 : RStep br gs gz gb gb1 w (w6.setCell ⟨br, 5, none⟩ (.int .i64 (X2 : Int))).drew := HS6.out.trans (RStep.of_fr (((Fr.refl _ w6).setCell (p := ⟨br, 5, none⟩) (fun _ => Or.inl rfl) _).drew))
    refine (rout_any _ br gt ct gs gz n gb1 cb1 _ true hr7 hx2 hl2a (by show s1.b.length ≤ 1000000000; omega)).mono ?_
    rintro e w8 ⟨rfl, gb2, cb2, hr8, hst8⟩
    have HS8 : Hid (RStep br gs gz gb gb2 w w8) := hs7.trans hst8
    have ef2 : flush2 o.s = outP { s1 with c := X2 } := by rw [← hX2, ← hs1]; rfl
    have hw2 : Cw (outP { s1 with a := 1, c := X2 }) := outP_cw (Nat.le_refl 1) (by show 1 < 65536; decide) hl2a hbl2
    have hl3 : (flush2 o.s).l < 256 ∧ (flush2 o.s).b.length = o.s.b.length + 2 := by
      rw [ef2]; exact ⟨hw2.llt, by simp [outP]; omega⟩
    have HR8 : Hid (ReAt w8 br gt ct gs gz n gb2 cb2 { o with s := flush2 o.s } true) := by rw [ef2]; exact hr8
    obtain ⟨s2, hs2⟩ : ∃ s2, flush2 o.s = s2 := ⟨_, rfl⟩
    rw [hs2] at HR8 hl3
    obtain ⟨hl3a, hl3c⟩ := hl3
    clear hr7 hs7 hr8 hst8 hw2 ef2 ks2 ka2 mt2 kt2 r0 r1 r2 r3 r4 r5 r6 r7 r8 rf5

    have HB8 : Hid (s2.b.length = o.s.b.length + 2 ∧ s2.l < 256) := ⟨hl3c, hl3a⟩
    have hcell : ∀ j, j < s2.b.length + 1 → w8.cell? ⟨gb2, j, none⟩ = some (.int .u8 (s2.bytes[j]?.getD 0 : Nat)) := fun j hj => by
      rw [HR8.out.bs.cellAt j (by show j < (s2.b.length + 1) * 1; omega)]
      exact byteCells_getD s2 j hj
    have HCL : Hid (∀ j, j < s2.b.length + 1 → w8.cell? ⟨gb2, j, none⟩ = some (.int .u8 (s2.bytes[j]?.getD 0 : Nat))) := hcell
    have hlast : w8.cell? ⟨gb2, s2.b.length, none⟩ = some (.int .u8 (s2.l : Nat)) := by
      have h := hcell s2.b.length (by omega)
      rwa [bytes_last] at h
    have HCP : Hid (s2.b.length + 1 ≤ cb2 ∧ cb2 ≤ maxLen) := by
      rcases HR8.out.bs.2 with ⟨e, _⟩ | ⟨g', cap', cur, e, _, _, hc, hm, _⟩
      · cases e
      · simp at e; obtain ⟨_, rfl⟩ := e; exact ⟨hc, hm⟩
    obtain ⟨u0, u1, u2, u3, u4, u5, u6, u7, u8, uf⟩ := cell_of_nine HR8.out.blk
    simp only [] at u7
    clear uf hcell u0 u1 u2 u3 u4 u5 u6 u8
    obtain ⟨L, hL⟩ : ∃ L, L = s2.b.length := ⟨_, rfl⟩
    have HL : Hid (L = s2.b.length) := hL
    rw [← hL] at u7 hlast
    have hL2 : L = o.s.b.length + 2 := by rw [hL]; exact HB8.out.1
    have hL9 : L ≤ 900000002 := by omega
    have hcp1 := HCP.out.1
    have hcp2 := HCP.out.2
    rw [← hL] at hcp1
    unfold maxLen at hcp2
    have hL1 : 1 < L := by omega
    clear hL hL2 hl3c hl2c hlen9
    have kn1 : IntKind.i64.wrap ((L : Int) + 1 - 1) = (L : Int) := by rw [IntKind.wrap_i64]; omega
    have i1 : (0 : Int) ≤ (L : Int) := by omega
    have i2 : (L : Int) < (L : Int) + 1 := by omega
    by_cases hff : s2.l = 255
    · have hq : (((s2.l : Nat) : Int) == 255) = true := by rw [hff]; rfl
      have hfl : flushP o.s = s2.b.drop 1 := by unfold flushP; rw [hs2, if_pos hff]
      have HNW : Hid ((byteCells (flushP o.s)).length = (L - 1) * 1 ∧ (∀ j u, (byteCells (flushP o.s))[j]? = some u → w8.cell? ((⟨gb2, 1, none⟩ : Addr).add j) = some u) ∧ ∀ u ∈ byteCells (flushP o.s), u.oneCell' = true) := by
        refine ⟨?_, fun j u hu => ?_, byteCells_one _⟩
        · rw [length_byteCells, hfl, List.length_drop, ← HL.out]; omega
        · rw [addr_one]
          exact news_at (HCL.out) (by rw [hfl] at hu; exact hu) (Or.inl rfl)
      have HFL : Hid (flushP o.s = flushP o.s) := rfl
      have HRE : Hid (∀ u, Fr (fun _ => False) w8 u → ReAt u br gt ct gs gz n gb2 cb2 { o with s := flush2 o.s } true ∧ RStep br gs gz gb gb2 w u) := fun u hf => by
        refine ⟨?_, HS8.out.trans (RStep.of_fr (hf.mono (fun _ _ h => h.elim)))⟩
        rw [hs2]
        exact HR8.out.kept hf (fun h => h) (fun h => h) (fun h => h) (fun h => h) (fun h => h)
      have HSZ : Hid (w.heap.size ≤ w8.heap.size) := HS8.out.fr.size
      clear hfl hff HFL
      obtain ⟨i0, hi, hz0, hz1, hz2⟩ := info_parts Tryd.info5
      go_wp2_with (first | (at_builtin; refine wpList_append_lies _ rfl _ _ 24 rfl 0 5 i0 (.int .u8 0) 1 1 Tryd.underlying24 hi hz0 hz1 hz2 rfl (by decide) (.slice none 0 0) 0 [] rfl (World.ownsRow_nil _ _ _ _) ⟨gb2, 1, none⟩ (L - 1) _ (byteCells (flushP o.s)) rfl HNW.out.1 HNW.out.2.1 HNW.out.2.2 ?c1 ?c2 ?c3 (Nat.zero_le _) w8.heap.size rfl ?_))
      case c1 => omega
      case c2 => unfold maxLen; omega
      case c3 => omega
      intro g' cap' w9 hown9 hgrow9 hat9 hlt9
      have HF9 : Hid (Fr (fun _ => False) w8 w9) := (Fr.refl _ _).grown hgrow9 (fun k hk _ => by cases hk)
      have HO9 : Hid (w9.ownsRow 0 5 1 (.slice (some ⟨g', 0, none⟩) (L - 1) cap') (L - 1) (byteCells (flushP o.s))) := hown9
      have HG9 : Hid (g' = w8.heap.size) := by rcases hat9 with h | h; cases h; exact h
      clear hown9 hgrow9 hat9 hlt9
      go_wp2_with fail
      go_ret2
      exact ⟨g', _, cap', gb2, cb2, rfl, HO9.out, by have := HG9.out; have := HSZ.out; omega, (HRE.out _ HF9.out).1, (HRE.out _ HF9.out).2⟩
    · have hq : (((s2.l : Nat) : Int) == 255) = false := by simp; omega
      have hfl : flushP o.s = (s2.b ++ [s2.l]).drop 1 := by unfold flushP; rw [hs2, if_neg hff]
      have HNW : Hid ((byteCells (flushP o.s)).length = L * 1 ∧ (∀ j u, (byteCells (flushP o.s))[j]? = some u → w8.cell? ((⟨gb2, 1, none⟩ : Addr).add j) = some u) ∧ ∀ u ∈ byteCells (flushP o.s), u.oneCell' = true) := by
        refine ⟨?_, fun j u hu => ?_, byteCells_one _⟩
        · rw [length_byteCells, hfl, List.length_drop, List.length_append, ← HL.out]; simp
        · rw [addr_one]
          exact news_at (HCL.out) (by rw [hfl] at hu; exact hu) (Or.inr rfl)
      have HFL : Hid (flushP o.s = flushP o.s) := rfl
      have HRE : Hid (∀ u, Fr (fun _ => False) w8 u → ReAt u br gt ct gs gz n gb2 cb2 { o with s := flush2 o.s } true ∧ RStep br gs gz gb gb2 w u) := fun u hf => by
        refine ⟨?_, HS8.out.trans (RStep.of_fr (hf.mono (fun _ _ h => h.elim)))⟩
        rw [hs2]
        exact HR8.out.kept hf (fun h => h) (fun h => h) (fun h => h) (fun h => h) (fun h => h)
      have HSZ : Hid (w.heap.size ≤ w8.heap.size) := HS8.out.fr.size
      clear hfl hff HFL
      obtain ⟨i0, hi, hz0, hz1, hz2⟩ := info_parts Tryd.info5
      go_wp2_with (first | (at_builtin; refine wpList_append_lies _ rfl _ _ 24 rfl 0 5 i0 (.int .u8 0) 1 1 Tryd.underlying24 hi hz0 hz1 hz2 rfl (by decide) (.slice none 0 0) 0 [] rfl (World.ownsRow_nil _ _ _ _) ⟨gb2, 1, none⟩ (L) _ (byteCells (flushP o.s)) rfl HNW.out.1 HNW.out.2.1 HNW.out.2.2 ?c1 ?c2 ?c3 (Nat.zero_le _) w8.heap.size rfl ?_))
      case c1 => omega
      case c2 => unfold maxLen; omega
      case c3 => omega
      intro g' cap' w9 hown9 hgrow9 hat9 hlt9
      have HF9 : Hid (Fr (fun _ => False) w8 w9) := (Fr.refl _ _).grown hgrow9 (fun k hk _ => by cases hk)
      have HO9 : Hid (w9.ownsRow 0 5 1 (.slice (some ⟨g', 0, none⟩) (L) cap') (L) (byteCells (flushP o.s))) := hown9
      have HG9 : Hid (g' = w8.heap.size) := by rcases hat9 with h | h; cases h; exact h
      clear hown9 hgrow9 hat9 hlt9
      go_wp2_with fail
      go_ret2
      exact ⟨g', _, cap', gb2, cb2, rfl, HO9.out, by have := HG9.out; have := HSZ.out; omega, (HRE.out _ HF9.out).1, (HRE.out _ HF9.out).2⟩
  · have hd1 : decide ((o.s.c : Int) + (o.s.a : Int) ≤ (d : Int)) = false := decide_eq_false (by omega)
    have hf := q2' hge
    have HR4 : Hid (ReAt w3 br gt ct gs gz n gb cb { o with s := { o.s with c := flushC o.s.c o.s.a } } true) := by rw [hf]; exact HR3.out
    have HF4 : Hid (Fr (fun j => j = br) w w3) := HF3.out
    clear q1' q2' hge hd hol hf
    go_wp2_with fail
    obtain ⟨x, hx⟩ : ∃ x, flushC o.s.c o.s.a = x := ⟨_, rfl⟩
    rw [hx] at HR4
    have hxl : x * 2 ^ o.s.t < 268435456 := by
      rw [← hx]
      exact Nat.lt_of_lt_of_le (Nat.mul_lt_mul_of_pos_right (flushC_lt hok.ok.half) (Nat.two_pow_pos _)) hroom
    have Hx : Hid (flushC o.s.c o.s.a = x ∧ x * 2 ^ o.s.t < 268435456) := ⟨hx, hxl⟩
    have ht12 := hok.ok.cw.tlt
    have mt : min o.s.t 64 = o.s.t := by omega
    have kt : IntKind.u64.wrap (o.s.t : Int) = (o.s.t : Int) := by rw [IntKind.wrap_u64]; omega
    have ks : IntKind.i64.wrap ((x : Int) * 2 ^ o.s.t) = ((x * 2 ^ o.s.t : Nat) : Int) := by
      rw [show (x : Int) * 2 ^ o.s.t = ((x * 2 ^ o.s.t : Nat) : Int) by push_cast; rfl, IntKind.wrap_i64]; omega
    obtain ⟨X, hX⟩ : ∃ X, x * 2 ^ o.s.t = X := ⟨_, rfl⟩
    rw [hX] at ks hxl
    have ka : bits BinOp.and IntKind.i64 (X : Int) 4294967295 = (X : Int) := by
      have := band64 X 32 (by omega) (by decide)
      rw [Nat.mod_eq_of_lt (show X < 2 ^ 32 by have : (2 : Nat) ^ 32 = 4294967296 := rfl; omega)] at this
      exact this
    obtain ⟨q0, q1, q2, q3, q4, q5, q6, q7, q8, qf⟩ := cell_of_nine HR4.out.blk
    have qf5 := qf 5
    clear qf hx hroom hcb k1 kor p5 pf5 g5 gf5
    go_region
    all_goals go_wp2_with fail
    have hr5 := (HR4.out.setC X).kept (Fr.drew (Fr.refl (fun _ => False) _)) (fun h => h) (fun h => h) (fun h => h) (fun h => h) (fun h => h)
    have hs5 : RStep br gs gz gb gb w (w3.setCell ⟨br, 5, none⟩ (.int .i64 (X : Int))).drew := RStep.of_fr ((((HF4.out.mono (fun _ _ h => Or.inl h)).setCell (p := ⟨br, 5, none⟩) (fun _ => Or.inl rfl) _)).drew)
    have hlen9 : o.s.b.length ≤ 900000000 := by have h9 := hok.len; have h8 := hok.made; omega
    refine (rout_any _ br gt ct gs gz n gb cb _ true hr5 hxl hok.ok.cw.llt (by show o.s.b.length ≤ 1000000000; omega)).mono ?_
    rintro e w6 ⟨rfl, gb1, cb1, hr6, hst6⟩
    have HS6 : Hid (RStep br gs gz gb gb1 w w6) := hs5.trans hst6
    have ef1 : flush1 o.s = outP { o.s with c := X } := by rw [← hX, ← Hx.out.1]; rfl
    have hw : Cw (outP { o.s with a := 1, c := X }) := outP_cw (Nat.le_refl 1) (by show 1 < 65536; decide) hok.ok.cw.llt hok.ok.cw.blt
    have hx2 : (flush1 o.s).c * 2 ^ (flush1 o.s).t < 268435456 := by
      rw [ef1]
      refine Nat.lt_of_lt_of_le ?_ hw.room
      exact Nat.mul_lt_mul_of_pos_right (by show _ < _ + 1; exact Nat.lt_succ_self _) (Nat.two_pow_pos _)
    have hl2 : (flush1 o.s).l < 256 ∧ (flush1 o.s).t ≤ 12 ∧ (flush1 o.s).b.length = o.s.b.length + 1 := by
      rw [ef1]; exact ⟨hw.llt, hw.tlt, by simp [outP]⟩
    have hbl2 : ∀ z ∈ (flush1 o.s).b, z < 256 := by rw [ef1]; exact hw.blt
    have HR6 : Hid (ReAt w6 br gt ct gs gz n gb1 cb1 { o with s := flush1 o.s } true) := by rw [ef1]; exact hr6
    obtain ⟨s1, hs1⟩ : ∃ s1, flush1 o.s = s1 := ⟨_, rfl⟩
    rw [hs1] at HR6 hx2 hl2 hbl2
    obtain ⟨hl2a, hl2b, hl2c⟩ := hl2
    have mt2 : min s1.t 64 = s1.t := by omega
    have kt2 : IntKind.u64.wrap (s1.t : Int) = (s1.t : Int) := by rw [IntKind.wrap_u64]; omega
    have ks2 : IntKind.i64.wrap ((s1.c : Int) * 2 ^ s1.t) = ((s1.c * 2 ^ s1.t : Nat) : Int) := by
      rw [show (s1.c : Int) * 2 ^ s1.t = ((s1.c * 2 ^ s1.t : Nat) : Int) by push_cast; rfl, IntKind.wrap_i64]; omega
    obtain ⟨X2, hX2⟩ : ∃ X2, s1.c * 2 ^ s1.t = X2 := ⟨_, rfl⟩
    rw [hX2] at ks2 hx2
    have ka2 : bits BinOp.and IntKind.i64 (X2 : Int) 4294967295 = (X2 : Int) := by
      have := band64 X2 32 (by omega) (by decide)
      rw [Nat.mod_eq_of_lt (show X2 < 2 ^ 32 by have : (2 : Nat) ^ 32 = 4294967296 := rfl; omega)] at this
      exact this
    obtain ⟨r0, r1, r2, r3, r4, r5, r6, r7, r8, rf⟩ := cell_of_nine HR6.out.blk
    have rf5 := rf 5
    clear rf hr5 hr6 hst6 hw ef1 ks ka mt kt q0 q1 q2 q3 q4 q5 q6 q7 q8 qf5 hs5
    go_wp2_with fail
    go_region
    all_goals go_wp2_with fail
    have hr7 := (HR6.out.setC X2).kept (Fr.drew (Fr.refl (fun _ => False) _)) (fun h => h) (fun h => h) (fun h => h) (fun h => h) (fun h => h)
    have hs7 : RStep br gs gz gb gb1 w (w6.setCell ⟨br, 5, none⟩ (.int .i64 (X2 : Int))).drew := HS6.out.trans (RStep.of_fr (((Fr.refl _ w6).setCell (p := ⟨br, 5, none⟩) (fun _ => Or.inl rfl) _).drew))
    refine (rout_any _ br gt ct gs gz n gb1 cb1 _ true hr7 hx2 hl2a (by show s1.b.length ≤ 1000000000; omega)).mono ?_
    rintro e w8 ⟨rfl, gb2, cb2, hr8, hst8⟩
    have HS8 : Hid (RStep br gs gz gb gb2 w w8) := hs7.trans hst8
    have ef2 : flush2 o.s = outP { s1 with c := X2 } := by rw [← hX2, ← hs1]; rfl
    have hw2 : Cw (outP { s1 with a := 1, c := X2 }) := outP_cw (Nat.le_refl 1) (by show 1 < 65536; decide) hl2a hbl2
    have hl3 : (flush2 o.s).l < 256 ∧ (flush2 o.s).b.length = o.s.b.length + 2 := by
      rw [ef2]; exact ⟨hw2.llt, by simp [outP]; omega⟩
    have HR8 : Hid (ReAt w8 br gt ct gs gz n gb2 cb2 { o with s := flush2 o.s } true) := by rw [ef2]; exact hr8
    obtain ⟨s2, hs2⟩ : ∃ s2, flush2 o.s = s2 := ⟨_, rfl⟩
    rw [hs2] at HR8 hl3
    obtain ⟨hl3a, hl3c⟩ := hl3
    clear hr7 hs7 hr8 hst8 hw2 ef2 ks2 ka2 mt2 kt2 r0 r1 r2 r3 r4 r5 r6 r7 r8 rf5

    have HB8 : Hid (s2.b.length = o.s.b.length + 2 ∧ s2.l < 256) := ⟨hl3c, hl3a⟩
    have hcell : ∀ j, j < s2.b.length + 1 → w8.cell? ⟨gb2, j, none⟩ = some (.int .u8 (s2.bytes[j]?.getD 0 : Nat)) := fun j hj => by
      rw [HR8.out.bs.cellAt j (by show j < (s2.b.length + 1) * 1; omega)]
      exact byteCells_getD s2 j hj
    have HCL : Hid (∀ j, j < s2.b.length + 1 → w8.cell? ⟨gb2, j, none⟩ = some (.int .u8 (s2.bytes[j]?.getD 0 : Nat))) := hcell
    have hlast : w8.cell? ⟨gb2, s2.b.length, none⟩ = some (.int .u8 (s2.l : Nat)) := by
      have h := hcell s2.b.length (by omega)
      rwa [bytes_last] at h
    have HCP : Hid (s2.b.length + 1 ≤ cb2 ∧ cb2 ≤ maxLen) := by
      rcases HR8.out.bs.2 with ⟨e, _⟩ | ⟨g', cap', cur, e, _, _, hc, hm, _⟩
      · cases e
      · simp at e; obtain ⟨_, rfl⟩ := e; exact ⟨hc, hm⟩
    obtain ⟨u0, u1, u2, u3, u4, u5, u6, u7, u8, uf⟩ := cell_of_nine HR8.out.blk
    simp only [] at u7
    clear uf hcell u0 u1 u2 u3 u4 u5 u6 u8
    obtain ⟨L, hL⟩ : ∃ L, L = s2.b.length := ⟨_, rfl⟩
    have HL : Hid (L = s2.b.length) := hL
    rw [← hL] at u7 hlast
    have hL2 : L = o.s.b.length + 2 := by rw [hL]; exact HB8.out.1
    have hL9 : L ≤ 900000002 := by omega
    have hcp1 := HCP.out.1
    have hcp2 := HCP.out.2
    rw [← hL] at hcp1
    unfold maxLen at hcp2
    have hL1 : 1 < L := by omega
    clear hL hL2 hl3c hl2c hlen9
    have kn1 : IntKind.i64.wrap ((L : Int) + 1 - 1) = (L : Int) := by rw [IntKind.wrap_i64]; omega
    have i1 : (0 : Int) ≤ (L : Int) := by omega
    have i2 : (L : Int) < (L : Int) + 1 := by omega
    by_cases hff : s2.l = 255
    · have hq : (((s2.l : Nat) : Int) == 255) = true := by rw [hff]; rfl
      have hfl : flushP o.s = s2.b.drop 1 := by unfold flushP; rw [hs2, if_pos hff]
      have HNW : Hid ((byteCells (flushP o.s)).length = (L - 1) * 1 ∧ (∀ j u, (byteCells (flushP o.s))[j]? = some u → w8.cell? ((⟨gb2, 1, none⟩ : Addr).add j) = some u) ∧ ∀ u ∈ byteCells (flushP o.s), u.oneCell' = true) := by
        refine ⟨?_, fun j u hu => ?_, byteCells_one _⟩
        · rw [length_byteCells, hfl, List.length_drop, ← HL.out]; omega
        · rw [addr_one]
          exact news_at (HCL.out) (by rw [hfl] at hu; exact hu) (Or.inl rfl)
      have HFL : Hid (flushP o.s = flushP o.s) := rfl
      have HRE : Hid (∀ u, Fr (fun _ => False) w8 u → ReAt u br gt ct gs gz n gb2 cb2 { o with s := flush2 o.s } true ∧ RStep br gs gz gb gb2 w u) := fun u hf => by
        refine ⟨?_, HS8.out.trans (RStep.of_fr (hf.mono (fun _ _ h => h.elim)))⟩
        rw [hs2]
        exact HR8.out.kept hf (fun h => h) (fun h => h) (fun h => h) (fun h => h) (fun h => h)
      have HSZ : Hid (w.heap.size ≤ w8.heap.size) := HS8.out.fr.size
      clear hfl hff HFL
      obtain ⟨i0, hi, hz0, hz1, hz2⟩ := info_parts Tryd.info5
      go_wp2_with (first | (at_builtin; refine wpList_append_lies _ rfl _ _ 24 rfl 0 5 i0 (.int .u8 0) 1 1 Tryd.underlying24 hi hz0 hz1 hz2 rfl (by decide) (.slice none 0 0) 0 [] rfl (World.ownsRow_nil _ _ _ _) ⟨gb2, 1, none⟩ (L - 1) _ (byteCells (flushP o.s)) rfl HNW.out.1 HNW.out.2.1 HNW.out.2.2 ?c1 ?c2 ?c3 (Nat.zero_le _) w8.heap.size rfl ?_))
      case c1 => omega
      case c2 => unfold maxLen; omega
      case c3 => omega
      intro g' cap' w9 hown9 hgrow9 hat9 hlt9
      have HF9 : Hid (Fr (fun _ => False) w8 w9) := (Fr.refl _ _).grown hgrow9 (fun k hk _ => by cases hk)
      have HO9 : Hid (w9.ownsRow 0 5 1 (.slice (some ⟨g', 0, none⟩) (L - 1) cap') (L - 1) (byteCells (flushP o.s))) := hown9
      have HG9 : Hid (g' = w8.heap.size) := by rcases hat9 with h | h; cases h; exact h
      clear hown9 hgrow9 hat9 hlt9
      go_wp2_with fail
      go_ret2
      exact ⟨g', _, cap', gb2, cb2, rfl, HO9.out, by have := HG9.out; have := HSZ.out; omega, (HRE.out _ HF9.out).1, (HRE.out _ HF9.out).2⟩
    · have hq : (((s2.l : Nat) : Int) == 255) = false := by simp; omega
      have hfl : flushP o.s = (s2.b ++ [s2.l]).drop 1 := by unfold flushP; rw [hs2, if_neg hff]
      have HNW : Hid ((byteCells (flushP o.s)).length = L * 1 ∧ (∀ j u, (byteCells (flushP o.s))[j]? = some u → w8.cell? ((⟨gb2, 1, none⟩ : Addr).add j) = some u) ∧ ∀ u ∈ byteCells (flushP o.s), u.oneCell' = true) := by
        refine ⟨?_, fun j u hu => ?_, byteCells_one _⟩
        · rw [length_byteCells, hfl, List.length_drop, List.length_append, ← HL.out]; simp
        · rw [addr_one]
          exact news_at (HCL.out) (by rw [hfl] at hu; exact hu) (Or.inr rfl)
      have HFL : Hid (flushP o.s = flushP o.s) := rfl
      have HRE : Hid (∀ u, Fr (fun _ => False) w8 u → ReAt u br gt ct gs gz n gb2 cb2 { o with s := flush2 o.s } true ∧ RStep br gs gz gb gb2 w u) := fun u hf => by
        refine ⟨?_, HS8.out.trans (RStep.of_fr (hf.mono (fun _ _ h => h.elim)))⟩
        rw [hs2]
        exact HR8.out.kept hf (fun h => h) (fun h => h) (fun h => h) (fun h => h) (fun h => h)
      have HSZ : Hid (w.heap.size ≤ w8.heap.size) := HS8.out.fr.size
      clear hfl hff HFL
      obtain ⟨i0, hi, hz0, hz1, hz2⟩ := info_parts Tryd.info5
      go_wp2_with (first | (at_builtin; refine wpList_append_lies _ rfl _ _ 24 rfl 0 5 i0 (.int .u8 0) 1 1 Tryd.underlying24 hi hz0 hz1 hz2 rfl (by decide) (.slice none 0 0) 0 [] rfl (World.ownsRow_nil _ _ _ _) ⟨gb2, 1, none⟩ (L) _ (byteCells (flushP o.s)) rfl HNW.out.1 HNW.out.2.1 HNW.out.2.2 ?c1 ?c2 ?c3 (Nat.zero_le _) w8.heap.size rfl ?_))
      case c1 => omega
      case c2 => unfold maxLen; omega
      case c3 => omega
      intro g' cap' w9 hown9 hgrow9 hat9 hlt9
      have HF9 : Hid (Fr (fun _ => False) w8 w9) := (Fr.refl _ _).grown hgrow9 (fun k hk _ => by cases hk)
      have HO9 : Hid (w9.ownsRow 0 5 1 (.slice (some ⟨g', 0, none⟩) (L) cap') (L) (byteCells (flushP o.s))) := hown9
      have HG9 : Hid (g' = w8.heap.size) := by rcases hat9 with h | h; cases h; exact h
      clear hown9 hgrow9 hat9 hlt9
      go_wp2_with fail
      go_ret2
      exact ⟨g', _, cap', gb2, cb2, rfl, HO9.out, by have := HG9.out; have := HSZ.out; omega, (HRE.out _ HF9.out).1, (HRE.out _ HF9.out).2⟩

end Go.Proofs.YtllhekkclhcdbaaDoor
