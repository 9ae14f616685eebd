/- The document's own Put, Flush, Encode; the law 'WholeEncodes'. -/
import Derived.Test.YtllhekkclhcdbaaDoorRb6
import Derived.Test.YtllhekkclhcdbaaDoorReP
import Derived.Test.YtllhekkclhcdbaaDoorWhM
import Derived.Test.YtllhekkclhcdbaaDoorEn
import Derived.BigQuiet
import Derived.BigRegion
import Derived.Test.YtllhekkclhcdbaaDoorFlush
import Derived.Deep.AppendLies
import Derived.Test.YtllhekkclhcdbaaDoorEw
import Derived.Deep.OwnRows
namespace Go.Proofs.YtllhekkclhcdbaaDoor
open Go.RowKit

theorem decs_take (base size : Nat) (l : List Nat) (v k : Nat) (h : k < l.length) : decs base size v (l.take (k + 1)) = decs base size v (l.take k) ++ [(((base + vEnd size v (l.take k) : Nat) : Int), l.getD k 0)] := by
  rw [List.take_succ_eq_append_getElem h, decs_cat, List.getD_eq_getElem?_getD, List.getElem?_eq_getElem h]
  rfl
theorem vEnd_take (size : Nat) (l : List Nat) (v k : Nat) (h : k < l.length) : vEnd size v (l.take (k + 1)) = passP size (vEnd size v (l.take k)) (l.getD k 0) := by
  rw [List.take_succ_eq_append_getElem h, vEnd_snoc, List.getD_eq_getElem?_getD, List.getElem?_eq_getElem h]
  rfl

set_option maxRecDepth 100000 in
set_option maxHeartbeats 4000000 in
theorem rput5_ok (w : World) (br gt ct gs gz n gb cb : Nat) (o : Co) (base : Nat) (v : Int) (nn : Bool) (h : ReAt w br gt ct gs gz n gb cb o false) (hok : Ook o) (hm : o.made + 38 ≤ 16777216) (hbase : base ≤ 131072) (hmay : mayP v nn = true) :
    Calls Tryd.prog 26 #[.pointer (some ⟨br, 0, none⟩), .int .i64 (base : Int), .agg #[.int .i64 v, .bool nn]] w fun e w' => e = .returned (.int .i64 0) ∧ ∃ gb' cb', ReAt w' br gt ct gs gz n gb' cb' (runL o (decs base 512 1 (numBits v nn))) false ∧ RStep br gs gz gb gb' w w' := by
  have HB : Hid (∀ w', Calls Tryd.prog 48 #[.agg #[.int .i64 v, .bool nn]] w' fun e w'' => ∃ g c, e = .returned (.slice (some ⟨g, 0, none⟩) (numBits v nn).length c) ∧ w''.ownsRow 0 3 1 (.slice (some ⟨g, 0, none⟩) (numBits v nn).length c) (numBits v nn).length (intCells (numBits v nn)) ∧ Fr (fun _ => False) w' w'' ∧ w'.heap.size ≤ g) := fun w' => bits5_at w' v nn hmay
  have HLen : Hid ((numBits v nn).length ≤ 38) := by show _ ≤ _; rw [numBits_len]; exact numLen_le _
  have HLt : Hid (∀ k, (numBits v nn).getD k 0 < 2) := fun k => by
    show _ < _
    rw [List.getD_eq_getElem?_getD]
    by_cases hk : k < (numBits v nn).length
    · rw [List.getElem?_eq_getElem hk]
      exact hiBits_lt _ _ _ (List.getElem_mem hk)
    · rw [List.getElem?_eq_none (by omega)]; decide
  generalize numBits v nn = L at *
  have HOk : Hid (∀ k, k ≤ L.length → Ook (runL o (decs base 512 1 (L.take k))) ∧ (runL o (decs base 512 1 (L.take k))).made = o.made + k) := fun k hk => by
    have hl := HLen.out
    obtain ⟨a, b, _⟩ := runL_ok hok (decs base 512 1 (L.take k)) (by rw [decs_len, List.length_take]; omega)
    rw [decs_len, List.length_take, Nat.min_eq_left hk] at b
    exact ⟨a, b⟩
  have HV : Hid (∀ k, vEnd 512 1 (L.take k) < 512) := fun k => vEnd_lt (by decide) (by decide) _ _ (by decide)
  have HPu : Hid (∀ (w' : World) (gb' cb' k : Nat) (ii : Int), k < L.length → ii = ((base + vEnd 512 1 (L.take k) : Nat) : Int) → ReAt w' br gt ct gs gz n gb' cb' (runL o (decs base 512 1 (L.take k))) false → Calls Tryd.prog 46 #[.pointer (some ⟨br, 0, none⟩), .int .i64 ii, .int .i64 (L.getD k 0 : Nat)] w' fun e w'' => e = .returned (.int .i64 0) ∧ ∃ gb2 cb2, ReAt w'' br gt ct gs gz n gb2 cb2 (runL o (decs base 512 1 (L.take (k + 1)))) false ∧ RStep br gs gz gb' gb2 w' w'') := fun w' gb' cb' k ii hk e hr => by
    obtain ⟨a1, a2⟩ := HOk.out k (by omega)
    rw [decs_take base 512 L 1 k hk, runL_snoc, e]
    exact rput_any w' br gt ct gs gz n gb' cb' _ hr a1 (by have := HLen.out; omega) _ (by have := HV.out k; omega) _ (HLt.out k)
  have HR0 : Hid (ReAt w br gt ct gs gz n gb cb o false) := h
  have HLt0 : Hid (br < w.heap.size ∧ gt < w.heap.size ∧ gs < w.heap.size ∧ gz < w.heap.size ∧ gb < w.heap.size) := ⟨h.lt, (h.tab.lt gt rfl).2, (h.st.lt gs rfl).2, (h.bt.lt gz rfl).2, (h.bs.lt gb rfl).2⟩
  have HA : Hid (Fr (fun _ => False) w (w.alloc (.cells #[.int .i64 v, .bool nn] 46))) := (Fr.refl _ _).alloc _
  clear h hok hm hmay
  obtain ⟨NL, HNL⟩ : ∃ NL, Hid (NL = L.length) := ⟨_, rfl⟩
  rw [← HNL.out] at HB HLen
  go_enter Tryd.func26, Tryd.ntmps26
  go_wp2_with fail
  refine (HB.out _).mono ?_
  rintro e w1 ⟨gl, cl, rfl, hrow, hf1, hg1⟩
  have HF1 : Hid (Fr (fun _ => False) w w1) := HA.out.trans hf1 (fun _ _ h => h)
  have HG1 : Hid (w.heap.size ≤ gl ∧ gl < w1.heap.size) := ⟨by have := HA.out.size; omega, (hrow.lt gl rfl).2⟩
  have HRow : Hid (w1.ownsRow 0 3 1 (.slice (some ⟨gl, 0, none⟩) NL cl) NL (intCells L)) := hrow
  clear hrow hf1 hg1
  have HC : Hid (∀ (w' : World) (gb' k : Nat), RStep br gs gz gb gb' w1 w' → k < NL → w'.cell? ⟨gl, k, none⟩ = some (.int .i64 (L.getD k 0 : Nat))) := fun w' gb' k hs hk => by
    have hl := HLt0.out
    have hg := HG1.out
    have hr := row_kept1 HRow.out hs.fr (by omega)
    rw [hr.cellAt k (by omega), intCells_getD _ k (by have := HNL.out; omega)]
  have hnl := HLen.out
  go_wp2_with fail
  go_loopw [8, 9, 10] (fun vv i _ wr => ∃ (k gb' cb' : Nat), k ≤ NL ∧ i = .int .i64 k ∧ vv = .int .i64 (vEnd 512 1 (L.take k) : Nat) ∧ ReAt wr br gt ct gs gz n gb' cb' (runL o (decs base 512 1 (L.take k))) false ∧ RStep br gs gz gb gb' w1 wr) (fun _ i _ _ => NL - (intOf i).toNat)
  case atStart => exact ⟨0, gb, cb, Nat.zero_le _, rfl, rfl, HR0.out.kept HF1.out (fun h => h) (fun h => h) (fun h => h) (fun h => h) (fun h => h), RStep.of_fr (Fr.refl _ _)⟩
  case round =>
    obtain ⟨k, gb', cb', hk, rfl, rfl, hre, hst⟩ := hrel
    have HRe : Hid (ReAt wr br gt ct gs gz n gb' cb' (runL o (decs base 512 1 (L.take k))) false) := hre
    have HS : Hid (RStep br gs gz gb gb' w1 wr) := hst
    clear hre hst
    by_cases hlt : k < NL
    · have hda : decide (k < NL) = true := decide_eq_true hlt
      have cK := HC.out _ _ k HS.out hlt
      have HPx : Hid (∀ (ii : Int), ii = ((base + vEnd 512 1 (L.take k) : Nat) : Int) → Calls Tryd.prog 46 #[.pointer (some ⟨br, 0, none⟩), .int .i64 ii, .int .i64 (L.getD k 0 : Nat)] wr fun e w'' => e = .returned (.int .i64 0) ∧ ∃ gb2 cb2, ReAt w'' br gt ct gs gz n gb2 cb2 (runL o (decs base 512 1 (L.take (k + 1)))) false ∧ RStep br gs gz gb' gb2 wr w'') := fun ii e => HPu.out wr gb' cb' k ii (by have := HNL.out; omega) e HRe.out
      have HNv : Hid (vEnd 512 1 (L.take (k + 1)) = passP 512 (vEnd 512 1 (L.take k)) (L.getD k 0)) := vEnd_take 512 L 1 k (by have := HNL.out; omega)
      have hvl := HV.out k
      have hbl := HLt.out k
      have HCx : Hid (∀ (w' : World) (g3 : Nat), RStep br gs gz gb g3 w1 w' → w'.cell? ⟨gl, k, none⟩ = some (.int .i64 (L.getD k 0 : Nat))) := fun w' g3 hs => HC.out w' g3 k hs hlt
      generalize vEnd 512 1 (L.take k) = vv at *
      generalize L.getD k 0 = bb at *
      have HNx : Hid (∀ w', Calls Tryd.prog 49 #[.int .i64 (vv : Int), .int .i64 (bb : Int)] w' fun e w'' => e = .returned (.int .i64 (passP 512 vv bb : Nat)) ∧ w'' = w') := fun w' => next5_at w' vv bb hvl hbl
      have hw9 : IntKind.i64.wrap ((base : Int) + (vv : Int)) = (base : Int) + (vv : Int) := by rw [IntKind.wrap_i64]; omega
      have hk0 : (0 : Int) ≤ (k : Int) := by omega
      have hkn : (k : Int) < (NL : Int) := by omega
      go_wp2_with fail
      refine (HPx.out _ (by omega)).mono ?_
      rintro e w4 ⟨rfl, gb2, cb2, hr4, hs4⟩
      have H4 : Hid (ReAt w4 br gt ct gs gz n gb2 cb2 (runL o (decs base 512 1 (L.take (k + 1)))) false ∧ RStep br gs gz gb gb2 w1 w4) := ⟨hr4, HS.out.trans hs4⟩
      clear hr4 hs4 cK
      have cK := HCx.out _ _ H4.out.2
      go_wp2_with fail
      refine (HNx.out _).mono ?_
      rintro e w5 ⟨rfl, hw5⟩
      obtain rfl := hw5.symm
      go_wp2_with fail
      exact ⟨⟨k + 1, gb2, cb2, by omega, by rw [Int.natCast_add]; rfl, by rw [HNv.out], H4.out.1, H4.out.2⟩, by simp only [intOf]; omega⟩
    · obtain rfl : k = NL := by omega
      have hda : decide (k < k) = false := decide_eq_false (by omega)
      go_wp2_with fail
      go_ret
      have hr := HRe.out
      rw [List.take_of_length_le (by have := HNL.out; omega)] at hr
      refine ⟨rfl, gb', cb', hr, (HF1.out.mono (fun _ _ h => h.elim)).trans HS.out.fr (fun _ _ h => h), ?_⟩
      have hsz := HF1.out.size
      rcases HS.out.row with a | a
      · exact Or.inl a
      · exact Or.inr (by omega)

end Go.Proofs.YtllhekkclhcdbaaDoor

namespace Go.Proofs.YtllhekkclhcdbaaDoor
open Go.RowKit

/-- The first half: C is set. -/
theorem flushC_eq (c a : Nat) : (c + a ≤ (c ||| 65535) → flushC c a = (c ||| 65535) - 32768) ∧ (¬ c + a ≤ (c ||| 65535) → flushC c a = (c ||| 65535)) := by
  unfold flushC
  exact ⟨fun h => if_pos h, fun h => if_neg h⟩

theorem addr_one (g j : Nat) : (⟨g, 1, none⟩ : Addr).add j = ⟨g, 1 + j, none⟩ := by unfold Addr.add; split <;> simp_all
theorem bytes_last (s : Cs) : s.bytes[s.b.length]?.getD 0 = s.l := by simp [Cs.bytes]
theorem byteCells_getD (s : Cs) (j : Nat) (hj : j < s.b.length + 1) : (byteCells s.bytes)[j]? = some (.int .u8 (s.bytes[j]?.getD 0 : Nat)) := by
  have hl : j < s.bytes.length := by simp [Cs.bytes]; omega
  rw [byteCells_get, List.getElem?_eq_getElem hl]; rfl
theorem news_at {w : World} {g : Nat} {s : Cs} (hc : ∀ j, j < s.b.length + 1 → w.cell? ⟨g, j, none⟩ = some (.int .u8 (s.bytes[j]?.getD 0 : Nat))) {l : List Nat} {j : Nat} {u : Value} (hu : (byteCells (l.drop 1))[j]? = some u) (hl : l = s.b ∨ l = s.b ++ [s.l]) : w.cell? ⟨g, 1 + j, none⟩ = some u := by
  rw [byteCells_get, List.getElem?_drop] at hu
  have hlt : 1 + j < l.length := by
    rcases Nat.lt_or_ge (1 + j) l.length with h | h
    · exact h
    · rw [List.getElem?_eq_none h] at hu; simp at hu
  have hll : l.length ≤ s.b.length + 1 := by rcases hl with rfl | rfl <;> simp
  rw [hc (1 + j) (by omega)]
  have he : s.bytes[1 + j]? = l[1 + j]? := by
    rcases hl with rfl | rfl
    · show (s.b ++ [s.l])[1 + j]? = _
      rw [List.getElem?_append_left hlt]
    · rfl
  rw [he]
  rw [List.getElem?_eq_getElem hlt] at hu ⊢
  simpa using hu

set_option maxRecDepth 100000 in
set_option maxHeartbeats 40000000 in
theorem rflush_any (w : World) (br gt ct gs gz n gb cb : Nat) (o : Co) (h : ReAt w br gt ct gs gz n gb cb o false) (hok : Ook o) :
    Calls Tryd.prog 28 #[.pointer (some ⟨br, 0, none⟩)] w fun e w' => ∃ gq N cq gb2 cb2, e = .returned (.tuple #[.slice (some ⟨gq, 0, none⟩) N cq, .int .i64 0]) ∧ w'.ownsRow 0 5 1 (.slice (some ⟨gq, 0, none⟩) N cq) N (byteCells (flushP o.s)) ∧ w.heap.size ≤ gq ∧ ReAt w' br gt ct gs gz n gb2 cb2 { o with s := flush2 o.s } true ∧ RStep br gs gz gb gb2 w w' := by
  obtain ⟨e0, e1, e2, e3, e4, e5, e6, e7, e8, ef⟩ := cell_of_nine h.blk
  have h1 := h.setDone
  have F1 : Fr (fun j => j = br) w (w.setCell ⟨br, 8, none⟩ (.bool true)) := Fr.set1 w br 8 _
  obtain ⟨w1, hw1⟩ : ∃ w1, w.setCell ⟨br, 8, none⟩ (.bool true) = w1 := ⟨_, rfl⟩
  rw [hw1] at h1 F1
  have H1 : Hid (ReAt w1 br gt ct gs gz n gb cb o true) := h1
  have HF1 : Hid (Fr (fun j => j = br) w w1) := F1
  obtain ⟨f0, f1, f2, f3, f4, f5, f6, f7, f8, ff⟩ := cell_of_nine h1.blk
  have hroom := hok.ok.cw.room
  have hcb : o.s.c + o.s.a ≤ 268435456 := Nat.le_trans (Nat.le_mul_of_pos_right _ (Nat.two_pow_pos o.s.t)) hroom
  have k1 : IntKind.i64.wrap ((o.s.c : Int) + (o.s.a : Int)) = (o.s.c : Int) + (o.s.a : Int) := by rw [IntKind.wrap_i64]; omega
  have ef8 := ef 8
  clear ef e0 e1 e2 e3 e4 e5 e6 e7 h1 F1 h
  go_enter Tryd.func28, Tryd.ntmps28
  go_wp2_with fail
  go_quiet (fail)
  have hnx := H1.out.kept (Fr.drewN (Fr.refl (fun _ => False) w1) nq) (fun h => h) (fun h => h) (fun h => h) (fun h => h) (fun h => h)
  have HFn : Hid (Fr (fun j => j = br) w (w1.drewN nq)) := HF1.out.drewN nq
  generalize w1.drewN nq = wn at *
  obtain ⟨d, hd⟩ : ∃ d, o.s.c ||| 65535 = d := ⟨_, rfl⟩
  have hol := or_low_le o.s.c
  rw [hd] at hol
  have kor : bits BinOp.or IntKind.i64 (o.s.c : Int) 65535 = (d : Int) := by
    show IntKind.i64.wrap ((BitVec.ofInt 64 (o.s.c : Int) ||| BitVec.ofInt 64 65535).toNat : Int) = _
    rw [BitVec.toNat_or, BitVec.toNat_ofInt, show (BitVec.ofInt 64 65535).toNat = 65535 from rfl, show ((o.s.c : Int) % ((2 ^ 64 : Nat) : Int)).toNat = o.s.c by omega, hd, IntKind.wrap_i64]
    omega
  obtain ⟨g0, g1, g2, g3, g4, g5, g6, g7, g8, gf⟩ := cell_of_nine hnx.blk
  have gf5 := gf 5
  have h3 := hnx.setC d
  obtain ⟨w3, hw3⟩ : ∃ w3, wn.setCell ⟨br, 5, none⟩ (.int .i64 (d : Int)) = w3 := ⟨_, rfl⟩
  have HF3 : Hid (Fr (fun j => j = br) w w3) := by rw [← hw3]; exact HFn.out.setCell (p := ⟨br, 5, none⟩) (fun _ => rfl) _
  rw [hw3] at h3
  have HR3 : Hid (ReAt w3 br gt ct gs gz n gb cb { o with s := { o.s with c := d } } true) := h3
  obtain ⟨p0, p1, p2, p3, p4, p5, p6, p7, p8, pf⟩ := cell_of_nine h3.blk
  have pf5 := pf 5
  obtain ⟨q1', q2'⟩ := flushC_eq o.s.c o.s.a
  rw [hd] at q1' q2'
  clear gf pf h3 hnx
  by_cases hge : o.s.c + o.s.a ≤ d
  · have hd1 : decide ((o.s.c : Int) + (o.s.a : Int) ≤ (d : Int)) = true := decide_eq_true (by omega)
    have hf := q1' hge
    have hd65 : 32768 ≤ d := by rw [← hd]; have := @Nat.right_le_or o.s.c 65535; omega
    have kd : IntKind.i64.wrap ((d : Int) - 32768) = ((d - 32768 : Nat) : Int) := by rw [IntKind.wrap_i64]; omega
    obtain ⟨d2, hd2⟩ : ∃ d2, d - 32768 = d2 := ⟨_, rfl⟩
    rw [hd2] at kd hf
    have h4 := HR3.out.setC d2
    obtain ⟨w4, hw4⟩ : ∃ w4, w3.setCell ⟨br, 5, none⟩ (.int .i64 (d2 : Int)) = w4 := ⟨_, rfl⟩
    have HF4 : Hid (Fr (fun j => j = br) w w4) := by rw [← hw4]; exact HF3.out.setCell (p := ⟨br, 5, none⟩) (fun _ => rfl) _
    rw [hw4] at h4
    have HR4 : Hid (ReAt w4 br gt ct gs gz n gb cb { o with s := { o.s with c := flushC o.s.c o.s.a } } true) := by rw [hf]; exact h4
    clear h4 q1' q2' hge hd hol hd2 hd65 hf
    go_wp2_with fail
    obtain ⟨x, hx⟩ : ∃ x, flushC o.s.c o.s.a = x := ⟨_, rfl⟩
    rw [hx] at HR4
    have hxl : x * 2 ^ o.s.t < 268435456 := by
      rw [← hx]
      exact Nat.lt_of_lt_of_le (Nat.mul_lt_mul_of_pos_right (flushC_lt hok.ok.half) (Nat.two_pow_pos _)) hroom
    have Hx : Hid (flushC o.s.c o.s.a = x ∧ x * 2 ^ o.s.t < 268435456) := ⟨hx, hxl⟩
    have ht12 := hok.ok.cw.tlt
    have mt : min o.s.t 64 = o.s.t := by omega
    have kt : IntKind.u64.wrap (o.s.t : Int) = (o.s.t : Int) := by rw [IntKind.wrap_u64]; omega
    have ks : IntKind.i64.wrap ((x : Int) * 2 ^ o.s.t) = ((x * 2 ^ o.s.t : Nat) : Int) := by
      rw [show (x : Int) * 2 ^ o.s.t = ((x * 2 ^ o.s.t : Nat) : Int) by push_cast; rfl, IntKind.wrap_i64]; omega
    obtain ⟨X, hX⟩ : ∃ X, x * 2 ^ o.s.t = X := ⟨_, rfl⟩
    rw [hX] at ks hxl
    have ka : bits BinOp.and IntKind.i64 (X : Int) 4294967295 = (X : Int) := by
      have := band64 X 32 (by omega) (by decide)
      rw [Nat.mod_eq_of_lt (show X < 2 ^ 32 by have : (2 : Nat) ^ 32 = 4294967296 := rfl; omega)] at this
      exact this
    obtain ⟨q0, q1, q2, q3, q4, q5, q6, q7, q8, qf⟩ := cell_of_nine HR4.out.blk
    have qf5 := qf 5
    clear qf hx hroom hcb k1 kor p5 pf5 g5 gf5
    go_region
    all_goals go_wp2_with fail
    have hr5 := (HR4.out.setC X).kept (Fr.drew (Fr.refl (fun _ => False) _)) (fun h => h) (fun h => h) (fun h => h) (fun h => h) (fun h => h)
    have hs5 : RStep br gs gz gb gb w (w4.setCell ⟨br, 5, none⟩ (.int .i64 (X : Int))).drew := RStep.of_fr ((((HF4.out.mono (fun _ _ h => Or.inl h)).setCell (p := ⟨br, 5, none⟩) (fun _ => Or.inl rfl) _)).drew)
    have hlen9 : o.s.b.length ≤ 900000000 := by have h9 := hok.len; have h8 := hok.made; omega
    refine (rout_any _ br gt ct gs gz n gb cb _ true hr5 hxl hok.ok.cw.llt (by show o.s.b.length ≤ 1000000000; omega)).mono ?_
    rintro e w6 ⟨rfl, gb1, cb1, hr6, hst6⟩
    have HS6 : Hid (RStep br gs gz gb gb1 w w6) := hs5.trans hst6
    have ef1 : flush1 o.s = outP { o.s with c := X } := by rw [← hX, ← Hx.out.1]; rfl
    have hw : Cw (outP { o.s with a := 1, c := X }) := outP_cw (Nat.le_refl 1) (by show 1 < 65536; decide) hok.ok.cw.llt hok.ok.cw.blt
    have hx2 : (flush1 o.s).c * 2 ^ (flush1 o.s).t < 268435456 := by
      rw [ef1]
      refine Nat.lt_of_lt_of_le ?_ hw.room
      exact Nat.mul_lt_mul_of_pos_right (by show _ < _ + 1; exact Nat.lt_succ_self _) (Nat.two_pow_pos _)
    have hl2 : (flush1 o.s).l < 256 ∧ (flush1 o.s).t ≤ 12 ∧ (flush1 o.s).b.length = o.s.b.length + 1 := by
      rw [ef1]; exact ⟨hw.llt, hw.tlt, by simp [outP]⟩
    have hbl2 : ∀ z ∈ (flush1 o.s).b, z < 256 := by rw [ef1]; exact hw.blt
    have HR6 : Hid (ReAt w6 br gt ct gs gz n gb1 cb1 { o with s := flush1 o.s } true) := by rw [ef1]; exact hr6
    obtain ⟨s1, hs1⟩ : ∃ s1, flush1 o.s = s1 := ⟨_, rfl⟩
    rw [hs1] at HR6 hx2 hl2 hbl2
    obtain ⟨hl2a, hl2b, hl2c⟩ := hl2
    have mt2 : min s1.t 64 = s1.t := by omega
    have kt2 : IntKind.u64.wrap (s1.t : Int) = (s1.t : Int) := by rw [IntKind.wrap_u64]; omega
    have ks2 : IntKind.i64.wrap ((s1.c : Int) * 2 ^ s1.t) = ((s1.c * 2 ^ s1.t : Nat) : Int) := by
      rw [show (s1.c : Int) * 2 ^ s1.t = ((s1.c * 2 ^ s1.t : Nat) : Int) by push_cast; rfl, IntKind.wrap_i64]; omega
    obtain ⟨X2, hX2⟩ : ∃ X2, s1.c * 2 ^ s1.t = X2 := ⟨_, rfl⟩
    rw [hX2] at ks2 hx2
    have ka2 : bits BinOp.and IntKind.i64 (X2 : Int) 4294967295 = (X2 : Int) := by
      have := band64 X2 32 (by omega) (by decide)
      rw [Nat.mod_eq_of_lt (show X2 < 2 ^ 32 by have : (2 : Nat) ^ 32 = 4294967296 := rfl; omega)] at this
      exact this
    obtain ⟨r0, r1, r2, r3, r4, r5, r6, r7, r8, rf⟩ := cell_of_nine HR6.out.blk
    have rf5 := rf 5
    clear rf hr5 hr6 hst6 hw ef1 ks ka mt kt q0 q1 q2 q3 q4 q5 q6 q7 q8 qf5 hs5
    go_wp2_with fail
    go_region
    all_goals go_wp2_with fail
    have hr7 := (HR6.out.setC X2).kept (Fr.drew (Fr.refl (fun _ => False) _)) (fun h => h) (fun h => h) (fun h => h) (fun h => h) (fun h => h)
    have hs7 : RStep br gs gz gb gb1 w (w6.setCell ⟨br, 5, none⟩ (.int .i64 (X2 : Int))).drew := HS6.out.trans (RStep.of_fr (((Fr.refl _ w6).setCell (p := ⟨br, 5, none⟩) (fun _ => Or.inl rfl) _).drew))
    refine (rout_any _ br gt ct gs gz n gb1 cb1 _ true hr7 hx2 hl2a (by show s1.b.length ≤ 1000000000; omega)).mono ?_
    rintro e w8 ⟨rfl, gb2, cb2, hr8, hst8⟩
    have HS8 : Hid (RStep br gs gz gb gb2 w w8) := hs7.trans hst8
    have ef2 : flush2 o.s = outP { s1 with c := X2 } := by rw [← hX2, ← hs1]; rfl
    have hw2 : Cw (outP { s1 with a := 1, c := X2 }) := outP_cw (Nat.le_refl 1) (by show 1 < 65536; decide) hl2a hbl2
    have hl3 : (flush2 o.s).l < 256 ∧ (flush2 o.s).b.length = o.s.b.length + 2 := by
      rw [ef2]; exact ⟨hw2.llt, by simp [outP]; omega⟩
    have HR8 : Hid (ReAt w8 br gt ct gs gz n gb2 cb2 { o with s := flush2 o.s } true) := by rw [ef2]; exact hr8
    obtain ⟨s2, hs2⟩ : ∃ s2, flush2 o.s = s2 := ⟨_, rfl⟩
    rw [hs2] at HR8 hl3
    obtain ⟨hl3a, hl3c⟩ := hl3
    clear hr7 hs7 hr8 hst8 hw2 ef2 ks2 ka2 mt2 kt2 r0 r1 r2 r3 r4 r5 r6 r7 r8 rf5

    have HB8 : Hid (s2.b.length = o.s.b.length + 2 ∧ s2.l < 256) := ⟨hl3c, hl3a⟩
    have hcell : ∀ j, j < s2.b.length + 1 → w8.cell? ⟨gb2, j, none⟩ = some (.int .u8 (s2.bytes[j]?.getD 0 : Nat)) := fun j hj => by
      rw [HR8.out.bs.cellAt j (by show j < (s2.b.length + 1) * 1; omega)]
      exact byteCells_getD s2 j hj
    have HCL : Hid (∀ j, j < s2.b.length + 1 → w8.cell? ⟨gb2, j, none⟩ = some (.int .u8 (s2.bytes[j]?.getD 0 : Nat))) := hcell
    have hlast : w8.cell? ⟨gb2, s2.b.length, none⟩ = some (.int .u8 (s2.l : Nat)) := by
      have h := hcell s2.b.length (by omega)
      rwa [bytes_last] at h
    have HCP : Hid (s2.b.length + 1 ≤ cb2 ∧ cb2 ≤ maxLen) := by
      rcases HR8.out.bs.2 with ⟨e, _⟩ | ⟨g', cap', cur, e, _, _, hc, hm, _⟩
      · cases e
      · simp at e; obtain ⟨_, rfl⟩ := e; exact ⟨hc, hm⟩
    obtain ⟨u0, u1, u2, u3, u4, u5, u6, u7, u8, uf⟩ := cell_of_nine HR8.out.blk
    simp only [] at u7
    clear uf hcell u0 u1 u2 u3 u4 u5 u6 u8
    obtain ⟨L, hL⟩ : ∃ L, L = s2.b.length := ⟨_, rfl⟩
    have HL : Hid (L = s2.b.length) := hL
    rw [← hL] at u7 hlast
    have hL2 : L = o.s.b.length + 2 := by rw [hL]; exact HB8.out.1
    have hL9 : L ≤ 900000002 := by omega
    have hcp1 := HCP.out.1
    have hcp2 := HCP.out.2
    rw [← hL] at hcp1
    unfold maxLen at hcp2
    have hL1 : 1 < L := by omega
    clear hL hL2 hl3c hl2c hlen9
    have kn1 : IntKind.i64.wrap ((L : Int) + 1 - 1) = (L : Int) := by rw [IntKind.wrap_i64]; omega
    have i1 : (0 : Int) ≤ (L : Int) := by omega
    have i2 : (L : Int) < (L : Int) + 1 := by omega
    by_cases hff : s2.l = 255
    · have hq : (((s2.l : Nat) : Int) == 255) = true := by rw [hff]; rfl
      have hfl : flushP o.s = s2.b.drop 1 := by unfold flushP; rw [hs2, if_pos hff]
      have HNW : Hid ((byteCells (flushP o.s)).length = (L - 1) * 1 ∧ (∀ j u, (byteCells (flushP o.s))[j]? = some u → w8.cell? ((⟨gb2, 1, none⟩ : Addr).add j) = some u) ∧ ∀ u ∈ byteCells (flushP o.s), u.oneCell' = true) := by
        refine ⟨?_, fun j u hu => ?_, byteCells_one _⟩
        · rw [length_byteCells, hfl, List.length_drop, ← HL.out]; omega
        · rw [addr_one]
          exact news_at (HCL.out) (by rw [hfl] at hu; exact hu) (Or.inl rfl)
      have HFL : Hid (flushP o.s = flushP o.s) := rfl
      have HRE : Hid (∀ u, Fr (fun _ => False) w8 u → ReAt u br gt ct gs gz n gb2 cb2 { o with s := flush2 o.s } true ∧ RStep br gs gz gb gb2 w u) := fun u hf => by
        refine ⟨?_, HS8.out.trans (RStep.of_fr (hf.mono (fun _ _ h => h.elim)))⟩
        rw [hs2]
        exact HR8.out.kept hf (fun h => h) (fun h => h) (fun h => h) (fun h => h) (fun h => h)
      have HSZ : Hid (w.heap.size ≤ w8.heap.size) := HS8.out.fr.size
      clear hfl hff HFL
      obtain ⟨i0, hi, hz0, hz1, hz2⟩ := info_parts Tryd.info5
      go_wp2_with (first | (at_builtin; refine wpList_append_lies _ rfl _ _ 24 rfl 0 5 i0 (.int .u8 0) 1 1 Tryd.underlying24 hi hz0 hz1 hz2 rfl (by decide) (.slice none 0 0) 0 [] rfl (World.ownsRow_nil _ _ _ _) ⟨gb2, 1, none⟩ (L - 1) _ (byteCells (flushP o.s)) rfl HNW.out.1 HNW.out.2.1 HNW.out.2.2 ?c1 ?c2 ?c3 (Nat.zero_le _) w8.heap.size rfl ?_))
      case c1 => omega
      case c2 => unfold maxLen; omega
      case c3 => omega
      intro g' cap' w9 hown9 hgrow9 hat9 hlt9
      have HF9 : Hid (Fr (fun _ => False) w8 w9) := (Fr.refl _ _).grown hgrow9 (fun k hk _ => by cases hk)
      have HO9 : Hid (w9.ownsRow 0 5 1 (.slice (some ⟨g', 0, none⟩) (L - 1) cap') (L - 1) (byteCells (flushP o.s))) := hown9
      have HG9 : Hid (g' = w8.heap.size) := by rcases hat9 with h | h; cases h; exact h
      clear hown9 hgrow9 hat9 hlt9
      go_wp2_with fail
      go_ret2
      exact ⟨g', _, cap', gb2, cb2, rfl, HO9.out, by have := HG9.out; have := HSZ.out; omega, (HRE.out _ HF9.out).1, (HRE.out _ HF9.out).2⟩
    · have hq : (((s2.l : Nat) : Int) == 255) = false := by simp; omega
      have hfl : flushP o.s = (s2.b ++ [s2.l]).drop 1 := by unfold flushP; rw [hs2, if_neg hff]
      have HNW : Hid ((byteCells (flushP o.s)).length = L * 1 ∧ (∀ j u, (byteCells (flushP o.s))[j]? = some u → w8.cell? ((⟨gb2, 1, none⟩ : Addr).add j) = some u) ∧ ∀ u ∈ byteCells (flushP o.s), u.oneCell' = true) := by
        refine ⟨?_, fun j u hu => ?_, byteCells_one _⟩
        · rw [length_byteCells, hfl, List.length_drop, List.length_append, ← HL.out]; simp
        · rw [addr_one]
          exact news_at (HCL.out) (by rw [hfl] at hu; exact hu) (Or.inr rfl)
      have HFL : Hid (flushP o.s = flushP o.s) := rfl
      have HRE : Hid (∀ u, Fr (fun _ => False) w8 u → ReAt u br gt ct gs gz n gb2 cb2 { o with s := flush2 o.s } true ∧ RStep br gs gz gb gb2 w u) := fun u hf => by
        refine ⟨?_, HS8.out.trans (RStep.of_fr (hf.mono (fun _ _ h => h.elim)))⟩
        rw [hs2]
        exact HR8.out.kept hf (fun h => h) (fun h => h) (fun h => h) (fun h => h) (fun h => h)
      have HSZ : Hid (w.heap.size ≤ w8.heap.size) := HS8.out.fr.size
      clear hfl hff HFL
      obtain ⟨i0, hi, hz0, hz1, hz2⟩ := info_parts Tryd.info5
      go_wp2_with (first | (at_builtin; refine wpList_append_lies _ rfl _ _ 24 rfl 0 5 i0 (.int .u8 0) 1 1 Tryd.underlying24 hi hz0 hz1 hz2 rfl (by decide) (.slice none 0 0) 0 [] rfl (World.ownsRow_nil _ _ _ _) ⟨gb2, 1, none⟩ (L) _ (byteCells (flushP o.s)) rfl HNW.out.1 HNW.out.2.1 HNW.out.2.2 ?c1 ?c2 ?c3 (Nat.zero_le _) w8.heap.size rfl ?_))
      case c1 => omega
      case c2 => unfold maxLen; omega
      case c3 => omega
      intro g' cap' w9 hown9 hgrow9 hat9 hlt9
      have HF9 : Hid (Fr (fun _ => False) w8 w9) := (Fr.refl _ _).grown hgrow9 (fun k hk _ => by cases hk)
      have HO9 : Hid (w9.ownsRow 0 5 1 (.slice (some ⟨g', 0, none⟩) (L) cap') (L) (byteCells (flushP o.s))) := hown9
      have HG9 : Hid (g' = w8.heap.size) := by rcases hat9 with h | h; cases h; exact h
      clear hown9 hgrow9 hat9 hlt9
      go_wp2_with fail
      go_ret2
      exact ⟨g', _, cap', gb2, cb2, rfl, HO9.out, by have := HG9.out; have := HSZ.out; omega, (HRE.out _ HF9.out).1, (HRE.out _ HF9.out).2⟩
  · have hd1 : decide ((o.s.c : Int) + (o.s.a : Int) ≤ (d : Int)) = false := decide_eq_false (by omega)
    have hf := q2' hge
    have HR4 : Hid (ReAt w3 br gt ct gs gz n gb cb { o with s := { o.s with c := flushC o.s.c o.s.a } } true) := by rw [hf]; exact HR3.out
    have HF4 : Hid (Fr (fun j => j = br) w w3) := HF3.out
    clear q1' q2' hge hd hol hf
    go_wp2_with fail
    obtain ⟨x, hx⟩ : ∃ x, flushC o.s.c o.s.a = x := ⟨_, rfl⟩
    rw [hx] at HR4
    have hxl : x * 2 ^ o.s.t < 268435456 := by
      rw [← hx]
      exact Nat.lt_of_lt_of_le (Nat.mul_lt_mul_of_pos_right (flushC_lt hok.ok.half) (Nat.two_pow_pos _)) hroom
    have Hx : Hid (flushC o.s.c o.s.a = x ∧ x * 2 ^ o.s.t < 268435456) := ⟨hx, hxl⟩
    have ht12 := hok.ok.cw.tlt
    have mt : min o.s.t 64 = o.s.t := by omega
    have kt : IntKind.u64.wrap (o.s.t : Int) = (o.s.t : Int) := by rw [IntKind.wrap_u64]; omega
    have ks : IntKind.i64.wrap ((x : Int) * 2 ^ o.s.t) = ((x * 2 ^ o.s.t : Nat) : Int) := by
      rw [show (x : Int) * 2 ^ o.s.t = ((x * 2 ^ o.s.t : Nat) : Int) by push_cast; rfl, IntKind.wrap_i64]; omega
    obtain ⟨X, hX⟩ : ∃ X, x * 2 ^ o.s.t = X := ⟨_, rfl⟩
    rw [hX] at ks hxl
    have ka : bits BinOp.and IntKind.i64 (X : Int) 4294967295 = (X : Int) := by
      have := band64 X 32 (by omega) (by decide)
      rw [Nat.mod_eq_of_lt (show X < 2 ^ 32 by have : (2 : Nat) ^ 32 = 4294967296 := rfl; omega)] at this
      exact this
    obtain ⟨q0, q1, q2, q3, q4, q5, q6, q7, q8, qf⟩ := cell_of_nine HR4.out.blk
    have qf5 := qf 5
    clear qf hx hroom hcb k1 kor p5 pf5 g5 gf5
    go_region
    all_goals go_wp2_with fail
    have hr5 := (HR4.out.setC X).kept (Fr.drew (Fr.refl (fun _ => False) _)) (fun h => h) (fun h => h) (fun h => h) (fun h => h) (fun h => h)
    have hs5 : RStep br gs gz gb gb w (w3.setCell ⟨br, 5, none⟩ (.int .i64 (X : Int))).drew := RStep.of_fr ((((HF4.out.mono (fun _ _ h => Or.inl h)).setCell (p := ⟨br, 5, none⟩) (fun _ => Or.inl rfl) _)).drew)
    have hlen9 : o.s.b.length ≤ 900000000 := by have h9 := hok.len; have h8 := hok.made; omega
    refine (rout_any _ br gt ct gs gz n gb cb _ true hr5 hxl hok.ok.cw.llt (by show o.s.b.length ≤ 1000000000; omega)).mono ?_
    rintro e w6 ⟨rfl, gb1, cb1, hr6, hst6⟩
    have HS6 : Hid (RStep br gs gz gb gb1 w w6) := hs5.trans hst6
    have ef1 : flush1 o.s = outP { o.s with c := X } := by rw [← hX, ← Hx.out.1]; rfl
    have hw : Cw (outP { o.s with a := 1, c := X }) := outP_cw (Nat.le_refl 1) (by show 1 < 65536; decide) hok.ok.cw.llt hok.ok.cw.blt
    have hx2 : (flush1 o.s).c * 2 ^ (flush1 o.s).t < 268435456 := by
      rw [ef1]
      refine Nat.lt_of_lt_of_le ?_ hw.room
      exact Nat.mul_lt_mul_of_pos_right (by show _ < _ + 1; exact Nat.lt_succ_self _) (Nat.two_pow_pos _)
    have hl2 : (flush1 o.s).l < 256 ∧ (flush1 o.s).t ≤ 12 ∧ (flush1 o.s).b.length = o.s.b.length + 1 := by
      rw [ef1]; exact ⟨hw.llt, hw.tlt, by simp [outP]⟩
    have hbl2 : ∀ z ∈ (flush1 o.s).b, z < 256 := by rw [ef1]; exact hw.blt
    have HR6 : Hid (ReAt w6 br gt ct gs gz n gb1 cb1 { o with s := flush1 o.s } true) := by rw [ef1]; exact hr6
    obtain ⟨s1, hs1⟩ : ∃ s1, flush1 o.s = s1 := ⟨_, rfl⟩
    rw [hs1] at HR6 hx2 hl2 hbl2
    obtain ⟨hl2a, hl2b, hl2c⟩ := hl2
    have mt2 : min s1.t 64 = s1.t := by omega
    have kt2 : IntKind.u64.wrap (s1.t : Int) = (s1.t : Int) := by rw [IntKind.wrap_u64]; omega
    have ks2 : IntKind.i64.wrap ((s1.c : Int) * 2 ^ s1.t) = ((s1.c * 2 ^ s1.t : Nat) : Int) := by
      rw [show (s1.c : Int) * 2 ^ s1.t = ((s1.c * 2 ^ s1.t : Nat) : Int) by push_cast; rfl, IntKind.wrap_i64]; omega
    obtain ⟨X2, hX2⟩ : ∃ X2, s1.c * 2 ^ s1.t = X2 := ⟨_, rfl⟩
    rw [hX2] at ks2 hx2
    have ka2 : bits BinOp.and IntKind.i64 (X2 : Int) 4294967295 = (X2 : Int) := by
      have := band64 X2 32 (by omega) (by decide)
      rw [Nat.mod_eq_of_lt (show X2 < 2 ^ 32 by have : (2 : Nat) ^ 32 = 4294967296 := rfl; omega)] at this
      exact this
    obtain ⟨r0, r1, r2, r3, r4, r5, r6, r7, r8, rf⟩ := cell_of_nine HR6.out.blk
    have rf5 := rf 5
    clear rf hr5 hr6 hst6 hw ef1 ks ka mt kt q0 q1 q2 q3 q4 q5 q6 q7 q8 qf5 hs5
    go_wp2_with fail
    go_region
    all_goals go_wp2_with fail
    have hr7 := (HR6.out.setC X2).kept (Fr.drew (Fr.refl (fun _ => False) _)) (fun h => h) (fun h => h) (fun h => h) (fun h => h) (fun h => h)
    have hs7 : RStep br gs gz gb gb1 w (w6.setCell ⟨br, 5, none⟩ (.int .i64 (X2 : Int))).drew := HS6.out.trans (RStep.of_fr (((Fr.refl _ w6).setCell (p := ⟨br, 5, none⟩) (fun _ => Or.inl rfl) _).drew))
    refine (rout_any _ br gt ct gs gz n gb1 cb1 _ true hr7 hx2 hl2a (by show s1.b.length ≤ 1000000000; omega)).mono ?_
    rintro e w8 ⟨rfl, gb2, cb2, hr8, hst8⟩
    have HS8 : Hid (RStep br gs gz gb gb2 w w8) := hs7.trans hst8
    have ef2 : flush2 o.s = outP { s1 with c := X2 } := by rw [← hX2, ← hs1]; rfl
    have hw2 : Cw (outP { s1 with a := 1, c := X2 }) := outP_cw (Nat.le_refl 1) (by show 1 < 65536; decide) hl2a hbl2
    have hl3 : (flush2 o.s).l < 256 ∧ (flush2 o.s).b.length = o.s.b.length + 2 := by
      rw [ef2]; exact ⟨hw2.llt, by simp [outP]; omega⟩
    have HR8 : Hid (ReAt w8 br gt ct gs gz n gb2 cb2 { o with s := flush2 o.s } true) := by rw [ef2]; exact hr8
    obtain ⟨s2, hs2⟩ : ∃ s2, flush2 o.s = s2 := ⟨_, rfl⟩
    rw [hs2] at HR8 hl3
    obtain ⟨hl3a, hl3c⟩ := hl3
    clear hr7 hs7 hr8 hst8 hw2 ef2 ks2 ka2 mt2 kt2 r0 r1 r2 r3 r4 r5 r6 r7 r8 rf5

    have HB8 : Hid (s2.b.length = o.s.b.length + 2 ∧ s2.l < 256) := ⟨hl3c, hl3a⟩
    have hcell : ∀ j, j < s2.b.length + 1 → w8.cell? ⟨gb2, j, none⟩ = some (.int .u8 (s2.bytes[j]?.getD 0 : Nat)) := fun j hj => by
      rw [HR8.out.bs.cellAt j (by show j < (s2.b.length + 1) * 1; omega)]
      exact byteCells_getD s2 j hj
    have HCL : Hid (∀ j, j < s2.b.length + 1 → w8.cell? ⟨gb2, j, none⟩ = some (.int .u8 (s2.bytes[j]?.getD 0 : Nat))) := hcell
    have hlast : w8.cell? ⟨gb2, s2.b.length, none⟩ = some (.int .u8 (s2.l : Nat)) := by
      have h := hcell s2.b.length (by omega)
      rwa [bytes_last] at h
    have HCP : Hid (s2.b.length + 1 ≤ cb2 ∧ cb2 ≤ maxLen) := by
      rcases HR8.out.bs.2 with ⟨e, _⟩ | ⟨g', cap', cur, e, _, _, hc, hm, _⟩
      · cases e
      · simp at e; obtain ⟨_, rfl⟩ := e; exact ⟨hc, hm⟩
    obtain ⟨u0, u1, u2, u3, u4, u5, u6, u7, u8, uf⟩ := cell_of_nine HR8.out.blk
    simp only [] at u7
    clear uf hcell u0 u1 u2 u3 u4 u5 u6 u8
    obtain ⟨L, hL⟩ : ∃ L, L = s2.b.length := ⟨_, rfl⟩
    have HL : Hid (L = s2.b.length) := hL
    rw [← hL] at u7 hlast
    have hL2 : L = o.s.b.length + 2 := by rw [hL]; exact HB8.out.1
    have hL9 : L ≤ 900000002 := by omega
    have hcp1 := HCP.out.1
    have hcp2 := HCP.out.2
    rw [← hL] at hcp1
    unfold maxLen at hcp2
    have hL1 : 1 < L := by omega
    clear hL hL2 hl3c hl2c hlen9
    have kn1 : IntKind.i64.wrap ((L : Int) + 1 - 1) = (L : Int) := by rw [IntKind.wrap_i64]; omega
    have i1 : (0 : Int) ≤ (L : Int) := by omega
    have i2 : (L : Int) < (L : Int) + 1 := by omega
    by_cases hff : s2.l = 255
    · have hq : (((s2.l : Nat) : Int) == 255) = true := by rw [hff]; rfl
      have hfl : flushP o.s = s2.b.drop 1 := by unfold flushP; rw [hs2, if_pos hff]
      have HNW : Hid ((byteCells (flushP o.s)).length = (L - 1) * 1 ∧ (∀ j u, (byteCells (flushP o.s))[j]? = some u → w8.cell? ((⟨gb2, 1, none⟩ : Addr).add j) = some u) ∧ ∀ u ∈ byteCells (flushP o.s), u.oneCell' = true) := by
        refine ⟨?_, fun j u hu => ?_, byteCells_one _⟩
        · rw [length_byteCells, hfl, List.length_drop, ← HL.out]; omega
        · rw [addr_one]
          exact news_at (HCL.out) (by rw [hfl] at hu; exact hu) (Or.inl rfl)
      have HFL : Hid (flushP o.s = flushP o.s) := rfl
      have HRE : Hid (∀ u, Fr (fun _ => False) w8 u → ReAt u br gt ct gs gz n gb2 cb2 { o with s := flush2 o.s } true ∧ RStep br gs gz gb gb2 w u) := fun u hf => by
        refine ⟨?_, HS8.out.trans (RStep.of_fr (hf.mono (fun _ _ h => h.elim)))⟩
        rw [hs2]
        exact HR8.out.kept hf (fun h => h) (fun h => h) (fun h => h) (fun h => h) (fun h => h)
      have HSZ : Hid (w.heap.size ≤ w8.heap.size) := HS8.out.fr.size
      clear hfl hff HFL
      obtain ⟨i0, hi, hz0, hz1, hz2⟩ := info_parts Tryd.info5
      go_wp2_with (first | (at_builtin; refine wpList_append_lies _ rfl _ _ 24 rfl 0 5 i0 (.int .u8 0) 1 1 Tryd.underlying24 hi hz0 hz1 hz2 rfl (by decide) (.slice none 0 0) 0 [] rfl (World.ownsRow_nil _ _ _ _) ⟨gb2, 1, none⟩ (L - 1) _ (byteCells (flushP o.s)) rfl HNW.out.1 HNW.out.2.1 HNW.out.2.2 ?c1 ?c2 ?c3 (Nat.zero_le _) w8.heap.size rfl ?_))
      case c1 => omega
      case c2 => unfold maxLen; omega
      case c3 => omega
      intro g' cap' w9 hown9 hgrow9 hat9 hlt9
      have HF9 : Hid (Fr (fun _ => False) w8 w9) := (Fr.refl _ _).grown hgrow9 (fun k hk _ => by cases hk)
      have HO9 : Hid (w9.ownsRow 0 5 1 (.slice (some ⟨g', 0, none⟩) (L - 1) cap') (L - 1) (byteCells (flushP o.s))) := hown9
      have HG9 : Hid (g' = w8.heap.size) := by rcases hat9 with h | h; cases h; exact h
      clear hown9 hgrow9 hat9 hlt9
      go_wp2_with fail
      go_ret2
      exact ⟨g', _, cap', gb2, cb2, rfl, HO9.out, by have := HG9.out; have := HSZ.out; omega, (HRE.out _ HF9.out).1, (HRE.out _ HF9.out).2⟩
    · have hq : (((s2.l : Nat) : Int) == 255) = false := by simp; omega
      have hfl : flushP o.s = (s2.b ++ [s2.l]).drop 1 := by unfold flushP; rw [hs2, if_neg hff]
      have HNW : Hid ((byteCells (flushP o.s)).length = L * 1 ∧ (∀ j u, (byteCells (flushP o.s))[j]? = some u → w8.cell? ((⟨gb2, 1, none⟩ : Addr).add j) = some u) ∧ ∀ u ∈ byteCells (flushP o.s), u.oneCell' = true) := by
        refine ⟨?_, fun j u hu => ?_, byteCells_one _⟩
        · rw [length_byteCells, hfl, List.length_drop, List.length_append, ← HL.out]; simp
        · rw [addr_one]
          exact news_at (HCL.out) (by rw [hfl] at hu; exact hu) (Or.inr rfl)
      have HFL : Hid (flushP o.s = flushP o.s) := rfl
      have HRE : Hid (∀ u, Fr (fun _ => False) w8 u → ReAt u br gt ct gs gz n gb2 cb2 { o with s := flush2 o.s } true ∧ RStep br gs gz gb gb2 w u) := fun u hf => by
        refine ⟨?_, HS8.out.trans (RStep.of_fr (hf.mono (fun _ _ h => h.elim)))⟩
        rw [hs2]
        exact HR8.out.kept hf (fun h => h) (fun h => h) (fun h => h) (fun h => h) (fun h => h)
      have HSZ : Hid (w.heap.size ≤ w8.heap.size) := HS8.out.fr.size
      clear hfl hff HFL
      obtain ⟨i0, hi, hz0, hz1, hz2⟩ := info_parts Tryd.info5
      go_wp2_with (first | (at_builtin; refine wpList_append_lies _ rfl _ _ 24 rfl 0 5 i0 (.int .u8 0) 1 1 Tryd.underlying24 hi hz0 hz1 hz2 rfl (by decide) (.slice none 0 0) 0 [] rfl (World.ownsRow_nil _ _ _ _) ⟨gb2, 1, none⟩ (L) _ (byteCells (flushP o.s)) rfl HNW.out.1 HNW.out.2.1 HNW.out.2.2 ?c1 ?c2 ?c3 (Nat.zero_le _) w8.heap.size rfl ?_))
      case c1 => omega
      case c2 => unfold maxLen; omega
      case c3 => omega
      intro g' cap' w9 hown9 hgrow9 hat9 hlt9
      have HF9 : Hid (Fr (fun _ => False) w8 w9) := (Fr.refl _ _).grown hgrow9 (fun k hk _ => by cases hk)
      have HO9 : Hid (w9.ownsRow 0 5 1 (.slice (some ⟨g', 0, none⟩) (L) cap') (L) (byteCells (flushP o.s))) := hown9
      have HG9 : Hid (g' = w8.heap.size) := by rcases hat9 with h | h; cases h; exact h
      clear hown9 hgrow9 hat9 hlt9
      go_wp2_with fail
      go_ret2
      exact ⟨g', _, cap', gb2, cb2, rfl, HO9.out, by have := HG9.out; have := HSZ.out; omega, (HRE.out _ HF9.out).1, (HRE.out _ HF9.out).2⟩

end Go.Proofs.YtllhekkclhcdbaaDoor

namespace Go.Proofs.YtllhekkclhcdbaaDoor
open Go.RowKit

set_option maxRecDepth 100000 in
set_option maxHeartbeats 4000000 in
theorem rencode5_any (w : World) (ao : Option Addr) (n cap : Nat) (V : Nat → Int) (N : Nat → Bool) (h : NumsAt w ao n V N) (hn : n ≤ 200) :
    Calls Tryd.prog 11 #[.slice ao n cap] w fun e w' => Fr (fun _ => False) w w' ∧ (((∀ j, j < n → mayP (V j) (N j) = true) ∧ ∃ g k c, e = .returned (.tuple #[.slice (some ⟨g, 0, none⟩) k c, .int .i64 0]) ∧ SeenAt w' (.slice (some ⟨g, 0, none⟩) k c) (codedB 512 (numsL V N n))) ∨
      ((∃ j, j < n ∧ mayP (V j) (N j) = false) ∧ e = .returned (.tuple #[.slice none 0 0, .int .i64 50]))) := by
  have HL : Hid (NumsAt w ao n V N) := h
  have HN : Hid (n ≤ 200) := hn
  clear h hn
  go_enter Tryd.func11, Tryd.ntmps11
  go_wp2_with fail
  go_loopw [4] (fun p wr => ∃ i : Nat, i ≤ n ∧ p = .int .i64 (i : Int) ∧ (∀ j, j < i → mayP (V j) (N j) = true) ∧ Fr (fun _ => False) w wr)
    (fun p _ => ((n : Int) - intOf p).toNat)
  case atStart => exact ⟨0, Nat.zero_le _, rfl, fun j hj => absurd hj (by omega), Fr.refl _ _⟩
  case round =>
    obtain ⟨i, hi, rfl, hall, hfr⟩ := hrel
    have HF : Hid (Fr (fun _ => False) w wr) := hfr
    have HA : Hid (∀ j, j < i → mayP (V j) (N j) = true) := hall
    by_cases hin : i < n
    · have hdec : decide (i < n) = true := decide_eq_true hin
      obtain ⟨b, off, eao, hc⟩ := (HL.out.kept hfr).at_ (by omega)
      obtain ⟨c0, c1⟩ := hc i hin
      obtain ⟨v, ev⟩ : ∃ v, V i = v := ⟨_, rfl⟩
      obtain ⟨nn, en⟩ : ∃ nn, N i = nn := ⟨_, rfl⟩
      rw [ev] at c0
      rw [en] at c1
      have HI : Hid (i < n ∧ V i = v ∧ N i = nn) := ⟨hin, ev, en⟩
      have k2 : IntKind.i64.wrap ((i : Int) + 1) = (i : Int) + 1 := by have := HN.out; rw [IntKind.wrap_i64]; omega
      subst eao
      clear hfr hall hc ev en hi
      go_wp2_with fail
      by_cases hmay : mayP v nn = true
      · refine (rmay_at _ v nn true hmay.symm).mono ?_
        rintro e w1 ⟨rfl, f1⟩
        have F1 : Hid (Fr (fun _ => False) w w1) := Fr.trans HF.out f1 (fun _ _ h => h)
        have HM : Hid (mayP v nn = true) := hmay
        clear f1 hmay
        go_wp2_with fail
        go_roundw
        case rel =>
          obtain ⟨q1, q2, q3⟩ := HI.out
          refine ⟨i + 1, by omega, by push_cast; rfl, ?_, F1.out⟩
          intro j hj
          rcases Nat.lt_or_ge j i with e | e
          · exact HA.out j e
          · obtain rfl : j = i := by omega
            rw [q2, q3]; exact HM.out
        case measure => have := HI.out; simp [intOf]; omega
      · have hmf : mayP v nn = false := by simpa using hmay
        refine (rmay_at _ v nn false hmf.symm).mono ?_
        rintro e w1 ⟨rfl, f1⟩
        have F1 : Hid (Fr (fun _ => False) w w1) := Fr.trans HF.out f1 (fun _ _ h => h)
        have HM : Hid (mayP v nn = false) := hmf
        clear f1 hmay hmf
        go_wp2_with fail
        go_ret2
        obtain ⟨q1, q2, q3⟩ := HI.out
        exact ⟨F1.out, .inr ⟨⟨i, q1, by rw [q2, q3]; exact HM.out⟩, rfl⟩⟩
    · obtain rfl : i = n := by omega
      have hdec : decide (i < i) = false := decide_eq_false (by omega)
      have HOk : Hid (∀ k, k ≤ i → Ook (runL (newP 512) (numsL V N k)) ∧ (runL (newP 512) (numsL V N k)).made ≤ 38 * k) := fun k hk => by
        have h1 := numsL_len V N k
        have h2 := HN.out
        obtain ⟨a, b, _⟩ := runL_ok (newP_ok (n := 512) (by omega) (by omega)) (numsL V N k) (by show 0 + _ ≤ _; omega)
        exact ⟨a, by have e : (newP 512).made = 0 := rfl; omega⟩
      clear hall hfr
      go_wp2_with fail
      refine (rnew_any _ 512 (by omega) (by omega)).mono ?_
      rintro e w1 ⟨br, gt, ct, gs, gz, gb, rfl, hre, f1, l1, l2, l3, l4, l5⟩
      have F1 : Hid (Fr (fun _ => False) w w1) := Fr.trans HF.out f1 (fun _ _ h => h)
      have hz := HF.out.size
      have HC : Hid (ReAt w1 br gt ct gs gz 512 gb 1 (newP 512) false ∧ w.heap.size ≤ br ∧ w.heap.size ≤ gs ∧ w.heap.size ≤ gz ∧ w.heap.size ≤ gb) := ⟨hre, by omega, by omega, by omega, by omega⟩
      clear hre f1 l1 l2 l3 l4 l5 hz
      go_wp2_with fail
      go_loopw [6, 7] (fun p _ wr => ∃ k : Nat, k ≤ i ∧ p = .int .i64 (k : Int) ∧ (∃ g c, ReAt wr br gt ct gs gz 512 g c (runL (newP 512) (numsL V N k)) false ∧ w.heap.size ≤ g) ∧ Fr (fun _ => False) w wr)
        (fun p _ _ => ((i : Int) - intOf p).toNat)
      case atStart => exact ⟨0, Nat.zero_le _, rfl, ⟨gb, 1, HC.out.1, HC.out.2.2.2.2⟩, F1.out⟩
      case round =>
        obtain ⟨k, hk, rfl, ⟨g, c, hre, hg⟩, hfr⟩ := hrel
        have HR : Hid (ReAt wr br gt ct gs gz 512 g c (runL (newP 512) (numsL V N k)) false ∧ w.heap.size ≤ g) := ⟨hre, hg⟩
        have HF2 : Hid (Fr (fun _ => False) w wr) := hfr
        by_cases hki : k < i
        · have hdk : decide (k < i) = true := decide_eq_true hki
          obtain ⟨b, off, eao, hc⟩ := (HL.out.kept hfr).at_ (by omega)
          obtain ⟨c0, c1⟩ := hc k hki
          have HPt : Hid (Calls Tryd.prog 26 #[.pointer (some ⟨br, 0, none⟩), .int .i64 0, .agg #[.int .i64 (V k), .bool (N k)]] wr fun e w' => e = .returned (.int .i64 0) ∧ ∃ gb' cb', ReAt w' br gt ct gs gz 512 gb' cb' (runL (newP 512) (numsL V N (k + 1))) false ∧ RStep br gs gz g gb' wr w') := by
            obtain ⟨a1, a2⟩ := HOk.out k hk
            have h2 := HN.out
            have := rput5_ok wr br gt ct gs gz 512 g c _ 0 (V k) (N k) HR.out.1 a1 (by omega) (by omega) (HA.out k hki)
            rw [show numsL V N (k + 1) = numsL V N k ++ decs 0 512 1 (numBits (V k) (N k)) from rfl, runL_cat]
            exact this
          have k2 : IntKind.i64.wrap ((k : Int) + 1) = (k : Int) + 1 := by have := HN.out; rw [IntKind.wrap_i64]; omega
          generalize V k = v at *
          generalize N k = nn at *
          subst eao
          clear hfr hc hre hg
          go_wp2_with fail
          refine HPt.out.mono ?_
          rintro e w2 ⟨rfl, gb', cb', hr2, hs2⟩
          have H2 : Hid ((∃ g c, ReAt w2 br gt ct gs gz 512 g c (runL (newP 512) (numsL V N (k + 1))) false ∧ w.heap.size ≤ g) ∧ Fr (fun _ => False) w w2) := by
            have hh := HC.out
            have hg := HR.out.2
            have hz := HF2.out.size
            refine ⟨⟨gb', cb', hr2, ?_⟩, HF2.out.trans hs2.fr (fun i hi e => by omega)⟩
            rcases hs2.row with a | a <;> omega
          clear hr2 hs2 c0 c1
          go_wp2_with fail
          go_roundw
          case rel => exact ⟨k + 1, by omega, by push_cast; rfl, H2.out.1, H2.out.2⟩
          case measure => simp [intOf]; omega
        · obtain rfl : k = i := by omega
          have hdk : decide (k < k) = false := decide_eq_false (by omega)
          clear hre hg hfr
          go_wp2_with fail
          refine (rflush_any _ br gt ct gs gz 512 g c _ HR.out.1 (HOk.out k (Nat.le_refl _)).1).mono ?_
          rintro e w2 ⟨gq, NN, cq, gb2, cb2, rfl, ho6, hg6, _, hs6⟩
          have H6 : Hid (SeenAt w2 (.slice (some ⟨gq, 0, none⟩) NN cq) (codedB 512 (numsL V N k)) ∧ Fr (fun _ => False) w w2) := by
            have hh := HC.out
            have hg := HR.out.2
            refine ⟨?_, HF2.out.trans hs6.fr (fun i hi e => by omega)⟩
            have hok := (HOk.out k (Nat.le_refl _)).1
            unfold codedB
            have hlen : (flushP (runL (newP 512) (numsL V N k)).s).length = NN := by have := ho6.1; rw [length_byteCells] at this; omega
            subst hlen
            refine SeenAt.of_row ho6 ?_
            have hb := hok.len
            have hm := hok.made
            have h2 := flush_two (runL (newP 512) (numsL V N k)).s
            unfold flushP
            split
            · rw [List.length_drop]; omega
            · rw [List.length_drop, List.length_append]; simp; omega
          clear ho6 hg6 hs6
          go_wp2_with fail
          go_ret2
          exact ⟨H6.out.2, .inl ⟨HA.out, gq, NN, cq, rfl, H6.out.1⟩⟩

end Go.Proofs.YtllhekkclhcdbaaDoor

namespace Go.Proofs.YtllhekkclhcdbaaDoor
open Go.RowKit

/-- Numbers as cells. -/
def numCells (V : Nat → Int) (N : Nat → Bool) : Nat → List Value
  | 0 => []
  | n + 1 => numCells V N n ++ [.int .i64 (V n), .bool (N n)]
theorem numCells_len (V : Nat → Int) (N : Nat → Bool) : ∀ n, (numCells V N n).length = n * 2
  | 0 => rfl
  | n + 1 => by simp [numCells, numCells_len V N n]; omega
theorem numCells_get (V : Nat → Int) (N : Nat → Bool) : ∀ n j, j < n → (numCells V N n)[j * 2]? = some (.int .i64 (V j)) ∧ (numCells V N n)[j * 2 + 1]? = some (.bool (N j))
  | n + 1, j, h => by
    have hl := numCells_len V N n
    simp only [numCells]
    by_cases hj : j < n
    · obtain ⟨a, b⟩ := numCells_get V N n j hj
      rw [List.getElem?_append_left (by omega), List.getElem?_append_left (by omega)]
      exact ⟨a, b⟩
    · obtain rfl : j = n := by omega
      rw [List.getElem?_append_right (by omega), List.getElem?_append_right (by omega), hl, Nat.sub_self, Nat.add_sub_cancel_left]
      exact ⟨rfl, rfl⟩
theorem numCells_one (V : Nat → Int) (N : Nat → Bool) : ∀ n, ∀ u ∈ numCells V N n, u.oneCell' = true
  | 0, u, h => by simp [numCells] at h
  | n + 1, u, h => by
    simp only [numCells, List.mem_append, List.mem_cons, List.not_mem_nil, or_false] at h
    rcases h with h | rfl | rfl
    · exact numCells_one V N n u h
    · rfl
    · rfl
theorem nums_of_row {w : World} {g n cap : Nat} {V : Nat → Int} {N : Nat → Bool} (h : w.ownsRow 0 46 2 (.slice (some ⟨g, 0, none⟩) n cap) n (numCells V N n)) (hn : n ≤ 200) : NumsAt w (some ⟨g, 0, none⟩) n V N := by
  refine ⟨by omega, fun _ => ⟨g, 0, rfl, fun j hj => ?_⟩⟩
  obtain ⟨a, b⟩ := numCells_get V N n j hj
  refine ⟨?_, ?_⟩
  · rw [Nat.zero_add, h.cellAt (j * 2) (by omega)]; exact a
  · rw [Nat.zero_add, h.cellAt (j * 2 + 1) (by omega)]; exact b
theorem nums_news {w : World} {b off n : Nat} {V : Nat → Int} {N : Nat → Bool} (h : NumsAt w (some ⟨b, off, none⟩) n V N) : ∀ (j : Nat) (u : Value), (numCells V N n)[j]? = some u → w.cell? ((⟨b, off, none⟩ : Addr).add j) = some u := by
  intro j u hu
  have hl := numCells_len V N n
  have hj : j < n * 2 := by
    rcases Nat.lt_or_ge j (n * 2) with h | h
    · exact h
    · rw [List.getElem?_eq_none (by omega)] at hu; cases hu
  obtain ⟨b', off', e, hc⟩ := h.at_ (by omega)
  cases e
  rw [show (⟨b, off, none⟩ : Addr).add j = ⟨b, off + j, none⟩ from by unfold Addr.add; split <;> simp_all]
  obtain ⟨q, hq⟩ : ∃ q, j = q * 2 ∨ j = q * 2 + 1 := ⟨j / 2, by omega⟩
  obtain ⟨c0, c1⟩ := hc q (by omega)
  obtain ⟨a0, a1⟩ := numCells_get V N n q (by omega)
  rcases hq with rfl | rfl
  · rw [a0] at hu; rw [← hu]; exact c0
  · rw [a1] at hu; rw [← hu, ← Nat.add_assoc]; exact c1

set_option maxRecDepth 100000 in
set_option maxHeartbeats 8000000 in
theorem encodes5_any (w : World) (ao : Option Addr) (n cap : Nat) (V : Nat → Int) (N : Nat → Bool) (h : NumsAt w ao n V N) (hr : RowsAt w) :
    Calls Tryd.prog 3 #[.slice ao n cap] w fun e w' => e = .returned (.bool true) ∧ Fr (fun _ => False) w w' := by
  obtain ⟨i0, hi, hz0, hz1, hz2⟩ := info_parts Tryd.info46
  have HL : Hid (NumsAt w ao n V N) := h
  have HR : Hid (RowsAt w) := hr
  clear hr
  by_cases hbig : 200 < n
  · have hd : decide (200 < n) = true := decide_eq_true hbig
    clear h
    go_enter Tryd.func3, Tryd.ntmps3
    go_wp2_with fail
    refine (wakes5_any _ HR.out).mono ?_
    rintro e w1 ⟨rfl, hf⟩
    have HF : Hid (Fr (fun _ => False) w w1) := hf
    clear hf
    go_wp2_with fail
    go_ret
    exact ⟨rfl, HF.out⟩
  · have hd : decide (200 < n) = false := decide_eq_false hbig
    have HN : Hid (n ≤ 200) := by show _ ≤ _; omega
    have hrow0 : ∀ w' : World, w'.ownsRow 0 46 2 (.slice none 0 0) 0 [] := fun w' => ⟨rfl, Or.inl ⟨rfl, rfl⟩⟩
    by_cases hz : n = 0
    · subst hz
      have hE : ∀ (w' : World), NumsAt w' none 0 V N := fun w' => ⟨by omega, fun h => absurd h (by omega)⟩
      clear h
      cases ao with
      | none =>
        go_enter Tryd.func3, Tryd.ntmps3
        have HX : Hid (NumsAt w none 0 V N) := hE w
        have HF2 : Hid (Fr (fun _ => False) w w) := Fr.refl _ _
        go_wp2_with fail
        refine (encode_any w none 0 0 V N HX.out HN.out (HR.out.kept HF2.out (fun h => h))).mono ?_
        rintro e w3 ⟨hf3, hcase3⟩
        have HFx : Hid (Fr (fun _ => False) w w3) := hf3
        have HF3 : Hid (Fr (fun _ => False) w w3) := HF2.out.trans hf3 (fun _ _ h => h)
        rcases hcase3 with ⟨hall, g3, k3, c3, rfl, hs3, hg3⟩ | ⟨hbad, rfl⟩
        · have HS3 : Hid (SeenAt w3 (.slice (some ⟨g3, 1, none⟩) k3 c3) (codedB 512 (numsL V N 0))) := hs3
          have HAll : Hid (∀ j, j < 0 → mayP (V j) (N j) = true) := hall
          clear hf3 hs3 hg3 hall
          go_wp2_with fail
          refine (rencode5_any w3 none 0 cap V N (HL.out.kept HF3.out) HN.out).mono ?_
          rintro e w4 ⟨hf4, hcase4⟩
          rcases hcase4 with ⟨_, g4, k4, c4, rfl, hs4⟩ | ⟨⟨j, hj, hjf⟩, rfl⟩
          · have HF4 : Hid (Fr (fun _ => False) w w4) := HF3.out.trans hf4 (fun _ _ h => h)
            have HWq : Hid (∀ w', Fr (fun _ => False) w4 w' → Calls Tryd.prog 13 #[.slice none 0 0, .slice none 0 cap] w' fun e w'' => e = .returned (.bool true) ∧ Fr (fun _ => False) w' w'') := fun w' f => by
              refine (eqw_same w' none none 0 0 cap V N (HX.out.kept (HFx.out.trans (hf4.trans f (fun _ _ h => h)) (fun _ _ h => h))) (HL.out.kept (HF4.out.trans f (fun _ _ h => h))) HN.out).mono ?_
              rintro e w'' ⟨h1, q, h2⟩
              exact ⟨h1, by rw [h2]; exact (Fr.refl _ _).drewN q⟩
            have HWk : Hid (∀ w', Fr (fun _ => False) w4 w' → Calls Tryd.prog 9 #[] w' fun e w'' => e = .returned (.bool true) ∧ Fr (fun _ => False) w' w'') := fun w' f => wakes5_any w' (HR.out.kept (HF4.out.trans f (fun _ _ h => h)) (fun h => h))
            have HE : Hid (∀ w', Fr (fun _ => False) w4 w' → Calls Tryd.prog 12 #[.slice (some ⟨g3, 1, none⟩) k3 c3, .slice (some ⟨g4, 0, none⟩) k4 c4] w' fun e w'' => e = .returned (.bool true) ∧ Fr (fun _ => False) w' w'') := fun w' f => by
              refine (eq_same _ _ _ _ w' ((HS3.out.kept hf4 (fun _ _ h => h)).kept f (fun _ _ h => h)) (hs4.kept f (fun _ _ h => h)) rfl true (by show true = _; simp)).mono ?_
              rintro e w'' ⟨h1, q, h2⟩
              exact ⟨h1, by rw [h2]; exact (Fr.refl _ _).drewN q⟩
            clear hf4 hs4
            go_wp2_with fail
            refine (HE.out _ (Fr.refl _ _)).mono ?_
            rintro e wa ⟨rfl, hfa⟩
            have HFa : Hid (Fr (fun _ => False) w4 wa) := hfa
            clear hfa
            go_wp2_with fail
            refine (HWq.out _ HFa.out).mono ?_
            rintro e wb ⟨rfl, hfb⟩
            have HFb : Hid (Fr (fun _ => False) w4 wb) := HFa.out.trans hfb (fun _ _ h => h)
            clear hfb
            go_wp2_with fail
            refine (HWk.out _ HFb.out).mono ?_
            rintro e wc ⟨rfl, hfc⟩
            have HFc : Hid (Fr (fun _ => False) w wc) := (HF4.out.trans HFb.out (fun _ _ h => h)).trans hfc (fun _ _ h => h)
            clear hfc
            go_wp2_with fail
            go_ret
            exact ⟨rfl, HFc.out⟩
          · exact absurd (HAll.out j hj) (by rw [hjf]; decide)
        · have HBad : Hid (∃ j, j < 0 ∧ mayP (V j) (N j) = false) := hbad
          clear hf3 hbad
          go_wp2_with fail
          refine (rencode5_any w3 none 0 cap V N (HL.out.kept HF3.out) HN.out).mono ?_
          rintro e w4 ⟨hf4, hcase4⟩
          rcases hcase4 with ⟨hall, g4, k4, c4, rfl, hs4⟩ | ⟨_, rfl⟩
          · obtain ⟨j, hj, hjf⟩ := HBad.out
            exact absurd (hall j hj) (by rw [hjf]; decide)
          · have HF4 : Hid (Fr (fun _ => False) w w4) := HF3.out.trans hf4 (fun _ _ h => h)
            have HWq : Hid (∀ w', Fr (fun _ => False) w4 w' → Calls Tryd.prog 13 #[.slice none 0 0, .slice none 0 cap] w' fun e w'' => e = .returned (.bool true) ∧ Fr (fun _ => False) w' w'') := fun w' f => by
              refine (eqw_same w' none none 0 0 cap V N (HX.out.kept (HFx.out.trans (hf4.trans f (fun _ _ h => h)) (fun _ _ h => h))) (HL.out.kept (HF4.out.trans f (fun _ _ h => h))) HN.out).mono ?_
              rintro e w'' ⟨h1, q, h2⟩
              exact ⟨h1, by rw [h2]; exact (Fr.refl _ _).drewN q⟩
            have HWk : Hid (∀ w', Fr (fun _ => False) w4 w' → Calls Tryd.prog 9 #[] w' fun e w'' => e = .returned (.bool true) ∧ Fr (fun _ => False) w' w'') := fun w' f => wakes5_any w' (HR.out.kept (HF4.out.trans f (fun _ _ h => h)) (fun h => h))
            have HE : Hid (∀ w', Fr (fun _ => False) w4 w' → Calls Tryd.prog 12 #[.slice none 0 0, .slice none 0 0] w' fun e w'' => e = .returned (.bool true) ∧ Fr (fun _ => False) w' w'') := fun w' f => by
              have hs : SeenAt w' (.slice none 0 0) [] := ⟨none, 0, rfl, by simp, fun h => absurd rfl h⟩
              refine (eq_same _ _ [] [] w' hs hs rfl true (by show true = _; simp)).mono ?_
              rintro e w'' ⟨h1, q, h2⟩
              exact ⟨h1, by rw [h2]; exact (Fr.refl _ _).drewN q⟩
            clear hf4
            go_wp2_with fail
            refine (HE.out _ (Fr.refl _ _)).mono ?_
            rintro e wa ⟨rfl, hfa⟩
            have HFa : Hid (Fr (fun _ => False) w4 wa) := hfa
            clear hfa
            go_wp2_with fail
            refine (HWq.out _ HFa.out).mono ?_
            rintro e wb ⟨rfl, hfb⟩
            have HFb : Hid (Fr (fun _ => False) w4 wb) := HFa.out.trans hfb (fun _ _ h => h)
            clear hfb
            go_wp2_with fail
            refine (HWk.out _ HFb.out).mono ?_
            rintro e wc ⟨rfl, hfc⟩
            have HFc : Hid (Fr (fun _ => False) w wc) := (HF4.out.trans HFb.out (fun _ _ h => h)).trans hfc (fun _ _ h => h)
            clear hfc
            go_wp2_with fail
            go_ret
            exact ⟨rfl, HFc.out⟩
      | some ad =>
        go_enter Tryd.func3, Tryd.ntmps3
        have HX : Hid (NumsAt w none 0 V N) := hE w
        have HF2 : Hid (Fr (fun _ => False) w w) := Fr.refl _ _
        go_wp2_with fail
        refine (encode_any w none 0 0 V N HX.out HN.out (HR.out.kept HF2.out (fun h => h))).mono ?_
        rintro e w3 ⟨hf3, hcase3⟩
        have HFx : Hid (Fr (fun _ => False) w w3) := hf3
        have HF3 : Hid (Fr (fun _ => False) w w3) := HF2.out.trans hf3 (fun _ _ h => h)
        rcases hcase3 with ⟨hall, g3, k3, c3, rfl, hs3, hg3⟩ | ⟨hbad, rfl⟩
        · have HS3 : Hid (SeenAt w3 (.slice (some ⟨g3, 1, none⟩) k3 c3) (codedB 512 (numsL V N 0))) := hs3
          have HAll : Hid (∀ j, j < 0 → mayP (V j) (N j) = true) := hall
          clear hf3 hs3 hg3 hall
          go_wp2_with fail
          refine (rencode5_any w3 (some ad) 0 cap V N (HL.out.kept HF3.out) HN.out).mono ?_
          rintro e w4 ⟨hf4, hcase4⟩
          rcases hcase4 with ⟨_, g4, k4, c4, rfl, hs4⟩ | ⟨⟨j, hj, hjf⟩, rfl⟩
          · have HF4 : Hid (Fr (fun _ => False) w w4) := HF3.out.trans hf4 (fun _ _ h => h)
            have HWq : Hid (∀ w', Fr (fun _ => False) w4 w' → Calls Tryd.prog 13 #[.slice none 0 0, .slice (some ad) 0 cap] w' fun e w'' => e = .returned (.bool true) ∧ Fr (fun _ => False) w' w'') := fun w' f => by
              refine (eqw_same w' none (some ad) 0 0 cap V N (HX.out.kept (HFx.out.trans (hf4.trans f (fun _ _ h => h)) (fun _ _ h => h))) (HL.out.kept (HF4.out.trans f (fun _ _ h => h))) HN.out).mono ?_
              rintro e w'' ⟨h1, q, h2⟩
              exact ⟨h1, by rw [h2]; exact (Fr.refl _ _).drewN q⟩
            have HWk : Hid (∀ w', Fr (fun _ => False) w4 w' → Calls Tryd.prog 9 #[] w' fun e w'' => e = .returned (.bool true) ∧ Fr (fun _ => False) w' w'') := fun w' f => wakes5_any w' (HR.out.kept (HF4.out.trans f (fun _ _ h => h)) (fun h => h))
            have HE : Hid (∀ w', Fr (fun _ => False) w4 w' → Calls Tryd.prog 12 #[.slice (some ⟨g3, 1, none⟩) k3 c3, .slice (some ⟨g4, 0, none⟩) k4 c4] w' fun e w'' => e = .returned (.bool true) ∧ Fr (fun _ => False) w' w'') := fun w' f => by
              refine (eq_same _ _ _ _ w' ((HS3.out.kept hf4 (fun _ _ h => h)).kept f (fun _ _ h => h)) (hs4.kept f (fun _ _ h => h)) rfl true (by show true = _; simp)).mono ?_
              rintro e w'' ⟨h1, q, h2⟩
              exact ⟨h1, by rw [h2]; exact (Fr.refl _ _).drewN q⟩
            clear hf4 hs4
            go_wp2_with fail
            refine (HE.out _ (Fr.refl _ _)).mono ?_
            rintro e wa ⟨rfl, hfa⟩
            have HFa : Hid (Fr (fun _ => False) w4 wa) := hfa
            clear hfa
            go_wp2_with fail
            refine (HWq.out _ HFa.out).mono ?_
            rintro e wb ⟨rfl, hfb⟩
            have HFb : Hid (Fr (fun _ => False) w4 wb) := HFa.out.trans hfb (fun _ _ h => h)
            clear hfb
            go_wp2_with fail
            refine (HWk.out _ HFb.out).mono ?_
            rintro e wc ⟨rfl, hfc⟩
            have HFc : Hid (Fr (fun _ => False) w wc) := (HF4.out.trans HFb.out (fun _ _ h => h)).trans hfc (fun _ _ h => h)
            clear hfc
            go_wp2_with fail
            go_ret
            exact ⟨rfl, HFc.out⟩
          · exact absurd (HAll.out j hj) (by rw [hjf]; decide)
        · have HBad : Hid (∃ j, j < 0 ∧ mayP (V j) (N j) = false) := hbad
          clear hf3 hbad
          go_wp2_with fail
          refine (rencode5_any w3 (some ad) 0 cap V N (HL.out.kept HF3.out) HN.out).mono ?_
          rintro e w4 ⟨hf4, hcase4⟩
          rcases hcase4 with ⟨hall, g4, k4, c4, rfl, hs4⟩ | ⟨_, rfl⟩
          · obtain ⟨j, hj, hjf⟩ := HBad.out
            exact absurd (hall j hj) (by rw [hjf]; decide)
          · have HF4 : Hid (Fr (fun _ => False) w w4) := HF3.out.trans hf4 (fun _ _ h => h)
            have HWq : Hid (∀ w', Fr (fun _ => False) w4 w' → Calls Tryd.prog 13 #[.slice none 0 0, .slice (some ad) 0 cap] w' fun e w'' => e = .returned (.bool true) ∧ Fr (fun _ => False) w' w'') := fun w' f => by
              refine (eqw_same w' none (some ad) 0 0 cap V N (HX.out.kept (HFx.out.trans (hf4.trans f (fun _ _ h => h)) (fun _ _ h => h))) (HL.out.kept (HF4.out.trans f (fun _ _ h => h))) HN.out).mono ?_
              rintro e w'' ⟨h1, q, h2⟩
              exact ⟨h1, by rw [h2]; exact (Fr.refl _ _).drewN q⟩
            have HWk : Hid (∀ w', Fr (fun _ => False) w4 w' → Calls Tryd.prog 9 #[] w' fun e w'' => e = .returned (.bool true) ∧ Fr (fun _ => False) w' w'') := fun w' f => wakes5_any w' (HR.out.kept (HF4.out.trans f (fun _ _ h => h)) (fun h => h))
            have HE : Hid (∀ w', Fr (fun _ => False) w4 w' → Calls Tryd.prog 12 #[.slice none 0 0, .slice none 0 0] w' fun e w'' => e = .returned (.bool true) ∧ Fr (fun _ => False) w' w'') := fun w' f => by
              have hs : SeenAt w' (.slice none 0 0) [] := ⟨none, 0, rfl, by simp, fun h => absurd rfl h⟩
              refine (eq_same _ _ [] [] w' hs hs rfl true (by show true = _; simp)).mono ?_
              rintro e w'' ⟨h1, q, h2⟩
              exact ⟨h1, by rw [h2]; exact (Fr.refl _ _).drewN q⟩
            clear hf4
            go_wp2_with fail
            refine (HE.out _ (Fr.refl _ _)).mono ?_
            rintro e wa ⟨rfl, hfa⟩
            have HFa : Hid (Fr (fun _ => False) w4 wa) := hfa
            clear hfa
            go_wp2_with fail
            refine (HWq.out _ HFa.out).mono ?_
            rintro e wb ⟨rfl, hfb⟩
            have HFb : Hid (Fr (fun _ => False) w4 wb) := HFa.out.trans hfb (fun _ _ h => h)
            clear hfb
            go_wp2_with fail
            refine (HWk.out _ HFb.out).mono ?_
            rintro e wc ⟨rfl, hfc⟩
            have HFc : Hid (Fr (fun _ => False) w wc) := (HF4.out.trans HFb.out (fun _ _ h => h)).trans hfc (fun _ _ h => h)
            clear hfc
            go_wp2_with fail
            go_ret
            exact ⟨rfl, HFc.out⟩
    · obtain ⟨b, off, eao, _⟩ := h.at_ (by omega)
      subst eao
      have HNw := (show Hid _ from nums_news h)
      clear h
      go_enter Tryd.func3, Tryd.ntmps3
      go_wp2_with (first | (at_builtin; refine wpList_append_row _ rfl _ _ 22 rfl 46 i0 (.agg #[.int .i64 0, .bool false]) 2 16 Tryd.underlying22 hi hz0 hz1 hz2 rfl (by decide) _ _ _ rfl (hrow0 _) ⟨b, off, none⟩ n cap (numCells V N n) rfl (numCells_len V N n) HNw.out (numCells_one V N n) ?_ ?_ ?_ ?_))
      · unfold maxLen; omega
      · omega
      · omega
      · intro g2 cap2 w2 hown2 hgrow hat hc2 hm2
        (try simp only [Nat.zero_add, List.nil_append] at hown2)
        (try simp only [Nat.zero_add])
        have HX : Hid (NumsAt w2 (some ⟨g2, 0, none⟩) n V N) := nums_of_row hown2 HN.out
        have HF2 : Hid (Fr (fun _ => False) w w2) := (Fr.refl _ _).grown hgrow (fun j hj _ => by simp [Value.ownBlock] at hj)
        have hao : ∃ ao, ao = some (⟨b, off, none⟩ : Addr) := ⟨_, rfl⟩
        clear hown2 hgrow hat hao
        go_wp2_with fail
        refine (encode_any w2 (some ⟨g2, 0, none⟩) n cap2 V N HX.out HN.out (HR.out.kept HF2.out (fun h => h))).mono ?_
        rintro e w3 ⟨hf3, hcase3⟩
        have HF23 : Hid (Fr (fun _ => False) w2 w3) := hf3
        have HF3 : Hid (Fr (fun _ => False) w w3) := HF2.out.trans hf3 (fun _ _ h => h)
        rcases hcase3 with ⟨hall, g3, k3, c3, rfl, hs3, hg3⟩ | ⟨hbad, rfl⟩
        · have HS3 : Hid (SeenAt w3 (.slice (some ⟨g3, 1, none⟩) k3 c3) (codedB 512 (numsL V N n))) := hs3
          have HAll : Hid (∀ j, j < n → mayP (V j) (N j) = true) := hall
          clear hf3 hs3 hg3 hall
          go_wp2_with fail
          refine (rencode5_any w3 (some ⟨b, off, none⟩) n cap V N (HL.out.kept HF3.out) HN.out).mono ?_
          rintro e w4 ⟨hf4, hcase4⟩
          rcases hcase4 with ⟨_, g4, k4, c4, rfl, hs4⟩ | ⟨⟨j, hj, hjf⟩, rfl⟩
          · have HF4 : Hid (Fr (fun _ => False) w w4) := HF3.out.trans hf4 (fun _ _ h => h)
            have HWq : Hid (∀ w', Fr (fun _ => False) w4 w' → Calls Tryd.prog 13 #[.slice (some ⟨g2, 0, none⟩) n cap2, .slice (some ⟨b, off, none⟩) n cap] w' fun e w'' => e = .returned (.bool true) ∧ Fr (fun _ => False) w' w'') := fun w' f => by
              refine (eqw_same w' (some ⟨g2, 0, none⟩) (some ⟨b, off, none⟩) n cap2 cap V N (HX.out.kept (HF23.out.trans (hf4.trans f (fun _ _ h => h)) (fun _ _ h => h))) (HL.out.kept (HF4.out.trans f (fun _ _ h => h))) HN.out).mono ?_
              rintro e w'' ⟨h1, q, h2⟩
              exact ⟨h1, by rw [h2]; exact (Fr.refl _ _).drewN q⟩
            have HWk : Hid (∀ w', Fr (fun _ => False) w4 w' → Calls Tryd.prog 9 #[] w' fun e w'' => e = .returned (.bool true) ∧ Fr (fun _ => False) w' w'') := fun w' f => wakes5_any w' (HR.out.kept (HF4.out.trans f (fun _ _ h => h)) (fun h => h))
            have HE : Hid (∀ w', Fr (fun _ => False) w4 w' → Calls Tryd.prog 12 #[.slice (some ⟨g3, 1, none⟩) k3 c3, .slice (some ⟨g4, 0, none⟩) k4 c4] w' fun e w'' => e = .returned (.bool true) ∧ Fr (fun _ => False) w' w'') := fun w' f => by
              refine (eq_same _ _ _ _ w' ((HS3.out.kept hf4 (fun _ _ h => h)).kept f (fun _ _ h => h)) (hs4.kept f (fun _ _ h => h)) rfl true (by show true = _; simp)).mono ?_
              rintro e w'' ⟨h1, q, h2⟩
              exact ⟨h1, by rw [h2]; exact (Fr.refl _ _).drewN q⟩
            clear hf4 hs4
            go_wp2_with fail
            refine (HE.out _ (Fr.refl _ _)).mono ?_
            rintro e wa ⟨rfl, hfa⟩
            have HFa : Hid (Fr (fun _ => False) w4 wa) := hfa
            clear hfa
            go_wp2_with fail
            refine (HWq.out _ HFa.out).mono ?_
            rintro e wb ⟨rfl, hfb⟩
            have HFb : Hid (Fr (fun _ => False) w4 wb) := HFa.out.trans hfb (fun _ _ h => h)
            clear hfb
            go_wp2_with fail
            refine (HWk.out _ HFb.out).mono ?_
            rintro e wc ⟨rfl, hfc⟩
            have HFc : Hid (Fr (fun _ => False) w wc) := (HF4.out.trans HFb.out (fun _ _ h => h)).trans hfc (fun _ _ h => h)
            clear hfc
            go_wp2_with fail
            go_ret
            exact ⟨rfl, HFc.out⟩
          · exact absurd (HAll.out j hj) (by rw [hjf]; decide)
        · have HBad : Hid (∃ j, j < n ∧ mayP (V j) (N j) = false) := hbad
          clear hf3 hbad
          go_wp2_with fail
          refine (rencode5_any w3 (some ⟨b, off, none⟩) n cap V N (HL.out.kept HF3.out) HN.out).mono ?_
          rintro e w4 ⟨hf4, hcase4⟩
          rcases hcase4 with ⟨hall, g4, k4, c4, rfl, hs4⟩ | ⟨_, rfl⟩
          · obtain ⟨j, hj, hjf⟩ := HBad.out
            exact absurd (hall j hj) (by rw [hjf]; decide)
          · have HF4 : Hid (Fr (fun _ => False) w w4) := HF3.out.trans hf4 (fun _ _ h => h)
            have HWq : Hid (∀ w', Fr (fun _ => False) w4 w' → Calls Tryd.prog 13 #[.slice (some ⟨g2, 0, none⟩) n cap2, .slice (some ⟨b, off, none⟩) n cap] w' fun e w'' => e = .returned (.bool true) ∧ Fr (fun _ => False) w' w'') := fun w' f => by
              refine (eqw_same w' (some ⟨g2, 0, none⟩) (some ⟨b, off, none⟩) n cap2 cap V N (HX.out.kept (HF23.out.trans (hf4.trans f (fun _ _ h => h)) (fun _ _ h => h))) (HL.out.kept (HF4.out.trans f (fun _ _ h => h))) HN.out).mono ?_
              rintro e w'' ⟨h1, q, h2⟩
              exact ⟨h1, by rw [h2]; exact (Fr.refl _ _).drewN q⟩
            have HWk : Hid (∀ w', Fr (fun _ => False) w4 w' → Calls Tryd.prog 9 #[] w' fun e w'' => e = .returned (.bool true) ∧ Fr (fun _ => False) w' w'') := fun w' f => wakes5_any w' (HR.out.kept (HF4.out.trans f (fun _ _ h => h)) (fun h => h))
            have HE : Hid (∀ w', Fr (fun _ => False) w4 w' → Calls Tryd.prog 12 #[.slice none 0 0, .slice none 0 0] w' fun e w'' => e = .returned (.bool true) ∧ Fr (fun _ => False) w' w'') := fun w' f => by
              have hs : SeenAt w' (.slice none 0 0) [] := ⟨none, 0, rfl, by simp, fun h => absurd rfl h⟩
              refine (eq_same _ _ [] [] w' hs hs rfl true (by show true = _; simp)).mono ?_
              rintro e w'' ⟨h1, q, h2⟩
              exact ⟨h1, by rw [h2]; exact (Fr.refl _ _).drewN q⟩
            clear hf4
            go_wp2_with fail
            refine (HE.out _ (Fr.refl _ _)).mono ?_
            rintro e wa ⟨rfl, hfa⟩
            have HFa : Hid (Fr (fun _ => False) w4 wa) := hfa
            clear hfa
            go_wp2_with fail
            refine (HWq.out _ HFa.out).mono ?_
            rintro e wb ⟨rfl, hfb⟩
            have HFb : Hid (Fr (fun _ => False) w4 wb) := HFa.out.trans hfb (fun _ _ h => h)
            clear hfb
            go_wp2_with fail
            refine (HWk.out _ HFb.out).mono ?_
            rintro e wc ⟨rfl, hfc⟩
            have HFc : Hid (Fr (fun _ => False) w wc) := (HF4.out.trans HFb.out (fun _ _ h => h)).trans hfc (fun _ _ h => h)
            clear hfc
            go_wp2_with fail
            go_ret
            exact ⟨rfl, HFc.out⟩

end Go.Proofs.YtllhekkclhcdbaaDoor
