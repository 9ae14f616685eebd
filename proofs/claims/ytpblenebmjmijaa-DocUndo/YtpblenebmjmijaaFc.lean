/- Each kind of step: refused, and nothing was changed; or done, and the state ahead of it is told. -/
import Derived.Test.YtpblenebmjmijaaFb
namespace Go.Proofs.Ytpblenebmjmijaa
set_option maxRecDepth 100000
open Go.RowKit

def OpP (w1 w w' : World) (d : Nat) (pgs : List PgI) (Pf : Pix3) (pv sv : Value) (ss : List Value) (e : Int) : Prop :=
  (e ≠ 0 ∧ Fr (fun _ => False) w w') ∨
  (e = 0 ∧ ∃ (pgs' : List PgI) (Pf' : Pix3) (pv' sv' f : Value), DU w1 w' d pgs' Pf' pv' sv' (cut ss ++ [f]) ∧ (∀ A' : Nat → Prop, (∀ k, A' k → Av d pv' sv' pgs' k ∨ k < w.heap.size) → HS w' d A' pgs' f pgs.length Pf pgs'.length Pf') ∧ Fr (Av d pv sv pgs) w w' ∧ (∀ k, Av d pv' sv' pgs' k → Av d pv sv pgs k ∨ w.heap.size ≤ k) ∧ ∃ r, pgs' = pgs ++ r)

theorem notAv_new {w1 w w' : World} {d k : Nat} {pgs : List PgI} {Pf : Pix3} {pv sv sv' : Value} {ss ps ss' : List Value} {cs : Array Value} {t : TypeId} (h : DU w1 w d pgs Pf pv sv ss) (hd : DocAt w' d d pv sv' ps ss') (hk : w.heap.size ≤ k) (hb : w'.heap[k]? = some (.cells cs t (0, 0))) (ht : t ≠ 63) : ¬ Av d pv sv' pgs k := by
  intro ha
  rcases ha with rfl | ha | ha | ⟨j, p, hj, rfl | rfl⟩
  · have := h.doc.lt; omega
  · have := (h.doc.pg.lt k ha).2; omega
  · exact row_ne hd.st hb ht ha
  · have := (h.mp j p hj).lt; omega
  · have := (h.mp j p hj).glt; omega
theorem notA {w1 w w' : World} {d k : Nat} {pgs : List PgI} {Pf : Pix3} {pv sv sv' : Value} {ss ps ss' : List Value} {cs : Array Value} {t : TypeId} {A' : Nat → Prop} (hA' : ∀ k, A' k → Av d pv sv' pgs k ∨ k < w.heap.size) (h : DU w1 w d pgs Pf pv sv ss) (hd : DocAt w' d d pv sv' ps ss') (hk : w.heap.size ≤ k) (hb : w'.heap[k]? = some (.cells cs t (0, 0))) (ht : t ≠ 63) : ¬ A' k := fun e => (hA' k e).elim (notAv_new h hd hk hb ht) (fun h => by omega)
theorem own_block {w : World} {b g cap W H : Nat} {P : Nat → Nat → Bool} (h : MapAt w b g cap W H P) : ∃ cs, w.heap[g]? = some (.cells cs 32 (0, 0)) := by
  rcases h.own.2 with ⟨e, _⟩ | ⟨g', cap', cur, e, _, hg, _⟩
  · cases e
  · simp only [Value.slice.injEq, Option.some.injEq, Addr.mk.injEq] at e
    obtain ⟨⟨rfl, _⟩, _⟩ := e
    exact ⟨cur, hg⟩
theorem RA.of_rs {A' : Nat → Prop} {w1 w w' : World} {d b W H q1 n1 q2 n2 : Nat} {pgs : List PgI} {Pf : Pix3} {P : Nat → Nat → Bool} {pv sv sv' f : Value} {ss ps ss' : List Value} (hA' : ∀ k, A' k → Av d pv sv' pgs k ∨ k < w.heap.size) (h : DU w1 w d pgs Pf pv sv ss) (hd : DocAt w' d d pv sv' ps ss') (hr : RS w' w.heap.size f b W H P q1 n1 q2 n2) : RA w' A' f b W H P q1 n1 q2 n2 := by
  rcases hr with hr | ⟨h1, h2, h3, h4, s, t, b0, g0, hf, hr, hm, k1, k2, k3, k4⟩
  · exact Or.inl hr
  · obtain ⟨cs, hcs⟩ := own_block hm
    exact Or.inr ⟨h1, h2, h3, h4, s, t, b0, g0, hf, hr, hm, notA hA' h hd k1 hr.c0 (by decide), notA hA' h hd k2 hr.c1 (by decide), notA hA' h hd (by omega) hr.c2 (by decide), notA hA' h hd (by omega) hr.c3 (by decide), notA hA' h hd k3 hm.blk (by decide), notA hA' h hd k4 hcs (by decide)⟩
theorem Av.step {w : World} {d : Nat} {pgs : List PgI} {pv sv sv' : Value} (ho : ∀ k, sv'.ownBlock = some k → sv.ownBlock = some k ∨ w.heap.size ≤ k) (k : Nat) (hk : Av d pv sv' pgs k) : Av d pv sv pgs k ∨ w.heap.size ≤ k := by
  rcases hk with hk | hk | hk | hk
  · exact Or.inl (Or.inl hk)
  · exact Or.inl (Or.inr (Or.inl hk))
  · exact (ho k hk).imp (fun h => Or.inr (Or.inr (Or.inl h))) id
  · exact Or.inl (Or.inr (Or.inr (Or.inr hk)))
theorem Av.frame {d j : Nat} {p : PgI} {pgs : List PgI} {pv sv : Value} (hj : pgs[j]? = some p) (k : Nat) (hk : k = d ∨ sv.ownBlock = some k ∨ k = p.g) : Av d pv sv pgs k := by
  rcases hk with hk | hk | hk
  · exact Or.inl hk
  · exact Or.inr (Or.inr (Or.inl hk))
  · exact Or.inr (Or.inr (Or.inr ⟨j, p, hj, Or.inr hk⟩))
theorem DU.ptr {w1 w : World} {d : Nat} {pgs : List PgI} {Pf : Pix3} {pv sv : Value} {ss : List Value} (h : DU w1 w d pgs Pf pv sv ss) (n : Int) : (n < 0 ∨ ((ptrs pgs).length : Int) ≤ n) ∨ ∃ (j : Nat) (p : PgI), n = j ∧ pgs[j]? = some p ∧ (ptrs pgs)[j]? = some (.pointer (some ⟨p.b, 0, none⟩)) ∧ MapAt w p.b p.g (p.H * stride p.W) p.W p.H (Pf j) := by
  by_cases hn : n < 0 ∨ ((ptrs pgs).length : Int) ≤ n
  · exact Or.inl hn
  · rw [ptrs_len] at hn
    obtain ⟨j, rfl⟩ : ∃ j : Nat, n = j := ⟨n.toNat, by omega⟩
    have hj : pgs[j]? = some (pgs[j]'(by omega)) := List.getElem?_eq_getElem (by omega)
    exact Or.inr ⟨j, _, rfl, hj, ptrs_get hj, h.mp _ _ hj⟩
theorem DU.pl {w1 w : World} {d : Nat} {pgs : List PgI} {Pf : Pix3} {pv sv : Value} {ss : List Value} (h : DU w1 w d pgs Pf pv sv ss) : (ptrs pgs).length ≤ 64 := by rw [ptrs_len]; exact h.le

theorem set_step {w1 w : World} {d : Nat} {pgs : List PgI} {Pf : Pix3} {pv sv : Value} {ss : List Value} (h : DU w1 w d pgs Pf pv sv ss) (n x y bit : Int) :
    Calls Try.prog 9 #[.pointer (some ⟨d, 0, none⟩), .int .i64 n, .int .i64 x, .int .i64 y, .int .i64 bit] w fun e w' => ∃ c : Int, e = .returned (.int .i64 c) ∧ OpP w1 w w' d pgs Pf pv sv ss c := by
  rcases h.ptr n with hn | ⟨j, p, rfl, hj, hv, hm⟩
  · refine (docSet_nopage d d n x y bit pv sv _ ss w h.doc hn).mono ?_
    rintro e w' ⟨rfl, hf⟩
    exact ⟨182, rfl, Or.inl ⟨by decide, hf⟩⟩
  by_cases hin : 0 ≤ x ∧ x < p.W ∧ 0 ≤ y ∧ y < p.H
  · by_cases hbit : bit = 0 ∨ bit = 1
    · obtain ⟨X, rfl⟩ : ∃ X : Nat, x = X := ⟨x.toNat, by omega⟩
      obtain ⟨Y, rfl⟩ : ∃ Y : Nat, y = Y := ⟨y.toNat, by omega⟩
      obtain ⟨B, rfl⟩ : ∃ B : Nat, bit = B := ⟨bit.toNat, by omega⟩
      have hap := hm.apart h.doc
      refine (docSet_any d d p.b p.g _ p.W p.H j X Y B _ pv sv _ ss w h.doc hm hv h.pl h.les h.one (by omega) (by omega) (by omega)).mono ?_
      rintro e w' ⟨rfl, sv', s, hd, hp, hm', hf, hs, ho⟩
      refine ⟨0, rfl, Or.inr ⟨rfl, pgs, _, pv, sv', _, h.drawn hj hd (len_cut h.les) (one_cut h.one) hm' hf, fun A' hA' => Or.inr ⟨rfl, j, p, (List.getElem?_eq_some_iff.mp hj).1, hj, fun i hi => by unfold upd; rw [if_neg hi], Or.inl ⟨s, X, Y, rfl, by omega, by omega, hp, fun a e hne => ?_, notA hA' h hd hs hp.c0 (by decide), notA hA' h hd (by omega) hp.c1 (by decide), notA hA' h hd (by omega) hp.c2 (by decide), notA hA' h hd (by omega) hp.c3 (by decide)⟩⟩, hf.mono (fun k _ hk => Av.frame hj k hk), fun k hk => Av.step ho k hk, [], by simp⟩⟩
      unfold upd laidAll
      rw [if_pos rfl, if_neg (by omega)]
    · refine (docSet_bit d d p.b p.g _ p.W p.H j x y bit _ pv sv _ ss w h.doc hm hv h.pl hin hbit).mono ?_
      rintro e w' ⟨rfl, hf⟩
      exact ⟨183, rfl, Or.inl ⟨by decide, hf⟩⟩
  · refine (docSet_out d d p.b p.g _ p.W p.H j x y bit _ pv sv _ ss w h.doc hm hv h.pl hin).mono ?_
    rintro e w' ⟨rfl, hf⟩
    exact ⟨182, rfl, Or.inl ⟨by decide, hf⟩⟩

/-- Where a rectangle's pixels are not, a place is not in the clip. -/
theorem clip_not {x dx ww : Int} {fe te p q n : Nat} (c : Clip x fe dx te ww p q n) (a : Nat) (ha : a < te) (h : ¬ (q ≤ a ∧ a < q + n)) : ¬ (0 ≤ (a : Int) - dx ∧ (a : Int) - dx < ww ∧ 0 ≤ x + ((a : Int) - dx) ∧ x + ((a : Int) - dx) < fe) := by
  rintro ⟨h1, h2, h3, h4⟩
  have h5 := (c.iff ((a : Int) - dx) h1 h2).mp ⟨h3, h4, by omega, by omega⟩
  have h6 := c.off (by omega)
  omega
theorem clip_not_self {x ww : Int} {te p q n : Nat} (c : Clip x te x te ww p q n) (a : Nat) (ha : a < te) (h : ¬ (q ≤ a ∧ a < q + n)) : ¬ (0 ≤ (a : Int) - x ∧ (a : Int) - x < ww) := by
  have := clip_not c a ha h
  omega

theorem fill_step {w1 w : World} {d : Nat} {pgs : List PgI} {Pf : Pix3} {pv sv : Value} {ss : List Value} (h : DU w1 w d pgs Pf pv sv ss) (n x y ww hh bit : Int) (b1 : I64 x) (b2 : I64 y) (b3 : I64 ww) (b4 : I64 hh) :
    Calls Try.prog 10 #[.pointer (some ⟨d, 0, none⟩), .int .i64 n, .int .i64 x, .int .i64 y, .int .i64 ww, .int .i64 hh, .int .i64 bit] w fun e w' => ∃ c : Int, e = .returned (.int .i64 c) ∧ OpP w1 w w' d pgs Pf pv sv ss c := by
  rcases h.ptr n with hn | ⟨j, p, rfl, hj, hv, hm⟩
  · refine (docFill_nopage d d n x y ww hh bit pv sv _ ss w h.doc hn).mono ?_
    rintro e w' ⟨rfl, hf⟩
    exact ⟨182, rfl, Or.inl ⟨by decide, hf⟩⟩
  by_cases hneg : ww < 0 ∨ hh < 0
  · refine (docFill_neg d d p.b j x y ww hh bit pv sv _ ss w h.doc hv h.pl hneg).mono ?_
    rintro e w' ⟨rfl, hf⟩
    exact ⟨183, rfl, Or.inl ⟨by decide, hf⟩⟩
  by_cases hbit : bit = 0 ∨ bit = 1
  · obtain ⟨B, rfl⟩ : ∃ B : Nat, bit = B := ⟨bit.toNat, by omega⟩
    have b3' := b3.2
    have b4' := b4.2
    refine (docFill_any d d p.b p.g _ p.W p.H j B _ x y ww hh pv sv _ ss w h.doc hm hv h.pl h.les h.one (by omega) b1 b2 ⟨by omega, b3'⟩ ⟨by omega, b4'⟩).mono ?_
    rintro e w' ⟨rfl, sv', fn, caps, p1, q1, n1, p2, q2, n2, hd, c1, c2, hr, hm', hf, ho⟩
    refine ⟨0, rfl, Or.inr ⟨rfl, pgs, _, pv, sv', _, h.drawn hj hd (len_cut h.les) (one_cut h.one) hm' hf, fun A' hA' => Or.inr ⟨rfl, j, p, (List.getElem?_eq_some_iff.mp hj).1, hj, fun i hi => by unfold upd; rw [if_neg hi], Or.inr ⟨q1, n1, q2, n2, fun a e ha he hne => ?_, RA.of_rs hA' h hd hr⟩⟩, hf.mono (fun k _ hk => Av.frame hj k hk), fun k hk => Av.step ho k hk, [], by simp⟩⟩
    unfold upd fillPix
    rw [if_pos rfl, if_neg]
    rintro ⟨g1, g2⟩
    by_cases e1 : q1 ≤ a ∧ a < q1 + n1
    · by_cases e2 : q2 ≤ e ∧ e < q2 + n2
      · exact hne ⟨e1.1, e1.2, e2.1, e2.2⟩
      · exact clip_not_self c2 e he e2 g2
    · exact clip_not_self c1 a ha e1 g1
  · refine (docFill_bit d d p.b j x y ww hh bit pv sv _ ss w h.doc hv h.pl (by omega) (by omega) hbit).mono ?_
    rintro e w' ⟨rfl, hf⟩
    exact ⟨183, rfl, Or.inl ⟨by decide, hf⟩⟩

theorem DU.all {w1 w : World} {d : Nat} {pgs : List PgI} {Pf : Pix3} {pv sv : Value} {ss : List Value} (_h : DU w1 w d pgs Pf pv sv ss) : ∀ (j : Nat) (v : Value), (ptrs pgs)[j]? = some v → ∃ b : Nat, v = Value.pointer (some ⟨b, 0, none⟩) := by
  intro j v hv
  simp [ptrs] at hv
  obtain ⟨p, _, rfl⟩ := hv
  exact ⟨p.b, rfl⟩

theorem blit_step {w1 w : World} {d : Nat} {pgs : List PgI} {Pf : Pix3} {pv sv : Value} {ss : List Value} (h : DU w1 w d pgs Pf pv sv ss) (n0 sx sy ww hh n1 dx dy op : Int) (b1 : I64 sx) (b2 : I64 sy) (b3 : I64 ww) (b4 : I64 hh) (b5 : I64 dx) (b6 : I64 dy) :
    Calls Try.prog 11 #[.pointer (some ⟨d, 0, none⟩), .int .i64 n0, .int .i64 sx, .int .i64 sy, .int .i64 ww, .int .i64 hh, .int .i64 n1, .int .i64 dx, .int .i64 dy, .int .i64 op] w fun e w' => ∃ c : Int, e = .returned (.int .i64 c) ∧ OpP w1 w w' d pgs Pf pv sv ss c := by
  rcases h.ptr n0 with hn | ⟨i, q, rfl, hi, hvi, hmi⟩
  · refine (docBlit_nofrom d d n0 sx sy ww hh n1 dx dy op pv sv _ ss w h.doc h.pl h.all hn).mono ?_
    rintro e w' ⟨rfl, hf⟩
    exact ⟨182, rfl, Or.inl ⟨by decide, hf⟩⟩
  rcases h.ptr n1 with hn | ⟨j, p, rfl, hj, hv, hm⟩
  · refine (docBlit_noto d d q.b i sx sy ww hh n1 dx dy op pv sv _ ss w h.doc h.pl hvi hn).mono ?_
    rintro e w' ⟨rfl, hf⟩
    exact ⟨182, rfl, Or.inl ⟨by decide, hf⟩⟩
  by_cases hneg : ww < 0 ∨ hh < 0
  · refine (docBlit_neg d d q.b p.b i j sx sy ww hh dx dy op pv sv _ ss w h.doc h.pl hvi hv hneg).mono ?_
    rintro e w' ⟨rfl, hf⟩
    exact ⟨183, rfl, Or.inl ⟨by decide, hf⟩⟩
  by_cases hop : 0 ≤ op ∧ op ≤ 4
  · obtain ⟨O, rfl⟩ : ∃ O : Nat, op = O := ⟨op.toNat, by omega⟩
    have b3' := b3.2
    have b4' := b4.2
    by_cases hij : i = j
    · subst hij
      rw [hj] at hi; cases hi
      refine (docBlit_self O d d q.b q.g _ q.W q.H i _ sx sy ww hh dx dy pv sv _ ss w h.doc hm hv h.pl h.les h.one (by omega) b1 b2 ⟨by omega, b3'⟩ ⟨by omega, b4'⟩ b5 b6).mono ?_
      rintro e w' ⟨rfl, sv', fn, caps, p1, q1, n1, p2, q2, n2, hd, c1, c2, hr, hm', hf, ho⟩
      refine ⟨0, rfl, Or.inr ⟨rfl, pgs, _, pv, sv', _, h.drawn hj hd (len_cut h.les) (one_cut h.one) hm' hf, fun A' hA' => Or.inr ⟨rfl, i, q, (List.getElem?_eq_some_iff.mp hj).1, hj, fun i hi => by unfold upd; rw [if_neg hi], Or.inr ⟨q1, n1, q2, n2, fun a e ha he hne => ?_, RA.of_rs hA' h hd hr⟩⟩, hf.mono (fun k _ hk => Av.frame hj k hk), fun k hk => Av.step ho k hk, [], by simp⟩⟩
      unfold upd blitPix
      rw [if_pos rfl, if_neg]
      rintro ⟨g1, g2⟩
      by_cases e1 : q1 ≤ a ∧ a < q1 + n1
      · by_cases e2 : q2 ≤ e ∧ e < q2 + n2
        · exact hne ⟨e1.1, e1.2, e2.1, e2.2⟩
        · exact clip_not c2 e he e2 g2
      · exact clip_not c1 a ha e1 g1
    · have hne' := h.ne i j q p hi hj hij
      refine (docBlit_other O d d p.b p.g _ p.W p.H j q.b q.g _ q.W q.H i _ _ sx sy ww hh dx dy pv sv _ ss w h.doc hm hmi hv hvi h.pl h.les h.one (by omega) hne'.1 (hmi.bg hm) hne'.2 b1 b2 ⟨by omega, b3'⟩ ⟨by omega, b4'⟩ b5 b6).mono ?_
      rintro e w' ⟨rfl, sv', fn, caps, p1, q1, n1, p2, q2, n2, hd, c1, c2, hr, hm', hf, ho⟩
      refine ⟨0, rfl, Or.inr ⟨rfl, pgs, _, pv, sv', _, h.drawn hj hd (len_cut h.les) (one_cut h.one) hm' hf, fun A' hA' => Or.inr ⟨rfl, j, p, (List.getElem?_eq_some_iff.mp hj).1, hj, fun i hi => by unfold upd; rw [if_neg hi], Or.inr ⟨q1, n1, q2, n2, fun a e ha he hne => ?_, RA.of_rs hA' h hd hr⟩⟩, hf.mono (fun k _ hk => Av.frame hj k hk), fun k hk => Av.step ho k hk, [], by simp⟩⟩
      unfold upd blitPix
      rw [if_pos rfl, if_neg]
      rintro ⟨g1, g2⟩
      by_cases e1 : q1 ≤ a ∧ a < q1 + n1
      · by_cases e2 : q2 ≤ e ∧ e < q2 + n2
        · exact hne ⟨e1.1, e1.2, e2.1, e2.2⟩
        · exact clip_not c2 e he e2 g2
      · exact clip_not c1 a ha e1 g1
  · refine (docBlit_op d d q.b p.b i j sx sy ww hh dx dy op pv sv _ ss w h.doc h.pl hvi hv (by omega) (by omega) hop).mono ?_
    rintro e w' ⟨rfl, hf⟩
    exact ⟨183, rfl, Or.inl ⟨by decide, hf⟩⟩

set_option maxHeartbeats 4000000 in
theorem newPage_any (base d W H : Nat) (pv sv : Value) (ps ss : List Value) (w : World) (h : DocAt w base d pv sv ps ss) (hl : ps.length < 64) (hm : ss.length ≤ 64) (hone : ∀ u ∈ ss, u.oneCell' = true) (h1 : 1 ≤ W) (h2 : 1 ≤ H) (h3 : W * H ≤ 1048576) :
    Calls Try.prog 8 #[.pointer (some ⟨d, 0, none⟩), .int .i64 W, .int .i64 H] w fun e w' => e = .returned (.tuple #[.int .i64 ps.length, .int .i64 0]) ∧ ∃ pv' sv' bx b g, DocAt w' base d pv' sv' (ps ++ [.pointer (some ⟨b, 0, none⟩)]) (cut ss ++ [.func (.func 19) #[] #[.pointer (some ⟨bx, 0, none⟩)]]) ∧ w'.heap[bx]? = some (.cells #[.pointer (some ⟨d, 0, none⟩)] 25 (0, 0)) ∧ MapAt w' b g (H * stride W) W H (fun _ _ => false) ∧ Fr (fun k => k = d ∨ pv.ownBlock = some k ∨ sv.ownBlock = some k) w w' ∧ w.heap.size ≤ bx ∧ w.heap.size ≤ b ∧ w.heap.size ≤ g ∧ (∀ k, pv'.ownBlock = some k → pv.ownBlock = some k ∨ w.heap.size ≤ k) ∧ (∀ k, sv'.ownBlock = some k → sv.ownBlock = some k ∨ w.heap.size ≤ k) := by
  obtain ⟨i0, hi, hz0, hz1, hz2⟩ := info_parts Try.infoPtr
  have HONE : Hid (∀ u ∈ ss, u.oneCell' = true) := hone
  clear hone
  have hs : sizeOK (W : Int) (H : Int) = true := by
    unfold sizeOK
    refine decide_eq_true ⟨by omega, by omega, ?_⟩
    rw [← Int.natCast_mul]; omega
  obtain ⟨f1, f2, _⟩ := size_facts h1 h2 h3
  obtain ⟨ao, cap, rfl⟩ := own_slice h.pg
  have HD : Hid (DocAt w base d (.slice ao ps.length cap) sv ps ss) := h
  obtain ⟨e0, e1, ef⟩ := cell_of_two h.blk
  have hdl := h.lt
  clear h
  obtain ⟨n, Hn⟩ : ∃ n, Hid (n = ps.length) := ⟨_, rfl⟩
  have hl' : n < 64 := by rw [Hn.out]; exact hl
  rw [← Hn.out] at HD e0 ⊢
  clear hl
  have hmf : ∀ fn first cap w, (Instr.makeFunc fn first cap).run Try.prog w = .ok (.func fn first cap) w := fun _ _ _ _ => rfl
  obtain ⟨w0, HW0⟩ : ∃ w0, Hid (w0 = w.alloc (.cells #[.pointer (some ⟨d, 0, none⟩)] 25)) := ⟨_, rfl⟩
  go_enter Try.func8, Try.ntmps8
  go_wp2_with fail
  rw [← HW0.out]
  have HF0 : Hid (Fr (fun _ => False) w w0) := by rw [HW0.out]; exact (Fr.refl _ _).alloc _
  have HD0 : Hid (DocAt w0 base d (.slice ao n cap) sv ps ss) := HD.out.kept HF0.out (fun h => h) (fun _ _ h => h) (fun _ _ h => h)
  have HX0 : Hid (w0.heap[w.heap.size]? = some (.cells #[.pointer (some ⟨d, 0, none⟩)] 25 (0, 0))) := by rw [HW0.out]; exact heap_alloc_new w _
  have hsz0 : w0.heap.size = w.heap.size + 1 := by rw [HW0.out, World.size_alloc]
  refine (dsize_any W H _ (by omega) (by omega)).mono ?_
  rintro e w1 ⟨rfl, rfl⟩
  rw [hs]
  clear e0 e1 ef
  obtain ⟨e0, e1, ef⟩ := cell_of_two HD0.out.blk
  have hx0 := cell_of_one HX0.out
  go_wp2_with fail
  refine (new_yes W H _ h1 h2 h3).mono ?_
  rintro e w2 ⟨b, g, rfl, hn⟩
  have HF2 : Hid (Fr (fun _ => False) w1 w2) := hn.fr
  have HM2 : Hid (MapAt w2 b g (H * stride W) W H (fun _ _ => false)) := hn.at_
  have HNB : Hid (w1.heap.size ≤ b ∧ w1.heap.size ≤ g) := ⟨hn.nb, hn.ng⟩
  have HD2 : Hid (DocAt w2 base d (.slice ao n cap) sv ps ss) := HD0.out.kept HF2.out (fun h => h) (fun _ _ h => h) (fun _ _ h => h)
  have HX2 : Hid (w2.heap[w.heap.size]? = some (.cells #[.pointer (some ⟨d, 0, none⟩)] 25 (0, 0))) := by
    show _ = _
    rw [HF2.out.block _ (by omega) (fun h => h)]; exact HX0.out
  have hsz2 : w1.heap.size ≤ w2.heap.size := HF2.out.size
  clear hn hx0 e0 e1 ef
  obtain ⟨e0, e1, ef⟩ := cell_of_two HD2.out.blk
  have hx0 := cell_of_one HX2.out
  have HW : Hid (w2.ownsRow 0 57 1 (.slice ao n cap) n ps) := by
    have := ownsRow_base (b' := 0) HD2.out.pg (fun _ _ => Nat.zero_le _)
    rw [← Hn.out] at this
    exact this
  have hdl2 : d < w2.heap.size := HD2.out.lt
  have hne : (Value.slice ao n cap).ownBlock ≠ some d := row_ne HD2.out.pg HD2.out.blk (by decide)
  have hnx : (Value.slice ao n cap).ownBlock ≠ some w.heap.size := row_ne HD2.out.pg HX2.out (by decide)
  have HAP : Hid (b ≠ d ∧ g ≠ d ∧ (Value.slice ao n cap).ownBlock ≠ some b ∧ (Value.slice ao n cap).ownBlock ≠ some g ∧ sv.ownBlock ≠ some b ∧ sv.ownBlock ≠ some g) := HM2.out.apart HD2.out
  have hxl : w.heap.size < w2.heap.size := by omega
  have KC : Hid (∀ (w3 : World), (w2.alloc (.cells #[.pointer (some ⟨b, 0, none⟩)] 57)).drew.grownBy w3 (Value.slice ao n cap).ownBlock → w3.cell? ⟨d, 0, none⟩ = some (.slice ao n cap) ∧ w3.frozen? ⟨d, 0, none⟩ = false ∧ w3.cell? ⟨w.heap.size, 0, none⟩ = some (.pointer (some ⟨d, 0, none⟩)) ∧ d < w3.heap.size) := by
    intro w3 hgrow
    have f : Fr (fun k => (Value.slice ao n cap).ownBlock = some k) w2 w3 := (((Fr.refl _ _).alloc _).drew).grown hgrow (fun k hk _ => hk)
    have hb := (f.block _ hdl2 hne).trans HD2.out.blk
    obtain ⟨a0, _, a2⟩ := cell_of_two hb
    exact ⟨a0, a2 0, cell_of_one ((f.block _ hxl hnx).trans HX2.out), Nat.lt_of_lt_of_le hdl2 f.size⟩
  have HSZ : Hid (w1.heap.size = w.heap.size + 1 ∧ w1.heap.size ≤ w2.heap.size) := ⟨hsz0, hsz2⟩
  have HNX : Hid ((Value.slice ao n cap).ownBlock ≠ some w.heap.size) := hnx
  clear hne hnx f1 f2 hsz0 hsz2
  go_wp2_with fail
  go_region_law ((refine step_append_lies _ (by rfl) _ _ _ (by rfl) 0 57 i0 (.pointer none) 1 8 Try.underlying48 hi hz0 hz1 hz2 rfl (by decide) (.slice ao n cap) n _ (by rfl) (HW.out.alloc _) ⟨w2.heap.size, 0, none⟩ 1 1 [.pointer (some ⟨b, 0, none⟩)] (by rfl) rfl (cell_one_new w2 _ 57) (by intro u hu; simp at hu; subst hu; rfl) (by decide) (by unfold maxLen; omega) (by omega) (Nat.zero_le _) (w2.heap.size + 1) (by simp) ?_; intro g' cap' w3 hown1 hgrow hat hlt; obtain ⟨k1, kf1, kx, kl⟩ := KC.out w3 hgrow; have HG : Hid ((w2.alloc (.cells #[.pointer (some ⟨b, 0, none⟩)] 57)).drew.grownBy w3 (Value.slice ao n cap).ownBlock) := hgrow; have HN1 : Hid (w3.ownsRow 0 57 1 (.slice (some ⟨g', 0, none⟩) (n + 1) cap') (n + 1) (ps ++ [.pointer (some ⟨b, 0, none⟩)])) := hown1; have HAT : Hid ((Value.slice ao n cap).ownBlock = some g' ∨ g' = w2.heap.size + 1) := hat; clear hgrow hown1 hat))
  all_goals
    go_wp2_with fail
    have hpg := HD2.out.paged Hn.out HN1.out ((((Fr.refl _ w2).alloc _).drew).grown HG.out (fun k hk _ => hk)) (HAT.out.imp id (fun e => by omega))
    have HFP : Hid (Fr (fun k => k = d ∨ (Value.slice ao n cap).ownBlock = some k) w2 (w3.setCell ⟨d, 0, none⟩ (.slice (some ⟨g', 0, none⟩) (n + 1) cap'))) := hpg.2
    obtain ⟨w4, HW4⟩ : ∃ w4, Hid (w4 = w3.setCell ⟨d, 0, none⟩ (.slice (some ⟨g', 0, none⟩) (n + 1) cap')) := ⟨_, rfl⟩
    have hd4 := hpg.1
    rw [← HW4.out] at HFP hd4 ⊢
    have HD4 : Hid (DocAt w4 base d (.slice (some ⟨g', 0, none⟩) (n + 1) cap') sv (ps ++ [.pointer (some ⟨b, 0, none⟩)]) ss) := hd4
    clear hpg hd4 k1 kf1 kx kl
    refine (remember_any base d _ sv _ ss (.func 19) #[.pointer (some ⟨w.heap.size, 0, none⟩)] _ HD4.out hm HONE.out).mono ?_
    rintro e w5 ⟨rfl, sv', hd5, hf5, ho5⟩
    have HD5 : Hid (DocAt w5 base d (.slice (some ⟨g', 0, none⟩) (n + 1) cap') sv' (ps ++ [.pointer (some ⟨b, 0, none⟩)]) (cut ss ++ [.func (.func 19) #[] #[.pointer (some ⟨w.heap.size, 0, none⟩)]])) := hd5
    have HF5 : Hid (Fr (fun k => k = d ∨ sv.ownBlock = some k) w4 w5) := hf5
    have HO5 : Hid (∀ k, sv'.ownBlock = some k → sv.ownBlock = some k ∨ w4.heap.size ≤ k) := ho5
    clear hd5 hf5 ho5
    go_wp2_with fail
    go_ret2
    have hsz := HSZ.out
    have hsz4 := HFP.out.size
    have hsl : ∀ k, sv.ownBlock = some k → k < w.heap.size := fun k hk => (HD.out.st.lt k hk).2
    have hpl : ∀ k, (Value.slice ao n cap).ownBlock = some k → k < w.heap.size := fun k hk => (HD.out.pg.lt k hk).2
    have hnb := HNB.out
    refine ⟨rfl, _, sv', w.heap.size, b, g, HD5.out, ?_, (HM2.out.kept HFP.out (fun e => e.elim HAP.out.1 HAP.out.2.2.1) (fun e => e.elim HAP.out.2.1 HAP.out.2.2.2.1)).kept HF5.out (fun e => e.elim HAP.out.1 HAP.out.2.2.2.2.1) (fun e => e.elim HAP.out.2.1 HAP.out.2.2.2.2.2), ?_, Nat.le_refl _, by omega, by omega, fun k hk => ?_, fun k hk => (HO5.out k hk).imp id (fun h => by omega)⟩
    · rw [HF5.out.block _ (by omega) (fun e => e.elim (fun e => by omega) (fun e => by have := hsl _ e; omega)), HFP.out.block _ (by omega) (fun e => e.elim (fun e => by omega) HNX.out)]
      exact HX2.out
    · refine Fr.trans (HF0.out.mono (fun _ _ h => h.elim)) (Fr.trans (HF2.out.mono (fun _ _ h => h.elim)) (Fr.trans (HFP.out.mono (fun k _ h => h.elim Or.inl (fun h => Or.inr (Or.inl h)))) HF5.out (fun k _ h => h.elim Or.inl (fun h => Or.inr (Or.inr h)))) (fun _ _ h => h)) (fun _ _ h => h)
    · simp [Value.ownBlock] at hk
      subst hk
      rcases HAT.out with e | e
      · exact Or.inl e
      · exact Or.inr (by omega)

theorem page_step {w1 w : World} {d : Nat} {pgs : List PgI} {Pf : Pix3} {pv sv : Value} {ss : List Value} (h : DU w1 w d pgs Pf pv sv ss) (h6 : pgs.length < 64) (x y : Int) (b1 : I64 x) (b2 : I64 y) :
    Calls Try.prog 8 #[.pointer (some ⟨d, 0, none⟩), .int .i64 x, .int .i64 y] w fun e w' => ∃ m c : Int, e = .returned (.tuple #[.int .i64 m, .int .i64 c]) ∧ OpP w1 w w' d pgs Pf pv sv ss c := by
  by_cases hs : sizeOK x y = true
  · have hss := hs
    unfold sizeOK at hss
    obtain ⟨h1, h2, h3⟩ := of_decide_eq_true hss
    obtain ⟨W, rfl⟩ : ∃ W : Nat, x = W := ⟨x.toNat, by omega⟩
    obtain ⟨H, rfl⟩ : ∃ H : Nat, y = H := ⟨y.toNat, by omega⟩
    have h3' : W * H ≤ 1048576 := by have := h3; rw [← Int.natCast_mul] at this; omega
    refine (newPage_any d d W H pv sv _ ss w h.doc (by rw [ptrs_len]; omega) h.les h.one (by omega) (by omega) h3').mono ?_
    rintro e w' ⟨rfl, pv', sv', bx, b, g, hd, hbx, hm, hf, k1, k2, k3, ho1, ho2⟩
    have hdl := h.doc.lt
    have hav : ∀ k, Av d pv' sv' (pgs ++ [⟨b, g, W, H⟩]) k → Av d pv sv pgs k ∨ w.heap.size ≤ k := fun k hk => by
      rcases hk with hk | hk | hk | ⟨j, p, hj, hk⟩
      · exact Or.inl (Or.inl hk)
      · exact (ho1 k hk).imp (fun h => Or.inr (Or.inl h)) id
      · exact (ho2 k hk).imp (fun h => Or.inr (Or.inr (Or.inl h))) id
      · by_cases e : j < pgs.length
        · rw [List.getElem?_append_left e] at hj
          exact Or.inl (Or.inr (Or.inr (Or.inr ⟨j, p, hj, hk⟩)))
        · rw [List.getElem?_append_right (by omega)] at hj
          obtain ⟨q1, q2⟩ := List.getElem?_eq_some_iff.mp hj
          simp at q1 q2
          subst q2
          rcases hk with rfl | rfl
          · exact Or.inr k2
          · exact Or.inr k3
    refine ⟨_, 0, rfl, Or.inr ⟨rfl, pgs ++ [⟨b, g, W, H⟩], _, pv', sv', _, h.more h6 (len_cut h.les) (one_cut h.one) hd hm hf k2 k3, fun A' hA' => Or.inl ⟨by simp, fun j hj => by unfold upd; rw [if_neg (by omega)], bx, rfl, hbx, fun hk => ?_⟩, hf.mono (fun k _ hk => ?_), hav, _, rfl⟩⟩
    · rcases hA' _ hk with (hk | hk | hk | ⟨j, p, hj, hk⟩) | hk
      · omega
      · exact row_ne hd.pg hbx (by decide) hk
      · exact row_ne hd.st hbx (by decide) hk
      · have hmm := (h.more h6 (len_cut h.les) (one_cut h.one) hd hm hf k2 k3).mp j p hj
        rcases hk with rfl | rfl
        · have := hmm.blk.symm.trans hbx; simp at this
        · exact row_ne hmm.own hbx (by decide) rfl
      · omega
    · rcases hk with hk | hk | hk
      · exact Or.inl hk
      · exact Or.inr (Or.inl hk)
      · exact Or.inr (Or.inr (Or.inl hk))
  · have hs' : sizeOK x y = false := by simpa using hs
    refine (newPage_area d x y w b1 b2 hs').mono ?_
    rintro e w' ⟨rfl, hf⟩
    exact ⟨0, 180, rfl, Or.inl ⟨by decide, hf⟩⟩
end Go.Proofs.Ytpblenebmjmijaa
