/- Lemmas: ComCn ComOs ComHi. -/
import Derived.Test.YtigdlnfgdjfdoaaGreatZK34
import Derived.Test.YtigdlnfgdjfdoaaGreatZK36
set_option maxHeartbeats 4000000
set_option maxRecDepth 100000
set_option linter.unusedVariables false
set_option linter.unusedSimpArgs false
namespace Go.Proofs.YtigdlnfgdjfdoaaGreat
namespace Com
open Go Go.RowKit Kit
open Rec (Rec good ftot fsec split split_flat)
open Ideal (Ts Thing hashT)
open Seg (pk pk_shape)
open Disk
open Meter (Mt Mk nxt)
theorem Fr.app {ds : List (List UInt8)} {p q r : Nat} {fs gs : List (List UInt8)} (h : Fr ds p fs q) (g : Fr ds q gs r) : Fr ds p (fs ++ gs) r := by
 induction h with
 | nil p => exact g
 | cons hs h0 hA h ih => exact .cons hs h0 hA (ih g)
structure S0 (ms : List UInt8) (lim : Nat) (o : Ts) (D : Dk) (t : Mt) (xs : List Rec) : Prop where
 dream : ∃ ts, o = .dream ts
 ok : Ok D
 ep : 0 ≤ t.epoch
 cnt : t.count = 0 ∧ xs = [] ∨ 0 < t.count ∧ ∃ ls q, Cnt o ms lim D t ls q ∧ ls.flatten = xs
structure Ls (ms : List UInt8) (lim : Nat) (o : Ts) (D : Dk) (t : Mt) (L : Lo) (xs : List Rec) (u : Nat) : Prop where
 turned : L.turned = true
 lost : L.lost = false
 e : L.e = t.epoch
 s : L.s = xs.length
 h : L.h = t.root
 top : L.A.top = (aHalf D.now.length (odd t.epoch)).top
 pos : L.A.pos = (aHalf D.now.length (odd t.epoch)).pos + u
 cnt : 0 < t.count ∧ ∃ ls, Cnt o ms lim D t ls L.A.pos ∧ ls.flatten = xs
theorem S0.keep {ms : List UInt8} {lim : Nat} {o o2 : Ts} {D D2 : Dk} {t : Mt} {xs : List Rec} (h : S0 ms lim o D t xs) (ho : o.sub o2) (hok : Ok D2) (hn : D2.now.length = D.now.length) (hd : ∀ ls q, Cnt o ms lim D t ls q → Held D2 (fun i => (aHalf D.now.length (odd t.epoch)).pos ≤ i ∧ i < q) D.now) : S0 ms lim o2 D2 t xs := by
 refine ⟨sub_dream ho h.dream, hok, h.ep, ?_⟩
 rcases h.cnt with h1 | ⟨h1, ls, q, hc, hx⟩
 · exact .inl h1
 · exact .inr ⟨h1, ls, q, hc.keep ho hn (hd ls q hc), hx⟩
theorem S0.off {ms : List UInt8} {lim : Nat} {o : Ts} {D : Dk} {t : Mt} {xs : List Rec} (h : S0 ms lim o D t xs) (k : Nat) : S0 ms lim o (lose D k) t xs :=
 h.keep (.refl _) (lose_ok D k h.ok) (lose_length D k h.ok) (fun ls q hc => hc.held.lose k)
theorem S0.on_ {ms : List UInt8} {lim : Nat} {o : Ts} {D : Dk} {t : Mt} {xs : List Rec} (h : S0 ms lim o D t xs) : S0 ms lim o (on D) t xs :=
 h.keep (.refl _) ⟨h.ok.safe, h.ok.now, h.ok.safe2, h.ok.waits⟩ rfl (fun ls q hc => hc.held.on)
theorem S0.arm_ {ms : List UInt8} {lim : Nat} {o : Ts} {D : Dk} {t : Mt} {xs : List Rec} (h : S0 ms lim o D t xs) (n : Int) (k : Nat) : S0 ms lim o (arm D n k) t xs :=
 h.keep (.refl _) ⟨h.ok.safe, h.ok.now, h.ok.safe2, h.ok.waits⟩ rfl (fun ls q hc => hc.held.arm n k)
theorem Ls.keep {ms : List UInt8} {lim : Nat} {o o2 : Ts} {D D2 : Dk} {t : Mt} {L : Lo} {xs : List Rec} {u : Nat} (h : Ls ms lim o D t L xs u) (ho : o.sub o2) (hn : D2.now.length = D.now.length) (hd : ∀ ls q, Cnt o ms lim D t ls q → Held D2 (fun i => (aHalf D.now.length (odd t.epoch)).pos ≤ i ∧ i < q) D.now) : Ls ms lim o2 D2 t L xs u := by
 obtain ⟨h1, ls, hc, hx⟩ := h.cnt
 exact ⟨h.turned, h.lost, h.e, h.s, h.h, by rw [hn]; exact h.top, by rw [hn]; exact h.pos, h1, ls, hc.keep ho hn (hd ls _ hc), hx⟩
theorem Ls.arm_ {ms : List UInt8} {lim : Nat} {o : Ts} {D : Dk} {t : Mt} {L : Lo} {xs : List Rec} {u : Nat} (h : Ls ms lim o D t L xs u) (n : Int) (k : Nat) : Ls ms lim o (arm D n k) t L xs u :=
 h.keep (.refl _) rfl (fun ls q hc => hc.held.arm n k)
theorem cnt_turn {ms : List UInt8} {lim : Nat} {o : Ts} {D : Dk} {t : Mt} {rs : List Rec} {G : Gr} (hr : rs ≠ []) (hroom : secsum (split rs) ≤ D.now.length / 2) (q : Gany ms lim (t.epoch + 1) (o.nx (startT (t.epoch + 1))) D t (aHalf D.now.length (odd (t.epoch + 1))) 0 (o.val (startT (t.epoch + 1)) 32) (split rs) G)
    (w : Wrt ms lim (t.epoch + 1) D (aHalf D.now.length (odd (t.epoch + 1))) 0 (o.val (startT (t.epoch + 1)) 32) (split rs) G) : Cnt G.o ms lim G.D (t.on (t.epoch + 1) G.h) (split rs) G.A.pos := by
 obtain ⟨fs, c1, c2⟩ := w.ch
 have hhas : (o.nx (startT (t.epoch + 1))).has (startT (t.epoch + 1)) := o.has_nx _
 refine Cnt.next w.safe w.waits (split_ne hr) (hhas.sub q.sub) (fs := fs) ?_ ?_ ?_
 · have h1 : G.o.val (hashT (stH (t.epoch + 1))) 32 = o.val (startT (t.epoch + 1)) 32 := (hhas.val q.sub 32).trans (o.val_nx _ 32)
   show Ch G.o ms lim (t.epoch + 1) 0 (G.o.val (hashT (stH (t.epoch + 1))) 32) (split rs) fs G.h
   rw [h1]; exact c1
 · show Fr G.D.now (aHalf G.D.now.length (odd (t.epoch + 1))).pos fs G.A.pos
   rw [q.len]; exact c2
 · show G.A.pos ≤ (aHalf G.D.now.length (odd (t.epoch + 1))).top
   rw [q.len, w.pos, half_room]; omega
theorem cnt_commit {ms : List UInt8} {lim : Nat} {o : Ts} {D : Dk} {t : Mt} {L : Lo} {rs xs : List Rec} {u : Nat} {ls : List (List Rec)} {G : Gr} (hL : Ls ms lim o D t L xs u) (hc : Cnt o ms lim D t ls L.A.pos) (hx : ls.flatten = xs) (hroom : fsec rs ≤ L.A.top - L.A.pos) (q : Gany ms lim L.e o D t L.A L.s L.h [rs] G)
    (w : Wrt ms lim L.e D L.A L.s L.h [rs] G) : Cnt G.o ms lim G.D (t.on L.e G.h) (ls ++ [rs]) G.A.pos := by
 obtain ⟨fs, c1, c2⟩ := w.ch
 obtain ⟨gs, g1, g2⟩ := hc.fr
 have hp := w.pos
 have hsec : secsum [rs] = fsec rs := by simp [secsum]
 rw [hsec] at hp
 have hle := hL.e
 have hlo := hc.lo
 have htop := hL.top
 have hq := hc.top
 cases hfs : fs with
 | nil => rw [hfs] at c1; cases c1
 | cons f fs2 =>
   rw [hfs] at c1 c2
   obtain ⟨l0, ls2, p, e1, hpl, hp0, hf, hps, c3⟩ := c1.uncons
   injection e1 with e1 e2
   subst e1 e2
   have c4 := c3.lengths
   have hf2 : fs2 = [] := List.eq_nil_of_length_eq_zero (by simpa using c4)
   subst hf2
   have hh : (pk p ms lim L.e (L.s : Nat) L.h rs).h = G.h := c3.unnil.2.symm
   have hlen : ((L.s : Nat) : Int) = 0 + (ls.flatten.length : Nat) := by rw [hx, hL.s]; omega
   have hsn := (g1.sub q.sub).snoc p rs (L.s : Nat) hlen hpl (by rw [← hle, ← hL.h]; exact hp0) (by rw [← hle, ← hL.h]; exact hps)
   rw [← hle, ← hL.h, ← hf, hh] at hsn
   refine Cnt.next w.safe w.waits (by simp) (by rw [show (t.on L.e G.h).epoch = t.epoch from hle]; exact hc.epo.sub q.sub) (fs := gs ++ [f]) ?_ ?_ ?_
   · show Ch G.o ms lim L.e 0 (G.o.val (hashT (stH L.e)) 32) (ls ++ [rs]) (gs ++ [f]) G.h
     rw [hle, hc.epo.val q.sub 32, ← hle]; exact hsn
   · show Fr G.D.now (aHalf G.D.now.length (odd L.e)).pos (gs ++ [f]) G.A.pos
     rw [q.len, hle]
     exact Fr.app (g2.ext (fun i h1 h2 => w.else_ i (.inl h2))) c2
   · show G.A.pos ≤ (aHalf G.D.now.length (odd L.e)).top
     rw [q.len, hle, hp]; omega
inductive Tn (ms : List UInt8) (lim : Nat) (o : Ts) (D : Dk) (t : Mt) (L : Lo) (xs rs : List Rec) (T : Tr) (no : Int) : Prop
 | no (h : no ≠ 0) (e : T = ⟨o, D, t, L, no⟩)
 | yes (h : no = 0) (e : T.e = 0) (ht : T.t = t.on (t.epoch + 1) T.L.h) (off : T.D.off = false) (s : S0 ms lim T.o T.D T.t rs) (l : Ls ms lim T.o T.D T.t T.L rs (secsum (split rs)))
 | down (h : no = 0) (e : T.e = 8) (off : T.D.off = true) (f : D.fuse ≠ 0) (s : T.t = t ∧ S0 ms lim T.o T.D T.t xs ∨ (∃ r, T.t = t.on (t.epoch + 1) r) ∧ S0 ms lim T.o T.D T.t rs)
theorem turn_st {ms : List UInt8} {lim : Nat} {o : Ts} {D : Dk} {t : Mt} {L : Lo} {xs rs : List Rec} (h : S0 ms lim o D t xs) (hoff : D.off = false) (hl : L.lost = false) (T : Tr) (hT : T = turnT ms lim o D t L rs) :
    Tn ms lim o D t L xs rs T (if refT false false rs ≠ 0 then refT false false rs else tcheck lim D t rs) ∧ T.D.now.length = D.now.length ∧ (∀ k n, Sm D k n → Sm T.D (k + secsum (split rs) + 2) n) ∧ (∀ k, o.few k → T.o.few (k + 1 + 6 * rs.length)) ∧ o.sub T.o := by
 rcases turnT_cases (t := t) (L := L) (rs := rs) ms lim h.dream h.ok h.ep with ⟨h1, e⟩ | ⟨h1, h2, e⟩ | ⟨h1, h2, G, e, q, hq⟩
 · rw [hoff, hl] at h1 e
   rw [if_pos h1]
   rw [e] at hT
   subst hT
   exact ⟨.no h1 rfl, rfl, fun k n hs => Sm.le_ hs (by omega), fun k hk => hk.mono (by omega), .refl _⟩
 · rw [hoff, hl] at h1
   rw [if_neg (by rw [h1]; exact fun e => e rfl)]
   rw [e] at hT
   subst hT
   exact ⟨.no h2 rfl, rfl, fun k n hs => Sm.le_ hs (by omega), fun k hk => hk.mono (by omega), .refl _⟩
 · rw [hoff, hl] at h1
   have hn0 : (if refT false false rs ≠ 0 then refT false false rs else tcheck lim D t rs) = 0 := by rw [if_neg (by rw [h1]; exact fun e => e rfl)]; exact h2
   have hne : rs ≠ [] := by
    intro e0
    rcases refT_cases false false rs with ⟨e, _⟩ | ⟨e, _⟩ | ⟨_, h⟩
    · rw [e] at h1; cases h1
    · rw [e] at h1; cases h1
    · exact h.2.2.1 e0
   have hroom : secsum (split rs) ≤ D.now.length / 2 := by
    unfold tcheck at h2
    split at h2
    · cases h2
    · split at h2
      · cases h2
      · omega
   have hfl := congrArg List.length (split_flat rs)
   have hsubT : o.sub G.o := (Ts.sub_nx _ _).trans q.sub
   have hdr : ∃ ts, G.o = .dream ts := sub_dream hsubT h.dream
   have hheld : ∀ ls qq, Cnt o ms lim D t ls qq → Held G.D (fun i => (aHalf D.now.length (odd t.epoch)).pos ≤ i ∧ i < qq) D.now := fun ls qq hc => by
    refine q.held _ _ hc.held (fun i h1 h2 e2 => ?_)
    have h3 := hc.top
    rw [odd_succ] at h1 h2
    exact halves D.now.length (!odd t.epoch) i h1 h2 (by rw [Bool.not_not]; exact ⟨e2.1, by omega⟩)
   rw [e, ofG_eq] at hT
   subst hT
   refine ⟨?_, q.len, hq, fun k hk => (q.few _ (hk.nx _)).mono (by rw [hfl]; omega), hsubT⟩
   rcases q.done with ⟨g0, gt, goff, w⟩ | ⟨g8, goff, gs⟩
   · have hc := cnt_turn hne hroom q w
     have hN : nextL L (t.epoch + 1) G = ⟨G.A, t.epoch + 1, G.s, G.h, true, L.lost⟩ := by unfold nextL; rw [if_pos g0]
     rw [hN, hn0]
     have hS : S0 ms lim G.o G.D G.t rs := by
      rw [gt]
      exact ⟨hdr, q.ok, by show 0 ≤ t.epoch + 1; have := h.ep; omega, .inr ⟨by show 0 < t.count + 1; omega, _, _, hc, split_flat rs⟩⟩
     refine .yes rfl g0 gt goff hS ?_
     show Ls ms lim G.o G.D G.t ⟨G.A, t.epoch + 1, G.s, G.h, true, L.lost⟩ rs _
     rw [gt]
     refine ⟨rfl, hl, rfl, by show G.s = _; rw [w.num, hfl]; omega, rfl, ?_, ?_, by show 0 < t.count + 1; omega, _, hc, split_flat rs⟩
     · show G.A.top = (aHalf G.D.now.length (odd (t.epoch + 1))).top
       rw [q.top, q.len]
     · show G.A.pos = (aHalf G.D.now.length (odd (t.epoch + 1))).pos + _
       rw [w.pos, q.len]
   · rw [hn0]
     have hf : D.fuse ≠ 0 := fun e => by have := (q.calm e).1; rw [g8] at this; exact absurd this (by decide)
     refine .down rfl g8 goff hf ?_
     rcases gs with gs | ⟨gs, w⟩
     · refine .inl ⟨gs, ?_⟩
       show S0 ms lim G.o G.D G.t xs
       rw [gs]
       exact h.keep hsubT q.ok q.len hheld
     · refine .inr ⟨⟨_, gs⟩, ?_⟩
       show S0 ms lim G.o G.D G.t rs
       rw [gs]
       exact ⟨hdr, q.ok, by show 0 ≤ t.epoch + 1; have := h.ep; omega, .inr ⟨by show 0 < t.count + 1; omega, _, _, cnt_turn hne hroom q w, split_flat rs⟩⟩
inductive Cm (ms : List UInt8) (lim : Nat) (o : Ts) (D : Dk) (t : Mt) (L : Lo) (xs rs : List Rec) (u : Nat) (T : Tr) (no : Int) : Prop
 | no (h : no ≠ 0) (e : T = ⟨o, D, t, L, no⟩)
 | yes (h : no = 0) (e : T.e = 0) (ht : T.t = t.on t.epoch T.L.h) (off : T.D.off = false) (s : S0 ms lim T.o T.D T.t (xs ++ rs)) (l : Ls ms lim T.o T.D T.t T.L (xs ++ rs) (u + fsec rs))
 | down (h : no = 0) (e : T.e = 8) (off : T.D.off = true) (f : D.fuse ≠ 0) (s : T.t = t ∧ S0 ms lim T.o T.D T.t xs ∨ (∃ r, T.t = t.on t.epoch r) ∧ S0 ms lim T.o T.D T.t (xs ++ rs))
theorem commit_st {ms : List UInt8} {lim : Nat} {o : Ts} {D : Dk} {t : Mt} {L : Lo} {xs rs : List Rec} {u : Nat} (h : S0 ms lim o D t xs) (hL : Ls ms lim o D t L xs u) (hoff : D.off = false) (hep : t.epoch < 4294967296) (hp : L.A.pos ≤ L.A.top) (htp : L.A.top ≤ D.now.length) (h32 : L.h.length = 32) (T : Tr) (hT : T = commitT ms lim o D t L rs) :
    Cm ms lim o D t L xs rs u T (if refT false false rs ≠ 0 then refT false false rs else ccheck lim t L rs) ∧ T.D.now.length = D.now.length ∧ (∀ k n, Sm D k n → Sm T.D (k + fsec rs + 2) n) ∧ (∀ k, o.few k → T.o.few (k + 1 + 6 * rs.length)) ∧ o.sub T.o := by
 have hl := hL.lost
 have hsec : secsum [rs] = fsec rs := by simp [secsum]
 rcases commitT_cases (t := t) (L := L) (rs := rs) ms lim h.dream h.ok ⟨h.ep, hep⟩ hp htp h32 with ⟨h1, e⟩ | ⟨h1, h2, e⟩ | ⟨h1, h2, G, e, q, hq⟩
 · rw [hoff, hl] at h1 e
   rw [if_pos h1]
   rw [e] at hT
   subst hT
   exact ⟨.no h1 rfl, rfl, fun k n hs => Sm.le_ hs (by omega), fun k hk => hk.mono (by omega), .refl _⟩
 · rw [hoff, hl] at h1
   rw [if_neg (by rw [h1]; exact fun e => e rfl)]
   rw [e] at hT
   subst hT
   exact ⟨.no h2 rfl, rfl, fun k n hs => Sm.le_ hs (by omega), fun k hk => hk.mono (by omega), .refl _⟩
 · rw [hoff, hl] at h1
   have hn0 : (if refT false false rs ≠ 0 then refT false false rs else ccheck lim t L rs) = 0 := by rw [if_neg (by rw [h1]; exact fun e => e rfl)]; exact h2
   have hroom : fsec rs ≤ L.A.top - L.A.pos := by
    unfold ccheck at h2
    split at h2
    · cases h2
    · split at h2
      · cases h2
      · split at h2
        · cases h2
        · split at h2
          · cases h2
          · omega
   have hfl : [rs].flatten.length = rs.length := by simp
   have hdr : ∃ ts, G.o = .dream ts := sub_dream q.sub h.dream
   obtain ⟨hc0, ls, hc, hx⟩ := hL.cnt
   have hheld : ∀ ls qq, Cnt o ms lim D t ls qq → qq ≤ L.A.pos → Held G.D (fun i => (aHalf D.now.length (odd t.epoch)).pos ≤ i ∧ i < qq) D.now := fun ls qq hc hqq => by
    refine q.held _ _ hc.held (fun i h1 h2 e2 => ?_)
    omega
   rw [e, ofG_eq] at hT
   subst hT
   rw [hsec] at hq
   refine ⟨?_, q.len, hq, fun k hk => (q.few _ hk).mono (by rw [hfl]; omega), q.sub⟩
   rcases q.done with ⟨g0, gt, goff, w⟩ | ⟨g8, goff, gs⟩
   · have hcn := cnt_commit hL hc hx hroom q w
     have hN : nextL L L.e G = ⟨G.A, L.e, G.s, G.h, true, L.lost⟩ := by unfold nextL; rw [if_pos g0]
     rw [hN, hn0]
     have hfx : (ls ++ [rs]).flatten = xs ++ rs := by rw [List.flatten_append, hx]; simp
     have hS : S0 ms lim G.o G.D G.t (xs ++ rs) := by
      rw [gt]
      exact ⟨hdr, q.ok, by show 0 ≤ L.e; rw [hL.e]; exact h.ep, .inr ⟨by show 0 < t.count + 1; omega, _, _, hcn, hfx⟩⟩
     refine .yes rfl g0 (by show G.t = t.on t.epoch G.h; rw [gt, hL.e]) goff hS ?_
     show Ls ms lim G.o G.D G.t ⟨G.A, L.e, G.s, G.h, true, L.lost⟩ (xs ++ rs) _
     rw [gt]
     refine ⟨rfl, hl, rfl, by show G.s = _; rw [w.num, hfl, hL.s, List.length_append], rfl, ?_, ?_, by show 0 < t.count + 1; omega, _, hcn, hfx⟩
     · show G.A.top = (aHalf G.D.now.length (odd L.e)).top
       rw [q.top, q.len, hL.e]; exact hL.top
     · show G.A.pos = (aHalf G.D.now.length (odd L.e)).pos + _
       rw [w.pos, q.len, hL.e, hsec, hL.pos]; omega
   · rw [hn0]
     have hf : D.fuse ≠ 0 := fun e => by have := (q.calm e).1; rw [g8] at this; exact absurd this (by decide)
     refine .down rfl g8 goff hf ?_
     have hfx : (ls ++ [rs]).flatten = xs ++ rs := by rw [List.flatten_append, hx]; simp
     rcases gs with gs | ⟨gs, w⟩
     · refine .inl ⟨gs, ?_⟩
       show S0 ms lim G.o G.D G.t xs
       rw [gs]
       exact ⟨hdr, q.ok, h.ep, .inr ⟨hc0, ls, _, hc.keep q.sub q.len (hheld ls _ hc (Nat.le_refl _)), hx⟩⟩
     · refine .inr ⟨⟨G.h, by show G.t = _; rw [gs, hL.e]⟩, ?_⟩
       show S0 ms lim G.o G.D G.t (xs ++ rs)
       rw [gs]
       exact ⟨hdr, q.ok, by show 0 ≤ L.e; rw [hL.e]; exact h.ep, .inr ⟨by show 0 < t.count + 1; omega, _, _, cnt_commit hL hc hx hroom q w, hfx⟩⟩
end Com
namespace Com
open Go Go.RowKit Kit
open Rec (Rec good ftot fsec split split_flat Rrow rcells)
open Ideal (Ts Thing hashT)
open Disk
open Meter (Mt Mk Mb nxt)
structure Op0 (w wr : World) (z : Zf) (v : Zv) (D : Dk) (t : Mt) (B : Nat → Prop) (xs : List Rec) (w2 : World) (l a : Nat) (L : Lo) (v2 : Zv) (Z : Option Addr) (cz : Nat) : Prop where
 g : Pg w w2 z v2 D t l a L B
 sub : ∀ j, own z v2 j → own z v j ∨ wr.heap.size ≤ j
 k : Kp (own z v) wr w2
 o_ : v2.x.o = v.x.o
 cl : v2.x.cl = v.x.cl
 sl : v2.x.sl = v.x.sl
 row : Rrow w2 Z xs
 zf : ∀ j, ab Z = some j → wr.heap.size ≤ j ∧ ¬ own z v2 j ∧ j ≠ l ∧ j ≠ a ∧ j < w2.heap.size
 cap : xs.length ≤ cz ∧ cz ≤ maxLen ∧ (Z = none → cz = 0)
 lost : L.lost = false
 turned : L.turned = false
theorem open_s0 {w wr : World} {z : Zf} {v : Zv} {D : Dk} {t : Mt} {B : Nat → Prop} {xs : List Rec} (h : Pb w wr z v D t B) (s : S0 z.c.ms z.c.lim v.x.o D t xs) (hoff : D.off = false) (hE : t.epoch < 4294967296) (hf : v.x.o.few 85000) (hlim : z.c.lim ≤ 9223372036854775807) (hbd : xs.length ≤ 1000) :
    Calls Tryz.prog 33 #[.pointer (some ⟨z.c.v, 0, none⟩), .pointer (some ⟨z.g, 0, none⟩), .pointer (some ⟨z.m, 0, none⟩)] wr fun r w' => ∃ l a L v2 Z cz, r = .returned (.tuple #[.pointer (some ⟨l, 0, none⟩), .slice Z xs.length cz, .int .i64 0]) ∧ Op0 w wr z v D t B xs w' l a L v2 Z cz := by
 rcases s.cnt with ⟨h0, hx⟩ | ⟨h0, ls, q, hc, hx⟩
 · refine (open_zero h hoff h0 ⟨s.ep, by omega⟩).mono ?_
   rintro r w' ⟨l, a, rfl, hg, hk⟩
   subst hx
   exact ⟨l, a, _, v, none, 0, rfl, hg, fun j e => .inl e, hk.nob _, rfl, rfl, rfl, Row.nil _ _, (fun j e => by cases e), ⟨Nat.le_refl _, Nat.zero_le _, fun _ => rfl⟩, rfl, rfl⟩
 · obtain ⟨ts, hd⟩ := s.dream
   obtain ⟨fs, f1, f2⟩ := hc.fr
   have hep : hashT (stH t.epoch) ∈ ts := by have := hc.epo; rw [hd] at this; exact this
   subst hx
   refine (open_more ls fs q ts h hoff (by omega) ⟨s.ep, hE⟩ hd hep f1 f2 hc.top hf hlim hbd).mono ?_
   rintro r w' ⟨l, a, v2, Z, cz, rfl, ho⟩
   exact ⟨l, a, _, v2, Z, cz, rfl, ho.g, ho.sub, ho.k, ho.o_, ho.cl, ho.sl, ho.row, ho.zf, ho.cap, rfl, rfl⟩
theorem Op0.back {w wr w1 : World} {z : Zf} {v : Zv} {D : Dk} {t : Mt} {B : Nat → Prop} {xs : List Rec} {w2 : World} {l a : Nat} {L : Lo} {v2 : Zv} {Z : Option Addr} {cz : Nat} (h : Op0 w w1 z v D t B xs w2 l a L v2 Z cz) (k : Kp nob wr w1) : Op0 w wr z v D t B xs w2 l a L v2 Z cz :=
 ⟨h.g, fun j e => (h.sub j e).imp id (fun e => Nat.le_trans k.size e), (k.nob _).trans h.k (fun j e => .inl e), h.o_, h.cl, h.sl, h.row, fun j e => ⟨Nat.le_trans k.size (h.zf j e).1, (h.zf j e).2⟩, h.cap, h.lost, h.turned⟩
structure Po (w wr : World) (z : Zf) (v : Zv) (D : Dk) (t : Mt) (p : Nat) (xs : List Rec) (w2 : World) (l a : Nat) (L : Lo) (v2 : Zv) (Z : Option Addr) (cz : Nat) : Prop where
 g : Pg w w2 z v2 D t l a L (fun j => j = p)
 pl : Blk w2 p 42 (pcells z (some l))
 sub : ∀ j, own z v2 j → own z v j ∨ wr.heap.size ≤ j
 k : Kp (fun j => own z v j ∨ j = p) wr w2
 o_ : v2.x.o = v.x.o
 cl : v2.x.cl = v.x.cl
 sl : v2.x.sl = v.x.sl
 row : Rrow w2 Z xs
 zf : ∀ j, ab Z = some j → wr.heap.size ≤ j ∧ ¬ own z v2 j ∧ j ≠ l ∧ j ≠ a ∧ j < w2.heap.size
 cap : xs.length ≤ cz ∧ cz ≤ maxLen ∧ (Z = none → cz = 0)
 lost : L.lost = false
 turned : L.turned = false
theorem popen_s0 {w wr : World} {z : Zf} {v : Zv} {D : Dk} {t : Mt} {p : Nat} {lo : Option Nat} {xs : List Rec} (h : Pb w wr z v D t (fun j => j = p)) (hp : Blk wr p 42 (pcells z lo)) (s : S0 z.c.ms z.c.lim v.x.o D t xs) (hoff : D.off = false) (hE : t.epoch < 4294967296) (hf : v.x.o.few 85000) (hlim : z.c.lim ≤ 9223372036854775807) (hbd : xs.length ≤ 1000) :
    Calls Tryz.prog 12 #[.pointer (some ⟨p, 0, none⟩)] wr fun r w' => ∃ l a L v2 Z cz, r = .returned (.tuple #[.slice Z xs.length cz, .int .i64 0]) ∧ Po w wr z v D t p xs w' l a L v2 Z cz := by
 refine (popen_any (own z v) (fun lo X nx cx e w2 => ∃ l a L v2, lo = some l ∧ nx = xs.length ∧ e = 0 ∧ Op0 w wr z v D t (fun j => j = p) xs w2 l a L v2 X cx) hp (h.be p rfl).2.2 (fun w1 k => ?_)).mono ?_
 · refine (open_s0 (h.keep0 k) s hoff hE hf hlim hbd).mono ?_
   rintro r w' ⟨l, a, L, v2, Z, cz, rfl, ho⟩
   exact ⟨some l, Z, _, cz, 0, rfl, ⟨l, a, L, v2, rfl, rfl, rfl, ho.back k⟩, ho.k⟩
 · rintro r w' ⟨lo, X, nx, cx, e, w2, rfl, ⟨l, a, L, v2, rfl, rfl, rfl, ho⟩, k2, hb, k3⟩
   have hpl := hp.lt
   exact ⟨l, a, L, v2, X, cx, rfl, ho.g.side k2 (fun j e => .inl e), hb, ho.sub, k3, ho.o_, ho.cl, ho.sl, Row.keep ho.row k2 (fun j e e2 => by have e2 : j = p := e2; have := (ho.zf j e).1; omega), fun j e => by obtain ⟨h1, h2, h3, h4, h5⟩ := ho.zf j e; exact ⟨h1, h2, h3, h4, Nat.lt_of_lt_of_le h5 k2.size⟩, ho.cap, ho.lost, ho.turned⟩
end Com
namespace Com
open Go Go.RowKit Kit
open Rec (Rec recB)
open Vault (nonce nonce_eq)
theorem num8_one {a b : Int} (h : num8 a = num8 b) : a % 18446744073709551616 = b % 18446744073709551616 := by
 have h2 := congrArg lowN h
 unfold num8 at h2
 rw [lowN_le, lowN_le] at h2
 omega
def TH (hist : Nat → List Rec) (n t : List UInt8) : Prop := ∃ (e s : Nat) (r : Rec), e < 4294967296 ∧ s < 1099511627776 ∧ (hist e)[s]? = some r ∧ n = nonce (e : Int) (s : Int) ∧ t = recB r
theorem take4 (e : Nat) (h : e < 4294967296) : lowN ((num8 (e : Int)).take 4) = e := by
 have h1 : (num8 (e : Int)).take 4 = le 4 e := by
  unfold num8
  rw [show ((e : Int) % 18446744073709551616).toNat = e by omega]
  rfl
 rw [h1, lowN_le]
 exact Nat.mod_eq_of_lt h
theorem nonce_two {e f s u : Nat} (he : e < 4294967296) (hf : f < 4294967296) (hs : s < 1099511627776) (hu : u < 1099511627776) (h : nonce (e : Int) (s : Int) = nonce (f : Int) (u : Int)) : e = f ∧ s = u := by
 rw [nonce_eq, nonce_eq] at h
 obtain ⟨h1, h2⟩ := List.append_inj h (by simp)
 have h3 := congrArg lowN h1
 rw [take4 e he, take4 f hf] at h3
 have h4 := num8_one h2
 exact ⟨h3, by omega⟩
theorem fn_TH (hist : Nat → List Rec) : Vault.Fn (TH hist) := by
 rintro n a b ⟨e, s, r, h1, h2, h3, h4, rfl⟩ ⟨f, u, q, g1, g2, g3, g4, rfl⟩
 obtain ⟨rfl, rfl⟩ := nonce_two h1 g1 h2 g2 (h4.symm.trans g4)
 rw [h3] at g3
 injection g3 with g3
 rw [g3]
theorem told_mono {T U : List UInt8 → List UInt8 → Prop} {sl : List (Vault.Pl × List UInt8)} (h : Vault.Told T sl) (hm : ∀ n t, T n t → U n t) : Vault.Told U sl := fun q t e => hm _ _ (h q t e)
def hset (hist : Nat → List Rec) (e : Nat) (rs : List Rec) : Nat → List Rec := fun f => if f = e then rs else hist f
theorem hset_at (hist : Nat → List Rec) (e : Nat) (rs : List Rec) : hset hist e rs e = rs := by unfold hset; rw [if_pos rfl]
theorem hset_ne (hist : Nat → List Rec) {e f : Nat} (rs : List Rec) (h : f ≠ e) : hset hist e rs f = hist f := by unfold hset; rw [if_neg h]
theorem TH.more {hist : Nat → List Rec} {e : Nat} {xs : List Rec} (rs : List Rec) (h : hist e = xs ∨ hist e = []) (n t : List UInt8) (g : TH hist n t) : TH (hset hist e (xs ++ rs)) n t := by
 obtain ⟨f, s, r, h1, h2, h3, h4, h5⟩ := g
 refine ⟨f, s, r, h1, h2, ?_, h4, h5⟩
 by_cases hf : f = e
 · subst hf
   rw [hset_at]
   rcases h with h | h
   · rw [h] at h3
     rw [List.getElem?_append_left (List.getElem?_eq_some_iff.1 h3).1]; exact h3
   · rw [h] at h3; simp at h3
 · rw [hset_ne hist _ hf]; exact h3
theorem told_on {hist : Nat → List Rec} {e : Nat} {xs rs : List Rec} {sl sl2 : List (Vault.Pl × List UInt8)} {cl cl2 : Nat} {eI : Int} (he : eI = (e : Int)) (h : Onc eI xs.length rs sl cl sl2 cl2) (ht : Vault.Told (TH hist) sl) (hx : hist e = xs ∨ hist e = []) (h32 : e < 4294967296) (hl : xs.length + rs.length ≤ 1099511627776) : Vault.Told (TH (hset hist e (xs ++ rs))) sl2 ∧ cl2 = cl := by
 subst he
 refine h _ (fn_TH _) (fun j r hj => ?_) (told_mono ht (TH.more rs hx))
 have hjl := (List.getElem?_eq_some_iff.1 hj).1
 refine ⟨e, xs.length + j, r, h32, by omega, ?_, rfl, rfl⟩
 rw [hset_at, List.getElem?_append_right (by omega)]
 simpa using hj
theorem told_turn {hist : Nat → List Rec} {e : Nat} {rs : List Rec} {sl sl2 : List (Vault.Pl × List UInt8)} {cl cl2 : Nat} {eI : Int} (he : eI = (e : Int)) (h : Onc eI 0 rs sl cl sl2 cl2) (ht : Vault.Told (TH hist) sl) (hx : hist e = rs ∨ hist e = []) (h32 : e < 4294967296) (hl : rs.length ≤ 1099511627776) : Vault.Told (TH (hset hist e rs)) sl2 ∧ cl2 = cl := by
 subst he
 refine h _ (fn_TH _) (fun j r hj => ?_) (told_mono ht (fun n t g => by have := TH.more (xs := rs) [] hx n t g; rwa [List.append_nil] at this))
 have hjl := (List.getElem?_eq_some_iff.1 hj).1
 refine ⟨e, j, r, h32, by omega, ?_, by rw [Nat.zero_add], rfl⟩
 rw [hset_at]; exact hj
end Com
end Go.Proofs.YtigdlnfgdjfdoaaGreat
