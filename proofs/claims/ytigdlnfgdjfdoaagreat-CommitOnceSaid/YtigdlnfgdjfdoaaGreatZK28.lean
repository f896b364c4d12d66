/- Lemmas: ComC SegTp ComK ComG ComE. -/
import Derived.Test.YtigdlnfgdjfdoaaGreatZK14
import Derived.Test.YtigdlnfgdjfdoaaGreatZK18
set_option maxHeartbeats 4000000
set_option maxRecDepth 100000
set_option linter.unusedVariables false
set_option linter.unusedSimpArgs false
namespace Go.Proofs.YtigdlnfgdjfdoaaGreat
namespace Com
open Go Go.RowKit Kit
open Rec (Rec good ftot)
open Ideal (Ts Thing hashT)
open Seg (pk pk_shape pk_yes hdA hdA_o hdA_b hdA_h stA rtA rtA_sub stA_from perr perr_ok perrs)
open Disk
structure Pkd (o : Ts) (ms : List UInt8) (lim : Nat) (e s : Int) (at' : List UInt8) (l : List Rec) (o' : Ts) (b h : List UInt8) : Prop where
 mid : ∃ p, o.sub p ∧ o' = p.nx (hashT (at' ++ b)) ∧ h = p.val (hashT (at' ++ b)) 32
 len : b.length = ftot l
 fl : flen b = b.length
 lo : 48 ≤ b.length
 hi : b.length ≤ 16384
 ne : l ≠ []
 good : ∀ r ∈ l, good r = true
theorem pkd (o : Ts) (ms : List UInt8) (lim : Nat) (e s : Int) (at' : List UInt8) (l : List Rec) (hl : o.long) (h : (pk o ms lim e s at' l).e = 0) : Pkd o ms lim e s at' l (pk o ms lim e s at' l).o (pk o ms lim e s at' l).b (pk o ms lim e s at' l).h := by
 have hb := pk_shape.begins o ms lim e s at' l hl h
 rw [pk_shape.err] at h
 obtain ⟨hne, hgood, hft, _⟩ := perr_ok h
 have h48 : 48 ≤ ftot l := by unfold ftot; omega
 have hE : perrs lim e s 0 48 l = 0 := by rw [perr, if_neg hne] at h; exact h
 obtain ⟨rest, h1, h2⟩ := hb
 have hlen : (pk o ms lim e s at' l).b.length = ftot l := by rw [h1, List.length_append, num8_length]; omega
 refine ⟨?_, hlen, ?_, by omega, by omega, hne, hgood⟩
 · rw [pk_yes o ms lim e s at' l hne hE, hdA_o, hdA_b, hdA_h]
   exact ⟨_, (stA_from ms e s at' l.length o l).trans (rtA_sub _ _), rfl, rfl⟩
 · have hn := fnum_app (ftot l : Nat) rest (by omega)
   rw [← h1] at hn
   unfold flen
   rw [hn, if_neg (by omega), Int.toNat_natCast, hlen]
theorem Pkd.has {o : Ts} {ms : List UInt8} {lim : Nat} {e s : Int} {at' : List UInt8} {l : List Rec} {o' : Ts} {b h : List UInt8} (k : Pkd o ms lim e s at' l o' b h) : o'.has (hashT (at' ++ b)) ∧ o'.val (hashT (at' ++ b)) 32 = h ∧ o.sub o' := by
 obtain ⟨p, h1, h2, h3⟩ := k.mid
 subst h2; subst h3
 exact ⟨p.has_nx _, p.val_nx _ 32, h1.step _⟩
inductive Ch (o : Ts) (ms : List UInt8) (lim : Nat) (e : Int) : Int → List UInt8 → List (List Rec) → List (List UInt8) → List UInt8 → Prop
 | nil (s : Int) (at' : List UInt8) : Ch o ms lim e s at' [] [] at'
 | cons {s : Int} {at' : List UInt8} {l : List Rec} {ls : List (List Rec)} {fs : List (List UInt8)} {a : List UInt8} (p : Ts) (hl : p.long) (hp : (pk p ms lim e s at' l).e = 0) (hs : (pk p ms lim e s at' l).o.sub o)
     (h : Ch o ms lim e (s + (l.length : Nat)) (pk p ms lim e s at' l).h ls fs a) : Ch o ms lim e s at' (l :: ls) ((pk p ms lim e s at' l).b :: fs) a
theorem Ch.sub {o o2 : Ts} {ms : List UInt8} {lim : Nat} {e s : Int} {at' : List UInt8} {ls : List (List Rec)} {fs : List (List UInt8)} {a : List UInt8} (h : Ch o ms lim e s at' ls fs a) (g : o.sub o2) : Ch o2 ms lim e s at' ls fs a := by
 induction h with
 | nil s at' => exact .nil s at'
 | cons p hl hp hs h ih => exact .cons p hl hp (hs.trans g) ih
theorem Ch.snoc {o : Ts} {ms : List UInt8} {lim : Nat} {e s : Int} {at' : List UInt8} {ls : List (List Rec)} {fs : List (List UInt8)} {a : List UInt8} (h : Ch o ms lim e s at' ls fs a) (p : Ts) (l : List Rec) (s2 : Int) (hs2 : s2 = s + (ls.flatten.length : Nat)) (hl : p.long) (hp : (pk p ms lim e s2 a l).e = 0) (hs : (pk p ms lim e s2 a l).o.sub o) :
    Ch o ms lim e s at' (ls ++ [l]) (fs ++ [(pk p ms lim e s2 a l).b]) (pk p ms lim e s2 a l).h := by
 induction h with
 | nil s at' =>
   have : s2 = s := by rw [hs2]; simp
   subst this
   exact .cons p hl hp hs (.nil _ _)
 | @cons s at' l0 ls fs a q hl2 hp2 hs0 h ih =>
   exact .cons q hl2 hp2 hs0 (ih (by rw [hs2]; simp only [List.flatten_cons, List.length_append]; omega) hp hs)
theorem Ch.hs {o : Ts} {ms : List UInt8} {lim : Nat} {e s : Int} {at' : List UInt8} {ls : List (List Rec)} {fs : List (List UInt8)} {a : List UInt8} (h : Ch o ms lim e s at' ls fs a) : ∀ {h0 : List UInt8} {pre : List (List UInt8)}, Hs o h0 pre at' → Hs o h0 (pre ++ fs) a := by
 induction h with
 | nil s at' => intro h0 pre g; rw [List.append_nil]; exact g
 | @cons s at' l ls fs a p hl hp hs h ih =>
   intro h0 pre g
   have k := pkd p ms lim e s at' l hl hp
   obtain ⟨k1, k2, k3⟩ := k.has
   have g2 := g.snoc k.lo (k1.sub hs)
   rw [k1.val hs 32, k2] at g2
   have := ih g2
   rwa [List.append_assoc] at this
theorem Ch.lengths {o : Ts} {ms : List UInt8} {lim : Nat} {e s : Int} {at' : List UInt8} {ls : List (List Rec)} {fs : List (List UInt8)} {a : List UInt8} (h : Ch o ms lim e s at' ls fs a) : fs.length = ls.length := by
 induction h with
 | nil => rfl
 | cons p hl hp hs h ih => simp [ih]
def epB : ByteArray := ⟨#[101, 112, 111, 99, 104]⟩
def stH (e : Int) : List UInt8 := textB epB ++ num8 e
theorem stH_length (e : Int) : (stH e).length < 80 := by
 have := textB_le epB
 have hz : epB.size = 5 := rfl
 unfold stH; rw [List.length_append, num8_length]; omega
def odd (e : Int) : Bool := decide (e % 2 ≠ 0)
structure Cnt (o : Ts) (ms : List UInt8) (lim : Nat) (d : Dk) (t : Meter.Mt) (ls : List (List Rec)) (q : Nat) : Prop where
 ne : ls ≠ []
 epo : o.has (hashT (stH t.epoch))
 top : q ≤ (aHalf d.now.length (odd t.epoch)).top
 fr : ∃ fs, Ch o ms lim t.epoch 0 (o.val (hashT (stH t.epoch)) 32) ls fs t.root ∧ Fr d.now (aHalf d.now.length (odd t.epoch)).pos fs q
 held : Held d (fun i => (aHalf d.now.length (odd t.epoch)).pos ≤ i ∧ i < q) d.now
theorem Cnt.lo {o : Ts} {ms : List UInt8} {lim : Nat} {d : Dk} {t : Meter.Mt} {ls : List (List Rec)} {q : Nat} (h : Cnt o ms lim d t ls q) : (aHalf d.now.length (odd t.epoch)).pos ≤ q := by
 obtain ⟨fs, _, h2⟩ := h.fr
 exact h2.le
theorem Cnt.keep {o o2 : Ts} {ms : List UInt8} {lim : Nat} {d d2 : Dk} {t : Meter.Mt} {ls : List (List Rec)} {q : Nat} (h : Cnt o ms lim d t ls q) (ho : o.sub o2) (hn : d2.now.length = d.now.length) (hd : Held d2 (fun i => (aHalf d.now.length (odd t.epoch)).pos ≤ i ∧ i < q) d.now) : Cnt o2 ms lim d2 t ls q := by
 refine ⟨h.ne, h.epo.sub ho, by rw [hn]; exact h.top, ?_, ?_⟩
 · obtain ⟨fs, h1, h2⟩ := h.fr
   refine ⟨fs, ?_, ?_⟩
   · rw [h.epo.val ho 32]; exact h1.sub ho
   · rw [hn]; exact h2.ext (fun i h3 h4 => hd.now i ⟨h3, h4⟩)
 · rw [hn]
   exact ⟨fun _ _ => rfl, fun i e => (hd.safe i e).trans (hd.now i e).symm, hd.waits⟩
theorem Cnt.next {o : Ts} {ms : List UInt8} {lim : Nat} {d : Dk} {t : Meter.Mt} {ls : List (List Rec)} {fs : List (List UInt8)} {q : Nat} (hs : d.safe = d.now) (hw : d.waits = []) (hne : ls ≠ []) (he : o.has (hashT (stH t.epoch))) (hc : Ch o ms lim t.epoch 0 (o.val (hashT (stH t.epoch)) 32) ls fs t.root)
    (hf : Fr d.now (aHalf d.now.length (odd t.epoch)).pos fs q) (hq : q ≤ (aHalf d.now.length (odd t.epoch)).top) : Cnt o ms lim d t ls q :=
 ⟨hne, he, hq, ⟨fs, hc, hf⟩, (held_synced d hw hs).less (fun _ _ => trivial)⟩
theorem odd_succ (e : Int) : odd (e + 1) = !odd e := by
 unfold odd
 rcases Int.emod_two_eq e with h | h
 · rw [show (e + 1) % 2 = 1 by omega, h]; rfl
 · rw [show (e + 1) % 2 = 0 by omega, h]; rfl
theorem halves (n : Nat) (b : Bool) (i : Nat) (h1 : (aHalf n b).pos ≤ i) (h2 : i < (aHalf n b).top) : ¬ ((aHalf n (!b)).pos ≤ i ∧ i < (aHalf n (!b)).top) := by
 cases b <;> simp [aHalf] at h1 h2 ⊢ <;> omega
theorem half_room (n : Nat) (b : Bool) : (aHalf n b).top = (aHalf n b).pos + n / 2 := by
 cases b <;> simp [aHalf] <;> omega
theorem Pkd.secs {o : Ts} {ms : List UInt8} {lim : Nat} {e s : Int} {at' : List UInt8} {l : List Rec} {o' : Ts} {b h : List UInt8} (k : Pkd o ms lim e s at' l o' b h) : (Disk.secs b).length = (ftot l + 255) / 256 := by rw [secs_len, k.len]
end Com
namespace Rec
open Go Go.RowKit Kit
def fit : Nat → List Rec → Nat
 | _, [] => 0
 | size, r :: rs => if 16384 < size + 63 + r.body.length then 0 else fit (size + 63 + r.body.length) rs + 1
theorem fit_cons (size : Nat) (r : Rec) (rs : List Rec) : fit size (r :: rs) = if 16384 < size + 63 + r.body.length then 0 else fit (size + 63 + r.body.length) rs + 1 := rfl
theorem fit_le : ∀ (rs : List Rec) (size : Nat), fit size rs ≤ rs.length
 | [], size => Nat.le_refl _
 | r :: rs, size => by
   have := fit_le rs (size + 63 + r.body.length)
   rw [fit_cons, List.length_cons]; split <;> omega
def room : List Rec → Nat
 | [] => 0
 | r :: rs => fit (48 + 63 + r.body.length) rs + 1
theorem room_cons (r : Rec) (rs : List Rec) : room (r :: rs) = fit (48 + 63 + r.body.length) rs + 1 := rfl
theorem room_le (rs : List Rec) : room rs ≤ rs.length := by
 cases rs with
 | nil => exact Nat.le_refl _
 | cons r rs => have := fit_le rs (48 + 63 + r.body.length); rw [room_cons, List.length_cons]; omega
theorem room_pos (rs : List Rec) (h : rs ≠ []) : 0 < room rs := by
 cases rs with
 | nil => exact absurd rfl h
 | cons r rs => rw [room_cons]; omega
theorem ftot_one (r : Rec) : ftot [r] = 48 + 63 + r.body.length := by simp [ftot]; omega
theorem ftot_more (cur : List Rec) (r : Rec) : ftot (cur ++ [r]) = ftot cur + 63 + r.body.length := by
 have := ftot_append cur [r]
 rw [ftot_one] at this; omega
theorem spl_pre : ∀ (l : List Rec) (D E : List (List Rec)) (cur : List Rec), l.foldl spl1 (D ++ E, cur) = (D ++ (l.foldl spl1 (E, cur)).1, (l.foldl spl1 (E, cur)).2)
 | [], D, E, cur => rfl
 | r :: l, D, E, cur => by
   rw [List.foldl_cons, List.foldl_cons]
   by_cases h : cur ≠ [] ∧ 16384 < ftot (cur ++ [r])
   · rw [spl1_many _ r h.1 h.2, spl1_many _ r h.1 h.2]
     have := spl_pre l D (E ++ [cur]) [r]
     simp only [← List.append_assoc] at this ⊢
     exact this
   · have e1 : spl1 (D ++ E, cur) r = (D ++ E, cur ++ [r]) := if_neg h
     have e2 : spl1 (E, cur) r = (E, cur ++ [r]) := if_neg h
     rw [e1, e2]
     exact spl_pre l D E (cur ++ [r])
theorem spl_fit : ∀ (l : List Rec) (D : List (List Rec)) (cur : List Rec), cur ≠ [] →
    l.foldl spl1 (D, cur) = if fit (ftot cur) l = l.length then (D, cur ++ l) else (l.drop (fit (ftot cur) l)).foldl spl1 (D ++ [cur ++ l.take (fit (ftot cur) l)], [])
 | [], D, cur, hc => by rw [if_pos (by rfl), List.append_nil]; rfl
 | r :: l, D, cur, hc => by
   rw [List.foldl_cons]
   by_cases h : 16384 < ftot cur + 63 + r.body.length
   · rw [spl1_many (D, cur) r hc (by rw [ftot_more]; exact h), fit_cons, if_pos h, if_neg (by simp), List.take_zero, List.drop_zero, List.append_nil, List.foldl_cons, spl1_empty _ r rfl]
     rfl
   · rw [spl1_few (D, cur) r (by have := ftot_more cur r; simp only; omega), spl_fit l D (cur ++ [r]) (by simp), ftot_more, fit_cons, if_neg h]
     simp only [List.length_cons, Nat.add_right_cancel_iff, List.take_succ_cons, List.drop_succ_cons, List.append_assoc, List.singleton_append]
theorem split_more (rs : List Rec) (h : rs ≠ []) : split rs = rs.take (room rs) :: split (rs.drop (room rs)) := by
 cases rs with
 | nil => exact absurd rfl h
 | cons r l =>
   have hA : splA (r :: l) = l.foldl spl1 ([], [r]) := rfl
   have hf := spl_fit l [] [r] (by simp)
   rw [ftot_one] at hf
   rw [room_cons, List.take_succ_cons, List.drop_succ_cons]
   by_cases hk : fit (48 + 63 + r.body.length) l = l.length
   · rw [if_pos hk] at hf
     rw [hk, List.take_length, List.drop_length]
     unfold split
     rw [hA, hf, splA_nil]
     rfl
   · rw [if_neg hk] at hf
     obtain ⟨k, hke⟩ : ∃ k, k = fit (48 + 63 + r.body.length) l := ⟨_, rfl⟩
     rw [← hke] at hf ⊢
     have hp := spl_pre (l.drop k) [r :: l.take k] [] []
     rw [List.append_nil] at hp
     unfold split
     rw [hA, hf]
     simp only [List.nil_append, List.singleton_append]
     rw [hp]
     unfold splA
     split <;> simp
theorem split_nil : split [] = [] := rfl
end Rec
namespace Com
open Go Go.RowKit Kit
open Rec (Rec good ftot fsec split split_flat)
open Ideal (Ts Thing hashT)
open Seg (pk pk_shape pk_yes hdA hdA_o hdA_b hdA_h hdA_e stA stA_few stA_length rtA rtA_few stA_from perr perr_ok perrs perrs_cons perr1)
open Disk
structure Kr where
 o : Ts
 D : Dk
 A : Ar
 s : Nat
 h : List UInt8
 e : Int
def keepT (ms : List UInt8) (lim : Nat) (e : Int) : Ts → Dk → Ar → Nat → List UInt8 → List (List Rec) → Kr
 | o, D, A, s, h, [] => ⟨o, D, A, s, h, 0⟩
 | o, D, A, s, h, l :: ls =>
   if (pk o ms lim e (s : Nat) h l).e = 0 then
    (if (aAdd D A (pk o ms lim e (s : Nat) h l).b).2.2 = 0 then keepT ms lim e (pk o ms lim e (s : Nat) h l).o (aAdd D A (pk o ms lim e (s : Nat) h l).b).1 (aAdd D A (pk o ms lim e (s : Nat) h l).b).2.1 (s + l.length) (pk o ms lim e (s : Nat) h l).h ls
    else ⟨(pk o ms lim e (s : Nat) h l).o, (aAdd D A (pk o ms lim e (s : Nat) h l).b).1, (aAdd D A (pk o ms lim e (s : Nat) h l).b).2.1, s, h, (aAdd D A (pk o ms lim e (s : Nat) h l).b).2.2⟩)
   else ⟨(pk o ms lim e (s : Nat) h l).o, D, A, s, h, (pk o ms lim e (s : Nat) h l).e⟩
theorem keepT_nil (ms : List UInt8) (lim : Nat) (e : Int) (o : Ts) (D : Dk) (A : Ar) (s : Nat) (h : List UInt8) : keepT ms lim e o D A s h [] = ⟨o, D, A, s, h, 0⟩ := rfl
theorem keepT_go {ms : List UInt8} {lim : Nat} {e : Int} {o : Ts} {D : Dk} {A : Ar} {s : Nat} {h : List UInt8} {l : List Rec} (ls : List (List Rec)) (h1 : (pk o ms lim e (s : Nat) h l).e = 0) (h2 : (aAdd D A (pk o ms lim e (s : Nat) h l).b).2.2 = 0) :
    keepT ms lim e o D A s h (l :: ls) = keepT ms lim e (pk o ms lim e (s : Nat) h l).o (aAdd D A (pk o ms lim e (s : Nat) h l).b).1 (aAdd D A (pk o ms lim e (s : Nat) h l).b).2.1 (s + l.length) (pk o ms lim e (s : Nat) h l).h ls := by
 rw [keepT, if_pos h1, if_pos h2]
theorem keepT_stop {ms : List UInt8} {lim : Nat} {e : Int} {o : Ts} {D : Dk} {A : Ar} {s : Nat} {h : List UInt8} {l : List Rec} (ls : List (List Rec)) (h1 : (pk o ms lim e (s : Nat) h l).e = 0) (h2 : (aAdd D A (pk o ms lim e (s : Nat) h l).b).2.2 ≠ 0) :
    keepT ms lim e o D A s h (l :: ls) = ⟨(pk o ms lim e (s : Nat) h l).o, (aAdd D A (pk o ms lim e (s : Nat) h l).b).1, (aAdd D A (pk o ms lim e (s : Nat) h l).b).2.1, s, h, (aAdd D A (pk o ms lim e (s : Nat) h l).b).2.2⟩ := by
 rw [keepT, if_pos h1, if_neg h2]
structure Pks (l : List Rec) : Prop where
 ne : l ≠ []
 good : ∀ r ∈ l, good r = true
 hi : ftot l ≤ 16384
theorem perrs_zero (lim : Nat) (e s : Int) (he : 0 ≤ e ∧ e < 4294967296) (hs : 0 ≤ s) : ∀ (rs : List Rec) (i size : Nat), (∀ r ∈ rs, good r = true) → size + (ftot rs - 48) ≤ 16384 → s + ((i + rs.length : Nat) : Int) ≤ (lim : Int) → perrs lim e s i size rs = 0
 | [], i, size, _, _, _ => rfl
 | r :: rs, i, size, hg, hz, hl => by
   have hf : ftot (r :: rs) = 63 + r.body.length + ftot rs := by simp [ftot]; omega
   have h48 : 48 ≤ ftot rs := by unfold ftot; omega
   have hl2 : ((r :: rs).length : Nat) = rs.length + 1 := rfl
   rw [hl2] at hl
   have h1 : perr1 lim e s i size r = 0 := by
    unfold perr1
    rw [if_neg (by rw [hg r (by simp)]; decide), if_neg (by omega), if_neg (by omega), if_neg (by omega)]
   rw [perrs_cons, if_pos h1]
   exact perrs_zero lim e s he hs rs (i + 1) _ (fun x hx => hg x (by simp [hx])) (by omega) (by omega)
theorem perr_zero {lim : Nat} {e : Int} {s : Nat} {l : List Rec} (he : 0 ≤ e ∧ e < 4294967296) (h : Pks l) (hs : s + l.length ≤ lim) : perr lim e (s : Nat) l = 0 := by
 unfold perr
 rw [if_neg h.ne]
 have h48 : 48 ≤ ftot l := by unfold ftot; omega
 have := h.hi
 exact perrs_zero lim e (s : Nat) he (by omega) l 0 48 h.good (by omega) (by omega)
theorem pk_zero (o : Ts) (ms : List UInt8) {lim : Nat} {e : Int} {s : Nat} (h : List UInt8) {l : List Rec} (he : 0 ≤ e ∧ e < 4294967296) (hp : Pks l) (hs : s + l.length ≤ lim) : (pk o ms lim e (s : Nat) h l).e = 0 := by
 rw [pk_shape.err]; exact perr_zero he hp hs
theorem pk_few (o : Ts) (ms : List UInt8) (lim : Nat) (e s : Int) (h : List UInt8) (l : List Rec) (n : Nat) (hf : o.few n) (h0 : (pk o ms lim e s h l).e = 0) : (pk o ms lim e s h l).o.few (n + 4 * l.length + 2) := by
 rw [pk_shape.err] at h0
 have hne := (perr_ok h0).1
 have hE : perrs lim e s 0 48 l = 0 := by rw [perr, if_neg hne] at h0; exact h0
 rw [pk_yes _ _ _ _ _ _ _ hne hE, hdA_o]
 have h1 := rtA_few _ ((stA ms e s h l.length o l).2.map (·.2)) _ (stA_few ms e s h l.length o l n hf)
 rw [List.length_map, stA_length] at h1
 exact (h1.nx _).mono (by omega)
theorem pk_sub (o : Ts) (ms : List UInt8) (lim : Nat) (e s : Int) (h : List UInt8) (l : List Rec) (hl : o.long) (h0 : (pk o ms lim e s h l).e = 0) : o.sub (pk o ms lim e s h l).o := (pkd o ms lim e s h l hl h0).has.2.2
def secsum (ls : List (List Rec)) : Nat := (ls.map fsec).sum
theorem secsum_cons (l : List Rec) (ls : List (List Rec)) : secsum (l :: ls) = fsec l + secsum ls := by simp [secsum]
theorem adds_shape (n : Nat) : ∀ (s : List UInt8) (d : Dk) (p : Nat), s.length = n → Ok d → Ok (aAdds d p s).1 ∧ (aAdds d p s).1.now.length = d.now.length := by
 induction n using Nat.strongRecOn with
 | ind n ih =>
   intro s d p hs hk
   by_cases h0 : s.length = 0
   · rw [aAdds_nil d p s h0]; exact ⟨hk, rfl⟩
   · have hw := write_ok E8 d p (s.take 256) hk
     have hl : (write E8 d p (s.take 256)).1.now.length = d.now.length := by
      unfold write
      split
      · rfl
      · split
        · rfl
        · split
          · rfl
          · rename_i h1 h2 h3
            have hd : (act d).1.now = d.now := by rw [act_on d (by simpa using h1)]
            rw [Int.toNat_natCast]
            have hwk := wrote_ok (act d).1 p (s.take 256) (act_ok d hk) (by rw [hd]; omega) (by simp; omega)
            have hwl : (wrote (act d).1 p (s.take 256)).now.length = d.now.length := by simp only [wrote, List.length_set]; rw [hd]
            split
            · rw [lose_length _ _ hwk]; exact hwl
            · exact hwl
     by_cases h2 : (write E8 d p (s.take 256)).2 = 0
     · rw [aAdds_go d p s (by omega) h2]
       have := ih (s.drop 256).length (by simp; omega) (s.drop 256) _ (p + 1) rfl hw
       exact ⟨this.1, this.2.trans hl⟩
     · rw [aAdds_stop d p s (by omega) h2]; exact ⟨hw, hl⟩
theorem add_shape (d : Dk) (a : Ar) (s : List UInt8) (hk : Ok d) : Ok (aAdd d a s).1 ∧ (aAdd d a s).1.now.length = d.now.length ∧ (aAdd d a s).2.1.top = a.top := by
 have h := adds_shape s.length s d a.pos rfl hk
 unfold aAdd
 split
 · exact ⟨hk, rfl, rfl⟩
 · split
   · exact ⟨hk, rfl, rfl⟩
   · split
     · exact ⟨hk, rfl, rfl⟩
     · split
       · exact ⟨h.1, h.2, rfl⟩
       · exact ⟨h.1, h.2, rfl⟩
structure Pre (lim : Nat) (e : Int) (o : Ts) (D : Dk) (A : Ar) (s : Nat) (h : List UInt8) (ls : List (List Rec)) : Prop where
 ep : 0 ≤ e ∧ e < 4294967296
 long : o.long
 ok : Ok D
 off : D.off = false
 room : A.pos + secsum ls ≤ A.top
 top : A.top ≤ D.now.length
 good : ∀ l ∈ ls, Pks l
 lim : s + ls.flatten.length ≤ lim
 h32 : h.length = 32
structure Kept (ms : List UInt8) (lim : Nat) (e : Int) (o : Ts) (D : Dk) (A : Ar) (s : Nat) (h : List UInt8) (ls : List (List Rec)) (K : Kr) : Prop where
 ch : ∃ fs, Ch K.o ms lim e (s : Nat) h ls fs K.h ∧ Fr K.D.now A.pos fs K.A.pos
 pos : K.A.pos = A.pos + secsum ls
 num : K.s = s + ls.flatten.length
 off : K.D.off = false
 else_ : ∀ i, i < A.pos ∨ K.A.pos ≤ i → K.D.now[i]? = D.now[i]?
 keep : K.D.keep = D.keep
structure Kany (ms : List UInt8) (lim : Nat) (e : Int) (o : Ts) (D : Dk) (A : Ar) (s : Nat) (h : List UInt8) (ls : List (List Rec)) (K : Kr) : Prop where
 done : K.e = 0 ∧ Kept ms lim e o D A s h ls K ∨ K.e = 8 ∧ K.D.off = true
 sub : o.sub K.o
 few : ∀ n, o.few n → K.o.few (n + 6 * ls.flatten.length)
 ok : Ok K.D
 len : K.D.now.length = D.now.length
 top : K.A.top = A.top
 held : ∀ (R : Nat → Prop) (xs : List (List UInt8)), Held D R xs → (∀ i, A.pos ≤ i → i < A.top → ¬ R i) → Held K.D R xs
 calm : D.fuse = 0 → K.e = 0 ∧ K.D.fuse = 0
 h32 : K.h.length = 32
theorem kept_any (ms : List UInt8) (lim : Nat) (e : Int) : ∀ (ls : List (List Rec)) (o : Ts) (D : Dk) (A : Ar) (s : Nat) (h : List UInt8), Pre lim e o D A s h ls → Kany ms lim e o D A s h ls (keepT ms lim e o D A s h ls) := by
 intro ls
 induction ls with
 | nil =>
   intro o D A s h P
   rw [keepT_nil]
   exact ⟨.inl ⟨rfl, ⟨[], .nil _ _, .nil _⟩, rfl, rfl, P.off, fun _ _ => rfl, rfl⟩, .refl _, fun n hn => hn, P.ok, rfl, rfl, fun R xs hR _ => hR, fun hf => ⟨rfl, hf⟩, P.h32⟩
 | cons l ls ih =>
   intro o D A s h P
   have hp := P.good l (by simp)
   have hfl : (l :: ls).flatten.length = l.length + ls.flatten.length := by simp
   have hlim := P.lim
   rw [hfl] at hlim
   have h0 := pk_zero o ms h P.ep hp (show s + l.length ≤ lim by omega)
   have k := pkd o ms lim e (s : Nat) h l P.long h0
   have hroom := P.room
   rw [secsum_cons] at hroom
   have htop := P.top
   have hsec : (secs (pk o ms lim e (s : Nat) h l).b).length = fsec l := k.secs
   have hlow := k.lo
   have hsub := pk_sub o ms lim e (s : Nat) h l P.long h0
   have hsh := add_shape D A (pk o ms lim e (s : Nat) h l).b P.ok
   have hlen : 1 ≤ l.length := by have := hp.ne; cases l with
    | nil => exact absurd rfl this
    | cons a b => simp
   have hfew : ∀ n, o.few n → (pk o ms lim e (s : Nat) h l).o.few (n + 6 * l.length) := fun n hn => (pk_few o ms lim e (s : Nat) h l n hn h0).mono (by omega)
   have hcalm : D.fuse = 0 → (aAdd D A (pk o ms lim e (s : Nat) h l).b).2.2 = 0 ∧ (aAdd D A (pk o ms lim e (s : Nat) h l).b).1.fuse = 0 := fun hf => by
    obtain ⟨d2, e2, P2⟩ := add_yes D A _ k.fl (by omega) P.off hf (by omega) htop
    rw [e2]; exact ⟨rfl, P2.fuse⟩
   have h32 := pk_shape.h32 o ms lim e (s : Nat) h l P.long P.h32
   rcases add_any D A (pk o ms lim e (s : Nat) h l).b k.fl (by omega) P.off (by omega) htop with ⟨d2, e2, P2⟩ | ⟨d2, e2, P2⟩
   · have e3 : (aAdd D A (pk o ms lim e (s : Nat) h l).b).2.2 = 0 := by rw [e2]
     rw [e2] at hsh hcalm
     rw [keepT_go ls h0 e3, e2]
     simp only
     rw [hsec]
     have Q := ih (pk o ms lim e (s : Nat) h l).o d2 ⟨A.top, A.pos + fsec l⟩ (s + l.length) (pk o ms lim e (s : Nat) h l).h ⟨P.ep, P.long.sub hsub, hsh.1, P2.off, by simp only; omega, by simp only; rw [P2.size]; exact htop, fun x hx => P.good x (by simp [hx]), by omega, h32⟩
     obtain ⟨K, hK⟩ : ∃ K, K = keepT ms lim e (pk o ms lim e (s : Nat) h l).o d2 ⟨A.top, A.pos + fsec l⟩ (s + l.length) (pk o ms lim e (s : Nat) h l).h ls := ⟨_, rfl⟩
     rw [← hK] at Q ⊢
     refine ⟨?_, hsub.trans Q.sub, fun n hn => (Q.few _ (hfew n hn)).mono (by omega), Q.ok, Q.len.trans P2.size, Q.top, fun R xs hR hA => ?_, fun hf => Q.calm (hcalm hf).2, Q.h32⟩
     · rcases Q.done with ⟨q1, q2⟩ | q
       · refine .inl ⟨q1, ?_⟩
         have hpos := q2.pos
         simp only at hpos
         obtain ⟨fs, c1, c2⟩ := q2.ch
         refine ⟨⟨(pk o ms lim e (s : Nat) h l).b :: fs, ?_, ?_⟩, by rw [hpos, secsum_cons]; omega, by rw [q2.num, hfl]; omega, q2.off, fun i hi => ?_, q2.keep.trans P2.keep⟩
         · refine .cons o P.long h0 Q.sub ?_
           have : ((s + l.length : Nat) : Int) = (s : Nat) + (l.length : Nat) := by omega
           rw [← this]; exact c1
         · have c3 := c2.le
           refine .cons k.fl (by omega) (P2.there.ext (fun i h1 h2 => ?_)) (by rw [hsec]; exact c2)
           exact q2.else_ i (.inl (by simp only; omega))
         · rw [q2.else_ i (by simp only; omega)]
           exact P2.else_ i (by omega)
       · exact .inr q
     · refine Q.held R xs ?_ (fun i h1 h2 => hA i (by simp only at h1; omega) h2)
       have := hR.add A (pk o ms lim e (s : Nat) h l).b (by omega) hA
       rw [e2] at this; exact this
   · have e3 : (aAdd D A (pk o ms lim e (s : Nat) h l).b).2.2 ≠ 0 := by rw [e2]; exact (by decide : (8 : Int) ≠ 0)
     rw [keepT_stop ls h0 e3]
     refine ⟨.inr ⟨by rw [e2], by rw [e2]; exact P2⟩, hsub, fun n hn => (hfew n hn).mono (by omega), hsh.1, hsh.2.1, hsh.2.2, fun R xs hR hA => hR.add A _ (by omega) hA, fun hf => absurd (hcalm hf).1 e3, P.h32⟩
end Com
namespace Com
open Go Go.RowKit Kit
open Rec (Rec good ftot fsec split split_flat)
open Ideal (Ts Thing hashT)
open Disk
open Meter (Mt Mk nxt)
structure Gr where
 o : Ts
 D : Dk
 t : Mt
 A : Ar
 s : Nat
 h : List UInt8
 e : Int
def goOnK (t : Mt) (e : Int) (K : Kr) : Gr :=
 if K.e = 0 then (if (sync E8 K.D).2 = 0 then ⟨K.o, (nxt t (sync E8 K.D).1 e K.h).2.1, (nxt t (sync E8 K.D).1 e K.h).1, K.A, K.s, K.h, (nxt t (sync E8 K.D).1 e K.h).2.2⟩ else ⟨K.o, (sync E8 K.D).1, t, K.A, K.s, K.h, (sync E8 K.D).2⟩)
 else ⟨K.o, K.D, t, K.A, K.s, K.h, K.e⟩
theorem goOnK_bad (t : Mt) (e : Int) (K : Kr) (h : K.e ≠ 0) : goOnK t e K = ⟨K.o, K.D, t, K.A, K.s, K.h, K.e⟩ := by unfold goOnK; rw [if_neg h]
theorem goOnK_sync (t : Mt) (e : Int) (K : Kr) (h : K.e = 0) (h2 : (sync E8 K.D).2 ≠ 0) : goOnK t e K = ⟨K.o, (sync E8 K.D).1, t, K.A, K.s, K.h, (sync E8 K.D).2⟩ := by unfold goOnK; rw [if_pos h, if_neg h2]
theorem goOnK_yes (t : Mt) (e : Int) (K : Kr) (h : K.e = 0) (h2 : (sync E8 K.D).2 = 0) : goOnK t e K = ⟨K.o, (nxt t (sync E8 K.D).1 e K.h).2.1, (nxt t (sync E8 K.D).1 e K.h).1, K.A, K.s, K.h, (nxt t (sync E8 K.D).1 e K.h).2.2⟩ := by unfold goOnK; rw [if_pos h, if_pos h2]
structure Wrt (ms : List UInt8) (lim : Nat) (e : Int) (D : Dk) (A : Ar) (s : Nat) (h : List UInt8) (ls : List (List Rec)) (G : Gr) : Prop where
 ch : ∃ fs, Ch G.o ms lim e (s : Nat) h ls fs G.h ∧ Fr G.D.now A.pos fs G.A.pos
 pos : G.A.pos = A.pos + secsum ls
 num : G.s = s + ls.flatten.length
 else_ : ∀ i, i < A.pos ∨ G.A.pos ≤ i → G.D.now[i]? = D.now[i]?
 safe : G.D.safe = G.D.now
 waits : G.D.waits = []
structure Gany (ms : List UInt8) (lim : Nat) (e : Int) (o : Ts) (D : Dk) (t : Mt) (A : Ar) (s : Nat) (h : List UInt8) (ls : List (List Rec)) (G : Gr) : Prop where
 done : G.e = 0 ∧ G.t = t.on e G.h ∧ G.D.off = false ∧ Wrt ms lim e D A s h ls G ∨ G.e = 8 ∧ G.D.off = true ∧ (G.t = t ∨ G.t = t.on e G.h ∧ Wrt ms lim e D A s h ls G)
 sub : o.sub G.o
 few : ∀ n, o.few n → G.o.few (n + 6 * ls.flatten.length)
 ok : Ok G.D
 len : G.D.now.length = D.now.length
 top : G.A.top = A.top
 held : ∀ (R : Nat → Prop) (xs : List (List UInt8)), Held D R xs → (∀ i, A.pos ≤ i → i < A.top → ¬ R i) → Held G.D R xs
 calm : D.fuse = 0 → G.e = 0 ∧ G.D.fuse = 0
 h32 : G.h.length = 32
theorem sync_len (d : Dk) (hk : Ok d) : (sync E8 d).1.now.length = d.now.length := by
 unfold sync
 split
 · rfl
 · rename_i h1
   have hd : (act d).1.now = d.now := by rw [act_on d (by simpa using h1)]
   split
   · rw [lose_length _ _ (act_ok d hk), hd]
   · show (act d).1.now.length = _; rw [hd]
theorem nxt_shape (t : Mt) (d : Dk) (e : Int) (r : List UInt8) (hk : Ok d) : Ok (nxt t d e r).2.1 ∧ (nxt t d e r).2.1.now.length = d.now.length := by
 unfold nxt
 split
 · rename_i hw
   have hd : (act d).1.now = d.now := by rw [act_on d (Meter.why_0 hw).1]
   split
   · exact ⟨lose_ok _ _ (act_ok d hk), by rw [lose_length _ _ (act_ok d hk), hd]⟩
   · exact ⟨act_ok d hk, by show (act d).1.now.length = _; rw [hd]⟩
 · exact ⟨hk, rfl⟩
theorem goOn_any (ms : List UInt8) (lim : Nat) (e : Int) (o : Ts) (D : Dk) (t : Mt) (A : Ar) (s : Nat) (h : List UInt8) (ls : List (List Rec)) (P : Pre lim e o D A s h ls) (he : t.epoch ≤ e) (hc : t.count < t.most) :
    Gany ms lim e o D t A s h ls (goOnK t e (keepT ms lim e o D A s h ls)) := by
 have Q := kept_any ms lim e ls o D A s h P
 obtain ⟨K, hK⟩ : ∃ K, K = keepT ms lim e o D A s h ls := ⟨_, rfl⟩
 rw [← hK] at Q ⊢
 clear hK
 rcases Q.done with ⟨q1, q2⟩ | ⟨q1, q2⟩
 · have hsl := sync_len K.D Q.ok
   have hsk := sync_ok E8 K.D Q.ok
   rcases sync_any K.D q2.off with ⟨d2, e2, a1, a2, a3, a4, a5⟩ | ⟨d2, e2, a1⟩
   · have e3 : (sync E8 K.D).2 = 0 := by rw [e2]
     rw [goOnK_yes t e K q1 e3]
     rw [e2] at hsl hsk ⊢
     simp only at hsl hsk ⊢
     have hs2 : d2.safe = d2.now := by rw [a3, a2]
     obtain ⟨t2, d3, z, e4, b1, b2, b3, b4⟩ := next_any_ t d2 e K.h a1 he hc a4 hs2
     have hnk := nxt_shape t d2 e K.h hsk
     have hnh : ∀ (R : Nat → Prop) (xs : List (List UInt8)), Held d2 R xs → Held (nxt t d2 e K.h).2.1 R xs := fun R xs hR => hR.nxt t e K.h
     have hcalm : K.D.fuse = 0 → z = 0 ∧ d3.fuse = 0 := fun hf => by
      have hsf : d2.fuse = 0 := by
       have := sync_yes K.D q2.off hf
       rw [e2] at this
       rw [(Prod.mk.inj this).1]
      have hy : Meter.why t d2.off e = 0 := by rw [a1]; exact Meter.why_no t e (by omega) (by omega)
      have ha : (act d2).2 = false := by rw [act_on d2 a1, hsf]; rfl
      have := Meter.nxt_on (r := K.h) hy ha
      rw [e4] at this
      obtain ⟨_, h3⟩ := Prod.mk.inj this
      obtain ⟨h4, h5⟩ := Prod.mk.inj h3
      exact ⟨h5, by rw [h4, act_on d2 a1, hsf]⟩
     rw [e4] at hnk hnh ⊢
     simp only at hnk hnh ⊢
     have hw : Wrt ms lim e D A s h ls ⟨K.o, d3, t2, K.A, K.s, K.h, z⟩ := by
      obtain ⟨fs, c1, c2⟩ := q2.ch
      exact ⟨⟨fs, c1, by show Fr d3.now _ _ _; rw [b1, a2]; exact c2⟩, q2.pos, q2.num, fun i hi => by show d3.now[i]? = _; rw [b1, a2]; exact q2.else_ i hi, by show d3.safe = d3.now; rw [b2, b1], b3⟩
     refine ⟨?_, Q.sub, Q.few, hnk.1, hnk.2.trans (hsl.trans Q.len), Q.top, fun R xs hR hA => hnh R xs ?_, fun hf => hcalm (Q.calm hf).2, Q.h32⟩
     · rcases b4 with ⟨z0, h1, h2⟩ | ⟨z0, h1, h2⟩
       · exact .inl ⟨z0, h1, h2, hw⟩
       · refine .inr ⟨z0, h2, ?_⟩
         rcases h1 with h1 | h1
         · exact .inr ⟨h1, hw⟩
         · exact .inl h1
     · have := (Q.held R xs hR hA).sync
       rw [e2] at this; exact this
   · have e3 : (sync E8 K.D).2 ≠ 0 := by rw [e2]; exact (by decide : (8 : Int) ≠ 0)
     rw [goOnK_sync t e K q1 e3]
     refine ⟨.inr ⟨by rw [e2], by rw [e2]; exact a1, .inl rfl⟩, Q.sub, Q.few, hsk, hsl.trans Q.len, Q.top, fun R xs hR hA => (Q.held R xs hR hA).sync, fun hf => ?_, Q.h32⟩
     exact absurd (by rw [sync_yes K.D q2.off (Q.calm hf).2]) e3
 · have h0 : K.e ≠ 0 := by rw [q1]; decide
   rw [goOnK_bad t e K h0]
   exact ⟨.inr ⟨q1, q2, .inl rfl⟩, Q.sub, Q.few, Q.ok, Q.len, Q.top, Q.held, fun hf => absurd (Q.calm hf).1 h0, Q.h32⟩
structure Lo where
 A : Ar
 e : Int
 s : Nat
 h : List UInt8
 turned : Bool
 lost : Bool
structure Tr where
 o : Ts
 D : Dk
 t : Mt
 L : Lo
 e : Int
def refT (off lost : Bool) (rs : List Rec) : Int := if off || lost then 8 else if rs = [] then 1 else if rs.all good then 0 else 1
def ofG (L : Lo) (e : Int) (G : Gr) : Tr := ⟨G.o, G.D, G.t, if G.e = 0 then ⟨G.A, e, G.s, G.h, true, L.lost⟩ else if G.e = 8 then { L with lost := true } else L, G.e⟩
def startT (e : Int) : Thing := hashT (stH e)
def tcheck (lim : Nat) (D : Dk) (t : Mt) (rs : List Rec) : Int :=
 if t.most ≤ t.count ∨ 4294967295 ≤ t.epoch ∨ lim < rs.length then 10 else if D.now.length / 2 < secsum (split rs) then 7 else 0
def turnT (ms : List UInt8) (lim : Nat) (o : Ts) (D : Dk) (t : Mt) (L : Lo) (rs : List Rec) : Tr :=
 if refT D.off L.lost rs ≠ 0 then ⟨o, D, t, L, refT D.off L.lost rs⟩
 else if tcheck lim D t rs ≠ 0 then ⟨o, D, t, L, tcheck lim D t rs⟩
 else ofG L (t.epoch + 1) (goOnK t (t.epoch + 1) (keepT ms lim (t.epoch + 1) (o.nx (startT (t.epoch + 1))) D (aHalf D.now.length (odd (t.epoch + 1))) 0 (o.val (startT (t.epoch + 1)) 32) (split rs)))
def ccheck (lim : Nat) (t : Mt) (L : Lo) (rs : List Rec) : Int :=
 if L.turned = false ∨ L.e ≠ t.epoch then 1 else if 16384 < ftot rs then 3 else if t.most ≤ t.count ∨ lim < L.s + rs.length then 10 else if L.A.top - L.A.pos < fsec rs then 7 else 0
def commitT (ms : List UInt8) (lim : Nat) (o : Ts) (D : Dk) (t : Mt) (L : Lo) (rs : List Rec) : Tr :=
 if refT D.off L.lost rs ≠ 0 then ⟨o, D, t, L, refT D.off L.lost rs⟩
 else if ccheck lim t L rs ≠ 0 then ⟨o, D, t, L, ccheck lim t L rs⟩
 else ofG L L.e (goOnK t L.e (keepT ms lim L.e o D L.A L.s L.h [rs]))
theorem refT_cases (off lost : Bool) (rs : List Rec) : refT off lost rs = 8 ∧ (off || lost) = true ∨ refT off lost rs = 1 ∧ (off || lost) = false ∧ ¬ (rs ≠ [] ∧ ∀ r ∈ rs, good r = true) ∨ refT off lost rs = 0 ∧ off = false ∧ lost = false ∧ rs ≠ [] ∧ ∀ r ∈ rs, good r = true := by
 unfold refT
 cases hol : (off || lost) with
 | true => exact .inl ⟨by rw [if_pos rfl], rfl⟩
 | false =>
   rw [if_neg (by decide)]
   by_cases h0 : rs = []
   · exact .inr (.inl ⟨by rw [if_pos h0], rfl, fun h => h.1 h0⟩)
   · rw [if_neg h0]
     cases ha : rs.all good with
     | true =>
       have := Bool.or_eq_false_iff.1 hol
       exact .inr (.inr ⟨by rw [if_pos rfl], this.1, this.2, h0, fun r hr => List.all_eq_true.1 ha r hr⟩)
     | false =>
       refine .inr (.inl ⟨by rw [if_neg (by decide)], rfl, fun h => ?_⟩)
       rw [List.all_eq_true.2 h.2] at ha; cases ha
open Seg (pk pk_shape)
theorem Sm.le_ {D : Dk} {k l m : Nat} (h : Sm D k m) (hl : k ≤ l) : Sm D l m := ⟨by have := h.acts; omega, by have := h.waits; omega, h.fuse, h.keep, h.len⟩
theorem Sm.nxt_ {D : Dk} {k m : Nat} (h : Sm D k m) (hok : Ok D) (t : Mt) (e : Int) (r : List UInt8) : Sm (nxt t D e r).2.1 (k + 1) m := by
 unfold nxt
 split
 · split
   · exact (Sm.act h).lose (act_ok D hok) _
   · exact Sm.act h
 · exact Sm.le_ h (by omega)
theorem adds_sm (n : Nat) : ∀ (s : List UInt8) (d : Dk) (p k m : Nat), s.length = n → Ok d → Sm d k m → Sm (aAdds d p s).1 (k + (secs s).length) m := by
 induction n using Nat.strongRecOn with
 | ind n ih =>
   intro s d p k m hs hk h
   by_cases h0 : s.length = 0
   · rw [aAdds_nil d p s h0]; exact Sm.le_ h (by omega)
   · have hlen : (secs s).length = (secs (s.drop 256)).length + 1 := by rw [secs_go s (by omega)]; simp
     have hw := h.write hk p (s.take 256)
     by_cases h2 : (write E8 d p (s.take 256)).2 = 0
     · rw [aAdds_go d p s (by omega) h2]
       exact Sm.le_ (ih (s.drop 256).length (by simp; omega) (s.drop 256) _ (p + 1) (k + 1) m rfl (write_ok E8 d p _ hk) hw) (by omega)
     · rw [aAdds_stop d p s (by omega) h2]; exact Sm.le_ hw (by omega)
theorem add_sm (d : Dk) (a : Ar) (s : List UInt8) (k m : Nat) (hk : Ok d) (h : Sm d k m) : Sm (aAdd d a s).1 (k + (secs s).length) m := by
 have h1 := adds_sm s.length s d a.pos k m rfl hk h
 have h0 : Sm d (k + (secs s).length) m := Sm.le_ h (by omega)
 unfold aAdd
 split
 · exact h0
 · split
   · exact h0
   · split
     · exact h0
     · split
       · exact h1
       · exact h1
structure Step1 (ms : List UInt8) (lim : Nat) (e : Int) (o : Ts) (D : Dk) (A : Ar) (s : Nat) (h : List UInt8) (l : List Rec) (ls : List (List Rec)) : Prop where
 pk0 : (pk o ms lim e (s : Nat) h l).e = 0
 len : (pk o ms lim e (s : Nat) h l).b.length ≤ 16384
 ne : (pk o ms lim e (s : Nat) h l).b ≠ []
 h32 : (pk o ms lim e (s : Nat) h l).h.length = 32
 few : ∀ n, o.few n → (pk o ms lim e (s : Nat) h l).o.few (n + 6 * l.length)
 sm : ∀ k m, Sm D k m → Sm (aAdd D A (pk o ms lim e (s : Nat) h l).b).1 (k + fsec l) m
 pos : A.pos ≤ A.top ∧ fsec l ≤ A.top - A.pos
 add : (aAdd D A (pk o ms lim e (s : Nat) h l).b).2.2 = 0 ∨ (aAdd D A (pk o ms lim e (s : Nat) h l).b).2.2 = 8
 next : (aAdd D A (pk o ms lim e (s : Nat) h l).b).2.2 = 0 → Pre lim e (pk o ms lim e (s : Nat) h l).o (aAdd D A (pk o ms lim e (s : Nat) h l).b).1 (aAdd D A (pk o ms lim e (s : Nat) h l).b).2.1 (s + l.length) (pk o ms lim e (s : Nat) h l).h ls
theorem step1 {ms : List UInt8} {lim : Nat} {e : Int} {o : Ts} {D : Dk} {A : Ar} {s : Nat} {h : List UInt8} {l : List Rec} {ls : List (List Rec)} (P : Pre lim e o D A s h (l :: ls)) : Step1 ms lim e o D A s h l ls := by
 have hp := P.good l (by simp)
 have hfl : (l :: ls).flatten.length = l.length + ls.flatten.length := by simp
 have hlim := P.lim
 rw [hfl] at hlim
 have h0 := pk_zero o ms h P.ep hp (show s + l.length ≤ lim by omega)
 have k := pkd o ms lim e (s : Nat) h l P.long h0
 have hroom := P.room
 rw [secsum_cons] at hroom
 have htop := P.top
 have hsec : (secs (pk o ms lim e (s : Nat) h l).b).length = fsec l := k.secs
 have hlow := k.lo
 have hsub := pk_sub o ms lim e (s : Nat) h l P.long h0
 have hsh := add_shape D A (pk o ms lim e (s : Nat) h l).b P.ok
 have hlen : 1 ≤ l.length := by have := hp.ne; cases l with
  | nil => exact absurd rfl this
  | cons a b => simp
 have h32 := pk_shape.h32 o ms lim e (s : Nat) h l P.long P.h32
 refine ⟨h0, k.hi, fun e => by rw [e] at hlow; simp at hlow, h32, fun n hn => (pk_few o ms lim e (s : Nat) h l n hn h0).mono (by omega), fun k m hm => by have := add_sm D A (pk o ms lim e (s : Nat) h l).b k m P.ok hm; rw [hsec] at this; exact this, ⟨by omega, by omega⟩, ?_, fun hz => ?_⟩
 · rcases add_any D A (pk o ms lim e (s : Nat) h l).b k.fl (by omega) P.off (by omega) htop with ⟨d2, e2, P2⟩ | ⟨d2, e2, P2⟩
   · exact .inl (by rw [e2])
   · exact .inr (by rw [e2])
 · rcases add_any D A (pk o ms lim e (s : Nat) h l).b k.fl (by omega) P.off (by omega) htop with ⟨d2, e2, P2⟩ | ⟨d2, e2, P2⟩
   · rw [e2] at hsh ⊢
     simp only
     rw [hsec]
     exact ⟨P.ep, P.long.sub hsub, hsh.1, P2.off, by simp only; omega, by simp only; rw [P2.size]; exact htop, fun x hx => P.good x (by simp [hx]), by omega, h32⟩
   · rw [e2] at hz; have hz : (8 : Int) = 0 := hz; exact absurd hz (by decide)
theorem sync_far {D : Dk} {k m : Nat} (h : Sm D k m) (hk : k ≤ 90000) : D.waits.length ≤ 100000 ∧ D.acts ≤ 1000000000000 ∧ D.fuse ≤ 9223372036854775807 ∧ D.keep < 18446744073709551616 := ⟨by have := h.waits; omega, by have := h.acts; omega, h.fuse, h.keep⟩
end Com
end Go.Proofs.YtigdlnfgdjfdoaaGreat
