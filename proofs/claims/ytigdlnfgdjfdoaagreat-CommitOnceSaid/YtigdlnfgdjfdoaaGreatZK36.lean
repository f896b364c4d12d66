/- Lemmas: ComV ComOm. -/
import Derived.Test.YtigdlnfgdjfdoaaGreatZK33
import Derived.Test.YtigdlnfgdjfdoaaGreatZSegU
set_option maxHeartbeats 4000000
set_option maxRecDepth 100000
set_option linter.unusedVariables false
set_option linter.unusedSimpArgs false
namespace Go.Proofs.YtigdlnfgdjfdoaaGreat
namespace Com
open Go Go.RowKit Kit
open Rec (Rec good ftot fsec split split_flat Rrow Sr SrOk recB good_bounds rcells rec_info recs_und rcs_len rcs_one)
open Ideal (Ts Thing hashT Ans Arg)
open Vault (Vc Vt Vx Vq nonce)
open Disk
open Meter (Mt Mk Mb Mz nxt)
open Seg (pk unpack_n)
theorem lcells_h (z : Zf) (a : Nat) (L : Lo) : ∀ j v, (bvs L.h)[j]? = some v → (lcells z a L)[6 + j]? = some v := by
 intro j v hv
 rw [show 6 + j = j + 1 + 1 + 1 + 1 + 1 + 1 by omega]
 show (bvs L.h ++ [.bool L.turned, .bool L.lost])[j]? = some v
 rw [List.getElem?_append_left (List.getElem?_eq_some_iff.1 hv).1]; exact hv
theorem lcells_head (z : Zf) (a : Nat) (L : Lo) (h : List UInt8) (h0 : L.h.length = 32) (hl : h.length = 32) : splice (lcells z a L) 6 (bvs h) = lcells z a { L with h := h } := by
 unfold splice lcells tcells
 simp only [List.cons_append, List.take_succ_cons, List.take_zero, List.nil_append, bvs_length, hl]
 rw [show 6 + 32 = 32 + 1 + 1 + 1 + 1 + 1 + 1 by omega]
 simp only [List.drop_succ_cons]
 rw [List.drop_left' (by rw [bvs_length, h0])]
theorem Ch.uncons {o : Ts} {ms : List UInt8} {lim : Nat} {e s : Int} {at' a : List UInt8} {ls : List (List Rec)} {f : List UInt8} {fs : List (List UInt8)} (h : Ch o ms lim e s at' ls (f :: fs) a) :
    ∃ l ls' p, ls = l :: ls' ∧ p.long ∧ (pk p ms lim e s at' l).e = 0 ∧ f = (pk p ms lim e s at' l).b ∧ (pk p ms lim e s at' l).o.sub o ∧ Ch o ms lim e (s + (l.length : Nat)) (pk p ms lim e s at' l).h ls' fs a := by
 cases h with
 | cons p hl hp hs h => exact ⟨_, _, p, rfl, hl, hp, rfl, hs, h⟩
theorem Ch.unnil {o : Ts} {ms : List UInt8} {lim : Nat} {e s : Int} {at' a : List UInt8} {ls : List (List Rec)} (h : Ch o ms lim e s at' ls [] a) : ls = [] ∧ a = at' := by
 cases h with
 | nil => exact ⟨rfl, rfl⟩
structure Up3 where
 F : Nat → Prop
 P : Nat → Prop
 X : Option Addr
 cX : Nat
structure UpR (wi : World) (c : Vc) (x : Vt) (rs : List Rec) (y : Up3) (w' : World) : Prop where
 q : Vq wi c x w' ⟨y.F, y.P, x.o, x.sl, x.cl⟩
 ok : SrOk w' ⟨y.X, rs.length, y.cX, rs⟩
 new : ∀ i, ab y.X = some i → wi.heap.size ≤ i
theorem UpR.alloc {wi w' : World} {c : Vc} {x : Vt} {rs : List Rec} {y : Up3} (h : UpR wi c x rs y w') (ob : Obj) : UpR wi c x rs y (w'.alloc ob) :=
 ⟨h.q.over0 ((Kp.refl nob w').alloc ob), h.ok.keep ((Kp.refl nob w').alloc ob) (fun i e e2 => e2), h.new⟩
theorem UpR.far {wi w' w2 : World} {c : Vc} {x : Vt} {rs : List Rec} {y : Up3} {g : Nat} (h : UpR wi c x rs y w') (hb : c.b ≤ wi.heap.size) (hg : wi.heap.size ≤ g) (hn : ¬ (y.P g ∨ ab y.X = some g)) (k : Kp (fun i => i = g) w' w2) : UpR wi c x rs y w2 :=
 ⟨h.q.over k (fun i _ e => by have e : i = g := e; subst e; exact ⟨hg, fun e => hn (.inl e)⟩) hb, h.ok.keep k (fun i e e2 => hn (.inr (by have e2 : i = g := e2; rw [← e2]; exact e))), h.new⟩
theorem UpR.lt {wi w' : World} {c : Vc} {x : Vt} {rs : List Rec} {y : Up3} (h : UpR wi c x rs y w') : ∀ i, (y.P i ∨ ab y.X = some i) → i < w'.heap.size := fun i e => e.elim (fun e => h.q.now.lt i e) (fun e => h.ok.lt i e)
theorem unpack_step {wi : World} {c : Vc} {x : Vt} {p : Ts} {e : Int} {s : Nat} {at' : List UInt8} {A : Option Addr} {n d : Nat} {b : List UInt8} {rs : List Rec} (hx : Vx wi c x) (h32 : at'.length = 32) (h0 : (pk p c.ms c.lim e (s : Nat) at' rs).e = 0) (hb : b = (pk p c.ms c.lim e (s : Nat) at' rs).b) (hs : (pk p c.ms c.lim e (s : Nat) at' rs).o.sub x.o) (ha : Arg wi x.P A n d b)
    (he : 0 ≤ e ∧ e < 4294967296) (hs2 : (s : Int) ≤ 9223372036854775807) (hlim : c.lim ≤ 9223372036854775807) (hf : x.o.few 85000) (hlo : x.o.long) (nh : List UInt8) (hnh : nh = (pk p c.ms c.lim e (s : Nat) at' rs).h) (hn32 : nh.length = 32) (w1 : World) (k : Kp nob wi w1) :
    Calls Tryz.prog 76 #[.pointer (some ⟨c.v, 0, none⟩), .int .i64 e, .int .i64 (s : Int), .agg (bvs at').toArray, .slice A n d] w1 fun r w' => ∃ y : Up3, r = .returned (.tuple #[.slice y.X rs.length y.cX, .agg (bvs nh).toArray, .int .i64 0]) ∧ nh.length = 32 ∧ UpR wi c x rs y w' ∧ (∀ i, (y.P i ∨ ab y.X = some i) → x.P i ∨ w1.heap.size ≤ i) ∧ Kp x.P w1 w' := by
 have hc := unpack_n c x p e (s : Nat) at' A n d b rs w1 (hx.keep0 k) h32 h0 hb hs (ha.keep0 k) (by omega) (by omega) hlim hf hlo
 rw [← hnh] at hc
 refine hc.mono ?_
 rintro r w' ⟨F2, P2, X, cX, rfl, hq, hok, hnw⟩
 refine ⟨⟨F2, P2, X, cX⟩, rfl, hn32, ⟨hq.back k, hok, fun i e => Nat.le_trans k.size (hnw i e)⟩, fun i e => ?_, hq.kp⟩
 rcases e with e | e
 · exact hq.P i e
 · exact .inr (hnw i e)
structure RdL (w wb : World) (z : Zf) (v : Zv) (D : Dk) (t : Mt) (B : Nat → Prop) (l a hb : Nat) (root : List UInt8) (E : Int) (top : Nat) (ls : List (List Rec)) (fs : List (List UInt8)) (q : Nat) (h0 : List UInt8) (i : Nat) (wr : World) (v2 : Zv) (A2 : Ar) (s2 : Nat) (h2 : List UInt8) (Z : Option Addr) (cz : Nat) : Prop where
 b : Pb w wr z v2 D t (fun j => B j ∨ j = l ∨ j = a)
 sub : ∀ j, own z v2 j → own z v j ∨ wb.heap.size ≤ j
 k : Kp (fun j => own z v j ∨ j = l ∨ j = a) wb wr
 lg : LgAt wr z l a ⟨A2, E, s2, h2, false, false⟩
 ar : IsA wr a z.g A2
 hd : Blk wr hb 47 (bvs root)
 o_ : v2.x.o = v.x.o
 cl : v2.x.cl = v.x.cl
 sl : v2.x.sl = v.x.sl
 chd : Ch v.x.o z.c.ms z.c.lim E (s2 : Nat) h2 (ls.drop i) (fs.drop i) root
 frd : Fr D.now A2.pos (fs.drop i) q
 top : A2.top = top
 hs : Hs v.x.o h0 (fs.take i) h2
 num : s2 = (ls.take i).flatten.length
 all : OwnK 6 67 wr Z s2 cz ((ls.take i).flatten.flatMap rcells)
 zf : ∀ j, ab Z = some j → wb.heap.size ≤ j ∧ ¬ own z v2 j ∧ j ≠ hb
 hbf : ¬ own z v2 hb
theorem RdL.keep0 {w wb : World} {z : Zf} {v : Zv} {D : Dk} {t : Mt} {B : Nat → Prop} {l a hb : Nat} {root : List UInt8} {E : Int} {top : Nat} {ls : List (List Rec)} {fs : List (List UInt8)} {q : Nat} {h0 : List UInt8} {i : Nat} {wr we : World} {v2 : Zv} {A2 : Ar} {s2 : Nat} {h2 : List UInt8} {Z : Option Addr} {cz : Nat}
    (h : RdL w wb z v D t B l a hb root E top ls fs q h0 i wr v2 A2 s2 h2 Z cz) (k : Kp nob wr we) : RdL w wb z v D t B l a hb root E top ls fs q h0 i we v2 A2 s2 h2 Z cz :=
 ⟨h.b.keep0 k, h.sub, h.k.trans k (fun _ e => e.elim), h.lg.keep k (fun e => e), areaP.keep h.ar k (fun e => e), h.hd.keep k (fun e => e), h.o_, h.cl, h.sl, h.chd, h.frd, h.top, h.hs, h.num, h.all.keep k (fun _ _ e => e), h.zf, h.hbf⟩
theorem Pb.sideX {w wr w2 : World} {z : Zf} {v : Zv} {D : Dk} {t : Mt} {B F : Nat → Prop} (h : Pb w wr z v D t B) (k : Kp F wr w2) (hF : ∀ j, F j → B j ∨ wr.heap.size ≤ j ∨ (w.heap.size ≤ j ∧ ¬ own z v j)) : Pb w w2 z v D t B := by
 have h' : Pb w wr z v D t (fun j => B j ∨ (w.heap.size ≤ j ∧ j < wr.heap.size ∧ ¬ own z v j)) := ⟨h.vx, h.dream, h.cd, h.me, h.kp, h.new, h.vd, h.dm, fun j e => e.elim (h.be j) id⟩
 refine (h'.side k (fun j e => ?_)).less (fun j e => .inl e)
 rcases hF j e with e | e | ⟨e1, e2⟩
 · exact .inl (.inl e)
 · exact .inr e
 · by_cases hlt : j < wr.heap.size
   · exact .inl (.inr ⟨e1, hlt, e2⟩)
   · exact .inr (by omega)
theorem drop_cons_ {α : Type} {xs : List α} {i : Nat} {x : α} {r : List α} (h : xs.drop i = x :: r) : xs.drop (i + 1) = r ∧ xs.take (i + 1) = xs.take i ++ [x] := by
 have hlt : i < xs.length := by
  rcases Nat.lt_or_ge i xs.length with h1 | h1
  · exact h1
  · rw [List.drop_of_length_le h1] at h; cases h
 rw [List.drop_eq_getElem_cons hlt] at h
 injection h with h1 h2
 exact ⟨h2, by rw [← h1]; simp⟩
structure RdP (w wb : World) (z : Zf) (v : Zv) (D : Dk) (t : Mt) (B : Nat → Prop) (l a : Nat) (root : List UInt8) (E : Int) (top : Nat) (rs : List Rec) (q : Nat) (w2 : World) (v2 : Zv) (Z : Option Addr) (cz : Nat) : Prop where
 b : Pb w w2 z v2 D t (fun j => B j ∨ j = l ∨ j = a)
 sub : ∀ j, own z v2 j → own z v j ∨ wb.heap.size ≤ j
 k : Kp (fun j => own z v j ∨ j = l ∨ j = a) wb w2
 lg : LgAt w2 z l a ⟨⟨top, q⟩, E, rs.length, root, false, false⟩
 ar : IsA w2 a z.g ⟨top, q⟩
 o_ : v2.x.o = v.x.o
 cl : v2.x.cl = v.x.cl
 sl : v2.x.sl = v.x.sl
 row : Rrow w2 Z rs
 zf : ∀ j, ab Z = some j → wb.heap.size ≤ j ∧ ¬ own z v2 j ∧ j < w2.heap.size
 cap : rs.length ≤ cz ∧ cz ≤ maxLen ∧ (Z = none → cz = 0)
theorem readTo_c {w wb : World} {z : Zf} {v : Zv} {D : Dk} {t : Mt} {B : Nat → Prop} (l a : Nat) (A : Ar) (root hz : List UInt8) (E : Int) (ls : List (List Rec)) (fs : List (List UInt8)) (q : Nat) (ts : List Thing)
    (hb : Pb w wb z v D t (fun j => B j ∨ j = l ∨ j = a)) (hlg : LgAt wb z l a ⟨A, E, 0, hz, false, false⟩) (har : IsA wb a z.g A) (hla : l ≠ a) (hoff : D.off = false) (hE : 0 ≤ E ∧ E < 4294967296) (ho : v.x.o = .dream ts) (hep : hashT (stH E) ∈ ts) (hch : Ch v.x.o z.c.ms z.c.lim E 0 (v.x.o.val (startT E) 32) ls fs root) (hfr : Fr D.now A.pos fs q) (hq : q ≤ A.top) (htop : A.top ≤ D.now.length) (hr32 : root.length = 32)
    (hf : v.x.o.few 85000) (hlim : z.c.lim ≤ 9223372036854775807) (hbd : ls.flatten.length ≤ 1000) :
    Calls Tryz.prog 56 #[.pointer (some ⟨l, 0, none⟩), .agg (bvs root).toArray] wb fun r w' => ∃ (v2 : Zv) (Z : Option Addr) (cz : Nat), r = .returned (.tuple #[.slice Z ls.flatten.length cz, .int .i64 0]) ∧ RdP w wb z v D t B l a root E A.top ls.flatten q w' v2 Z cz := by
 obtain ⟨h0, hh0⟩ : ∃ h0, h0 = v.x.o.val (startT E) 32 := ⟨_, rfl⟩
 obtain ⟨hb0, hbe⟩ : ∃ x, x = wb.heap.size := ⟨_, rfl⟩
 obtain ⟨w1, hw1⟩ : ∃ w1, w1 = wb.alloc (.cells (bvs root).toArray 47) := ⟨_, rfl⟩
 have k1 : Kp nob wb w1 := by rw [hw1]; exact (Kp.refl nob wb).alloc _
 have hB1 : Blk w1 hb0 47 (bvs root) := by rw [hw1, hbe]; exact Blk.new wb _ _
 have hs1 : w1.heap.size = hb0 + 1 := by rw [hw1, hbe]; simp
 have hfw : ts.length < 1000000 := by rw [ho] at hf; have : ts.length ≤ 85000 := hf; omega
 have hst := fun w' (k : Kp nob w1 w') => Seg.start_c z.c v.x E w' ((hb.vx.keep0 k1).keep0 k) (hf.mono (by omega)) (dream_long hb.dream)
 rw [show v.x.o.val (hashT (Seg.stN E)) 32 = h0 from hh0.symm] at hst
 have HST := Lib.hid hst
 have h032 : h0.length = 32 := by rw [hh0, ho]; exact Ideal.out_length _ _ _ (by decide)
 rw [← hh0] at hch
 have hsame : v.x.o.nx (hashT (Seg.stN E)) = v.x.o := by rw [ho]; exact congrArg Ts.dream (Ideal.mk_old ts _ hep)
 have hlen := hch.lengths
 have hhs : Hs v.x.o h0 fs root := by have := hch.hs (Hs.nil (o := v.x.o) (h0 := h0)); simpa using this
 have HB := Lib.hid (hb.keep0 k1)
 have HLG1 := Lib.hid (hlg.keep k1 (fun e => e))
 have HAR1 := Lib.hid (areaP.keep har k1 (fun e => e))
 have HNL : Hid (¬ own z v l ∧ ¬ own z v a ∧ ¬ own z v hb0) := Lib.hid ⟨(hb.be l (.inr (.inl rfl))).2.2, (hb.be a (.inr (.inr rfl))).2.2, hb.far (by omega)⟩
 have HB1 := Lib.hid hB1
 have HK1 := Lib.hid k1
 have HLA := Lib.hid (show l ≠ a ∧ l < hb0 ∧ a < hb0 from ⟨hla, by rw [hbe]; exact hlg.b.lt, by rw [hbe]; exact Blk.lt har⟩)
 have HRT := Lib.hid hr32
 have HC := Lib.hid (And.intro hch (And.intro hfr (And.intro hhs hlen)))
 have HQ := Lib.hid (And.intro hq (And.intro htop hoff))
 have HBD := Lib.hid (And.intro hf (And.intro hlim (And.intro hbd hE)))
 have HH0 := Lib.hid (And.intro hh0 (And.intro h032 hsame))
 have HTS := Lib.hid (And.intro ho (And.intro hep hfw))
 have HWS := Lib.hid (And.intro hbe (And.intro hs1 hb.kp.size))
 clear hb hlg har hla hoff hE ho hep hch hfr hq htop hr32 hf hlim hbd hh0 k1 hB1 hs1 hfw hst h032 hsame hlen hhs
 go_enter Tryz.func56, Tryz.ntmps56
 go_wp2
 rw [← hw1, ← hbe]
 clear hw1 hbe
 have hlc : LgAt w1.drew z l a ⟨A, E, 0, hz, false, false⟩ := HLG1.out.keep (Kp.refl nob w1).drew (fun e => e)
 refine reg_begin (fun w' => w'.cell? ⟨l, 0, none⟩ = some (.pointer (some ⟨z.c.v, 0, none⟩)) ∧ w'.cell? ⟨l, 4, none⟩ = some (.int .i64 E)) (by kernel_rfl) ⟨hlc.cells.1, hlc.cells.2.2.2.2.1⟩ (fun HS => ?_)
 refine reg_tk (v := .pointer (some ⟨l, 0, none⟩)) 0 11 rfl rfl (by kernel_rfl) (by rfl) HS (fun w' hw => by go_simp) ?_; simp only [Act.put, zp1, zp2, zp3]
 refine reg_tk (v := .pointer (some ⟨l, 0, none⟩)) 1 12 rfl rfl (by kernel_rfl) (by rfl) HS (fun w' hw => by go_simp) ?_; simp only [Act.put, zp1, zp2, zp3]
 refine reg_tk (v := .pointer (some ⟨l, 0, none⟩)) 2 13 rfl rfl (by kernel_rfl) (by rfl) HS (fun w' hw => by go_simp) ?_; simp only [Act.put, zp1, zp2, zp3]
 refine reg_tk (v := .pointer (some ⟨l, 0, none⟩)) 3 14 rfl rfl (by kernel_rfl) (by rfl) HS (fun w' hw => by go_simp) ?_; simp only [Act.put, zp1, zp2, zp3]
 refine reg_tk (v := .pointer (some ⟨z.c.v, 0, none⟩)) 4 15 rfl rfl (by kernel_rfl) (by rfl) HS (fun w' hw => by have c := hw.1; go_simp) ?_; simp only [Act.put, zp1, zp2, zp3]
 refine reg_tk (v := .pointer (some ⟨l, 0, none⟩)) 5 16 rfl rfl (by kernel_rfl) (by rfl) HS (fun w' hw => by go_simp) ?_; simp only [Act.put, zp1, zp2, zp3]
 refine reg_tk (v := .pointer (some ⟨l, 0, none⟩)) 6 17 rfl rfl (by kernel_rfl) (by rfl) HS (fun w' hw => by go_simp) ?_; simp only [Act.put, zp1, zp2, zp3]
 refine reg_tk (v := .pointer (some ⟨l, 3, none⟩)) 7 18 rfl rfl (by kernel_rfl) (by rfl) HS (fun w' hw => by go_simp) ?_; simp only [Act.put, zp1, zp2, zp3]
 refine reg_tk (v := .pointer (some ⟨l, 4, none⟩)) 8 19 rfl rfl (by kernel_rfl) (by rfl) HS (fun w' hw => by go_simp) ?_; simp only [Act.put, zp1, zp2, zp3]
 refine reg_tk (v := .int .i64 E) 9 20 rfl rfl (by kernel_rfl) (by rfl) HS (fun w' hw => by have c := hw.2; go_simp) ?_; simp only [Act.put, zp1, zp2, zp3]
 refine reg_call 10 (some 21) rfl rfl (by kernel_rfl) (by rfl) _ _ (exec_func 49 _ _ [.pointer (some ⟨z.c.v, 0, none⟩), .int .i64 E] rfl (by kernel_rfl) rfl) ?_
 refine (HST.out _ ((Kp.refl nob w1).drew)).mono ?_
 rintro r w2 ⟨F2, P2, rfl, hq2⟩
 have HQ2 := Lib.hid hq2
 have hpq := (HB.out.keep0 ((Kp.refl nob w1).drew)).vault hq2 (sub_dream (Ts.sub_nx _ _) HB.out.dream)
 have hlg2 := hlc.keep hpq.k HNL.out.1
 have hS2 : w2.cell? ⟨l, 0, none⟩ = some (.pointer (some ⟨z.c.v, 0, none⟩)) ∧ w2.cell? ⟨l, 4, none⟩ = some (.int .i64 E) := ⟨hlg2.cells.1, hlg2.cells.2.2.2.2.1⟩
 refine ⟨_, rfl, hS2, fun _ => ?_⟩
 simp only [Act.put, zp1, zp2, zp3]
 refine reg_tk (v := .pointer (some ⟨l, 0, none⟩)) 11 22 rfl rfl (by kernel_rfl) (by rfl) hS2 (fun w' hw => by go_simp) ?_; simp only [Act.put, zp1, zp2, zp3]
 refine reg_tk (v := .pointer (some ⟨l, 3, none⟩)) 12 23 rfl rfl (by kernel_rfl) (by rfl) hS2 (fun w' hw => by go_simp) ?_; simp only [Act.put, zp1, zp2, zp3]
 refine reg_tk (v := .pointer (some ⟨l, 6, none⟩)) 13 24 rfl rfl (by kernel_rfl) (by rfl) hS2 (fun w' hw => by go_simp) ?_; simp only [Act.put, zp1, zp2, zp3]
 refine reg_storeIn 14 none 47 (.tmp 24) (.tmp 21) rfl rfl rfl (by kernel_rfl) (by rfl) l 6 106 _ (bvs h0) hlg2.b rfl rfl (by rw [lcells_length _ _ _ hlg2.h32, bvs_length, HH0.out.2.1]; omega) (arr_size h0 HH0.out.2.1) (bvs_one _) ?_
 intro w3 hb3 k3 hs3
 rw [lcells_head z a _ h0 hlg2.h32 HH0.out.2.1] at hb3
 have hlg3 : LgAt w3 z l a ⟨A, E, 0, h0, false, false⟩ := ⟨hb3, HH0.out.2.1⟩
 refine ⟨⟨hlg3.cells.1, hlg3.cells.2.2.2.2.1⟩, fun _ => ?_⟩
 simp only [Act.put, zp1, zp2, zp3]
 refine reg_end (by kernel_rfl) ?_
 have hno := HNL.out
 have hla := HLA.out
 have hns : ∀ j, j < hb0 + 1 → ¬ own z v j → ¬ own z ⟨⟨F2, P2, v.x.o.nx (hashT (Seg.stN E)), v.x.sl, v.x.cl⟩, v.W, v.cW⟩ j := fun j h1 h2 e => (hpq.sub j e).elim h2 (fun e => by have h3 : w1.drew.heap.size = w1.heap.size := rfl; have := HWS.out.2.1; omega)
 have HIN : Hid (RdL w wb z v D t B l a hb0 root E A.top ls fs q h0 0 w3 ⟨⟨F2, P2, v.x.o.nx (hashT (Seg.stN E)), v.x.sl, v.x.cl⟩, v.W, v.cW⟩ A 0 h0 none 0) := Lib.hid ⟨hpq.b.side k3 (fun j e => .inl (.inr (.inl e))), fun j e => (hpq.sub j e).imp id (fun e => by have h3 : w1.drew.heap.size = w1.heap.size := rfl; have h4 := HWS.out; omega),
  (((HK1.out.nob _).trans ((Kp.refl nob w1).drew.nob _) (fun i e => .inl e)).trans hpq.k (fun i e => .inl (.inl e))).trans k3 (fun i e => .inl (.inr (.inl e))), hlg3, areaP.keep (areaP.keep HAR1.out (Kp.refl nob w1).drew (fun e => e)) hpq.k hno.2.1 |> fun h => areaP.keep h k3 (fun e => hla.1 e.symm), (HB1.out.keep (Kp.refl nob w1).drew (fun e => e)).keep hpq.k hno.2.2 |> fun h => h.keep k3 (fun e => by have e : hb0 = l := e; omega),
  HH0.out.2.2, rfl, rfl, HC.out.1, HC.out.2.1, rfl, .nil, rfl, OwnK.nil 6 _ _, fun j e => (by cases e), hns hb0 (by omega) hno.2.2⟩
 clear hb3 k3 hs3 hlg3 hlg2 hlc hpq hq2 HS hS2 hno hla hns HST
 go_wp2
 go_loopw [6] (fun all wr => ∃ (i : Nat) (v2 : Zv) (A2 : Ar) (s2 : Nat) (h2 : List UInt8) (Z : Option Addr) (cz : Nat), all = .slice Z s2 cz ∧ RdL w wb z v D t B l a hb0 root E A.top ls fs q h0 i wr v2 A2 s2 h2 Z cz)
  (fun all _ => ls.flatten.length - Seg.slLen all)
 case atStart => exact ⟨0, _, A, 0, h0, none, 0, rfl, HIN.out⟩
 case round =>
  clear HIN
  obtain ⟨i, v2, A2, s2, h2, Z, cz, rfl, hrd⟩ := hrel
  have HRD := Lib.hid hrd
  clear hrd
  obtain ⟨hb, hhb⟩ : ∃ x, x = hb0 := ⟨_, rfl⟩
  rw [← hhb] at HRD ⊢
  have HHB := Lib.hid hhb
  clear hhb
  go_wp2
  refine reg_begin (fun w' => Kp nob wr w') (by kernel_rfl) ((Kp.refl nob wr).drew) (fun HS => ?_)
  refine reg_tk (v := .pointer (some ⟨l, 0, none⟩)) 0 25 rfl rfl (by kernel_rfl) (by rfl) HS (fun w' hw => by go_simp) ?_; simp only [Act.put, zp1, zp2, zp3]
  refine reg_tk (v := .pointer (some ⟨l, 0, none⟩)) 1 26 rfl rfl (by kernel_rfl) (by rfl) HS (fun w' hw => by go_simp) ?_; simp only [Act.put, zp1, zp2, zp3]
  refine reg_tk (v := .pointer (some ⟨l, 3, none⟩)) 2 27 rfl rfl (by kernel_rfl) (by rfl) HS (fun w' hw => by go_simp) ?_; simp only [Act.put, zp1, zp2, zp3]
  refine reg_tk (v := .pointer (some ⟨l, 6, none⟩)) 3 28 rfl rfl (by kernel_rfl) (by rfl) HS (fun w' hw => by go_simp) ?_; simp only [Act.put, zp1, zp2, zp3]
  refine reg_load 4 (some 29) 47 (.tmp 28) rfl rfl rfl (by kernel_rfl) (by kernel_rfl) (by kernel_rfl) (by rfl) HS l 6 rfl (bvs h2) _ (fun w' hw => (HRD.out.lg.b.keep hw (fun e => e)).part 6 (bvs h2) (lcells_h z a ⟨A2, E, s2, h2, false, false⟩)) arr_under rfl (arr_size h2 HRD.out.lg.h32) ?_; simp only [Act.put, zp1, zp2, zp3]
  refine reg_load 5 (some 30) 47 (.tmp 3) rfl rfl rfl (by kernel_rfl) (by kernel_rfl) (by kernel_rfl) (by rfl) HS hb 0 rfl (bvs root) _ (fun w' hw => (HRD.out.hd.keep hw (fun e => e)).range) arr_under rfl (arr_size root HRT.out) ?_; simp only [Act.put, zp1, zp2, zp3]
  refine reg_tk (v := .bool (!decide (h2 = root))) 6 31 rfl rfl (by kernel_rfl) (by rfl) HS (fun w' hw => Seg.exec_ne32U (.tmp 29) (.tmp 30) _ h2 root HRD.out.lg.h32 HRT.out rfl rfl rfl) ?_; simp only [Act.put, zp1, zp2, zp3]
  refine reg_end (by kernel_rfl) ?_
  have HRE := Lib.hid (HRD.out.keep0 ((Kp.refl nob wr).drew))
  clear HS
  generalize wr.drew = we at HRE ⊢
  clear HRD
  by_cases hdone : h2 = root
  · have hall : fs.drop i = [] := by
      have h1 := HRE.out.hs
      have h3 := HC.out.2.2.1
      have h4 := HH0.out.1
      rw [HTS.out.1] at h1 h3 h4
      have h5 := Hs.one HTS.out.2.2 (stH_length E) HTS.out.2.1 h4 h3 h1 hdone.symm
      have h6 := congrArg List.length h5
      rw [List.length_take] at h6
      exact List.drop_of_length_le (by omega)
    have hch := HRE.out.chd
    have hfr := HRE.out.frd
    rw [hall] at hch hfr
    have hl0 := hch.unnil.1
    have hlt : ls.take i = ls := by have := List.take_append_drop i ls; rw [hl0, List.append_nil] at this; exact this
    have hpos : A2.pos = q := by cases hfr; rfl
    have hA2 : A2 = ⟨A.top, q⟩ := by rw [← HRE.out.top, ← hpos]
    have HEN := Lib.hid (And.intro hlt hA2)
    have HHD := Lib.hid hdone
    have hdb : decide (h2 = root) = true := decide_eq_true hdone
    rw [hdb]
    simp only [Bool.not_true]
    clear hall hch hfr hl0 hlt hpos hA2 hdone
    go_wp2
    go_ret2
    have hre := HRE.out
    have hnum := hre.num
    have hal := hre.all
    have hlg := hre.lg
    have har := hre.ar
    rw [HEN.out.1] at hnum hal
    rw [HEN.out.2] at hlg har
    rw [HHD.out, hnum] at hlg
    refine ⟨v2, Z, cz, by rw [hnum]; rfl, ⟨hre.b, hre.sub, hre.k, hlg, har, hre.o_, hre.cl, hre.sl, hal.row, fun j e => ⟨(hre.zf j e).1, (hre.zf j e).2.1, hal.lt j e⟩, by rw [← hnum]; exact hal.cap.1, hal.cap.2, hal.none_⟩⟩
  · have hfe : ∃ f0 fs', fs.drop i = f0 :: fs' := by
      cases hfd : fs.drop i with
      | nil =>
        exfalso
        have h1 := HRE.out.chd
        rw [hfd] at h1
        exact hdone h1.unnil.2.symm
      | cons f0 fs' => exact ⟨_, _, rfl⟩
    obtain ⟨f0, fs', hfd⟩ := hfe
    have hch := HRE.out.chd
    have hfr := HRE.out.frd
    rw [hfd] at hch hfr
    obtain ⟨l0, ls', p, hld, hpl, hp0, hf0, hps, hch2⟩ := hch.uncons
    have hql := hfr.le
    obtain ⟨hnx, hfr2⟩ := read_on (top := A2.top) HQ.out.2.2 hfr (by rw [HRE.out.top]; exact HQ.out.1)
    have hpk := pkd p z.c.ms z.c.lim E (s2 : Nat) h2 l0 hpl hp0
    obtain ⟨nh, hnh⟩ : ∃ nh, nh = (pk p z.c.ms z.c.lim E (s2 : Nat) h2 l0).h := ⟨_, rfl⟩
    obtain ⟨hdf, htf⟩ := drop_cons_ hfd
    obtain ⟨hdl, htl⟩ := drop_cons_ hld
    have hlo : v2.x.o.long := dream_long HRE.out.b.dream
    have hlo' : v.x.o.long := by rw [← HRE.out.o_]; exact hlo
    have hhs : Hs v.x.o h0 (fs.take (i + 1)) nh := by
     have k := hpk
     obtain ⟨k1, k2, k3⟩ := k.has
     have g2 := HRE.out.hs.snoc k.lo (k1.sub hps)
     rw [k1.val hps 32, k2] at g2
     rw [htf, hnh, hf0]
     exact g2
    have hn32 : nh.length = 32 := hhs.len hlo' HH0.out.2.1
    have hbd := HBD.out
    have hftl := flat_take_le ls (i + 1)
    have hfl : (ls.take (i + 1)).flatten = (ls.take i).flatten ++ l0 := by rw [htl]; simp
    have hfn : (ls.take (i + 1)).flatten.length = s2 + l0.length := by rw [hfl, List.length_append, HRE.out.num]
    have hs2 : (s2 : Int) ≤ 9223372036854775807 := by omega
    have hl0 : 0 < l0.length := List.length_pos_iff.2 hpk.ne
    obtain ⟨A4, hA4⟩ : ∃ A4 : Ar, A4 = ⟨A2.top, A2.pos + (secs f0).length⟩ := ⟨_, rfl⟩
    have hnx' : aNext D A2 = (A4, f0, 0) := by rw [hA4]; exact hnx
    have hnc := next_c D z.g z.N z.S v2.W v2.cW a A2 we HRE.out.b.cd HRE.out.ar (fun e => (HRE.out.b.be a (.inr (.inr rfl))).2.2 (.inr (.inl e))) (by rw [HRE.out.top]; exact Nat.le_trans hql HQ.out.1) (by rw [HRE.out.top]; exact HQ.out.2.1)
    rw [hnx'] at hnc
    have HNC := Lib.hid hnc
    have HN := Lib.hid (And.intro hnh (And.intro hn32 hhs))
    have HPK := Lib.hid (And.intro hp0 (And.intro hf0 (And.intro hps hpl)))
    have HCH := Lib.hid hch2
    have HFR := Lib.hid hfr2
    have HDF := Lib.hid (And.intro hdf (And.intro hdl (And.intro hfl hfn)))
    have HL0 := Lib.hid (And.intro hl0 (And.intro hftl hs2))
    have HLO := Lib.hid hlo
    have HA4 := Lib.hid hA4
    have hdb : decide (h2 = root) = false := decide_eq_false hdone
    rw [hdb]
    simp only [Bool.not_false]
    have c3 : we.cell? ⟨l, 3, none⟩ = some (.pointer (some ⟨a, 0, none⟩)) := HRE.out.lg.cells.2.2.2.1
    clear hdone hch hfr hld hpl hp0 hf0 hps hch2 hql hnx hfr2 hpk hnh hdf htf hdl htl hlo hlo' hhs hn32 hbd hftl hfl hfn hs2 hl0 hnx' hnc hfd hA4
    go_wp2_with fail
    refine HNC.out.mono ?_
    rintro r w4 ⟨Y, cY, rfl, hrow, hcap, hmx, hnil, hnew, k4, har4⟩
    have hla := HLA.out
    have hws := HWS.out
    have HLG4 := Lib.hid (HRE.out.lg.keep k4 (fun e => hla.1 e))
    have HB4 := Lib.hid (HRE.out.b.side k4 (fun j e => .inl (.inr (.inr e))))
    have HHD4 := Lib.hid (HRE.out.hd.keep k4 (fun e => by have e : hb = a := e; have := HHB.out; omega))
    have HAL4 := Lib.hid (HRE.out.all.keep k4 (fun j e e2 => by have e2 : j = a := e2; have := (HRE.out.zf j e).1; omega))
    have HK4 := Lib.hid k4
    have HAR4 := Lib.hid har4
    have hez := HRE.out.k.size
    have HSZ4 : Hid (wb.heap.size ≤ w4.heap.size) := Lib.hid (Nat.le_trans hez k4.size)
    have hno : ¬ own z v2 l ∧ ¬ own z v2 a := ⟨(HRE.out.b.be l (.inr (.inl rfl))).2.2, (HRE.out.b.be a (.inr (.inr rfl))).2.2⟩
    have HNO := Lib.hid hno
    have HNP : Hid (¬ v2.x.P l) := Lib.hid (fun e => hno.1 (.inl e))
    have HUC := Lib.hid (fun w1 (k : Kp nob w4 w1) => unpack_step HB4.out.vx HLG4.out.h32 HPK.out.1 HPK.out.2.1 (by rw [HRE.out.o_]; exact HPK.out.2.2.1) (⟨rfl, hrow, .inr (fun i e e2 => by have h1 := hnew i e; have h2 := HRE.out.b.vx.lt i e2; omega), hcap, hmx, hnil⟩ : Arg w4 v2.x.P Y f0.length cY f0) HBD.out.2.2.2 HL0.out.2.2 HBD.out.2.1 (by rw [HRE.out.o_]; exact HBD.out.1) HLO.out nh HN.out.1 HN.out.2.1 w1 k)
    clear hrow hcap hmx hnil hnew k4 har4 hla hws hno hez c3 HNC hdb
    go_wp2
    refine reg_begin (fun w' => Kp v2.x.P w4 w') (by kernel_rfl) ((Kp.refl v2.x.P w4).drew) (fun HS => ?_)
    refine reg_tk (v := .pointer (some ⟨l, 0, none⟩)) 0 45 rfl rfl (by kernel_rfl) (by rfl) HS (fun w' hw => by go_simp) ?_; simp only [Act.put, zp1, zp2, zp3]
    refine reg_tk (v := .pointer (some ⟨l, 0, none⟩)) 1 46 rfl rfl (by kernel_rfl) (by rfl) HS (fun w' hw => by go_simp) ?_; simp only [Act.put, zp1, zp2, zp3]
    refine reg_tk (v := .pointer (some ⟨l, 0, none⟩)) 2 47 rfl rfl (by kernel_rfl) (by rfl) HS (fun w' hw => by go_simp) ?_; simp only [Act.put, zp1, zp2, zp3]
    refine reg_tk (v := .pointer (some ⟨z.c.v, 0, none⟩)) 3 48 rfl rfl (by kernel_rfl) (by rfl) HS (fun w' hw => by have c := (HLG4.out.keep hw HNP.out).cells.1; go_simp) ?_; simp only [Act.put, zp1, zp2, zp3]
    refine reg_tk (v := .pointer (some ⟨l, 0, none⟩)) 4 49 rfl rfl (by kernel_rfl) (by rfl) HS (fun w' hw => by go_simp) ?_; simp only [Act.put, zp1, zp2, zp3]
    refine reg_tk (v := .pointer (some ⟨l, 0, none⟩)) 5 50 rfl rfl (by kernel_rfl) (by rfl) HS (fun w' hw => by go_simp) ?_; simp only [Act.put, zp1, zp2, zp3]
    refine reg_tk (v := .pointer (some ⟨l, 3, none⟩)) 6 51 rfl rfl (by kernel_rfl) (by rfl) HS (fun w' hw => by go_simp) ?_; simp only [Act.put, zp1, zp2, zp3]
    refine reg_tk (v := .pointer (some ⟨l, 4, none⟩)) 7 52 rfl rfl (by kernel_rfl) (by rfl) HS (fun w' hw => by go_simp) ?_; simp only [Act.put, zp1, zp2, zp3]
    refine reg_tk (v := .int .i64 E) 8 53 rfl rfl (by kernel_rfl) (by rfl) HS (fun w' hw => by have c := (HLG4.out.keep hw HNP.out).cells.2.2.2.2.1; go_simp) ?_; simp only [Act.put, zp1, zp2, zp3]
    refine reg_tk (v := .pointer (some ⟨l, 0, none⟩)) 9 54 rfl rfl (by kernel_rfl) (by rfl) HS (fun w' hw => by go_simp) ?_; simp only [Act.put, zp1, zp2, zp3]
    refine reg_tk (v := .pointer (some ⟨l, 0, none⟩)) 10 55 rfl rfl (by kernel_rfl) (by rfl) HS (fun w' hw => by go_simp) ?_; simp only [Act.put, zp1, zp2, zp3]
    refine reg_tk (v := .pointer (some ⟨l, 3, none⟩)) 11 56 rfl rfl (by kernel_rfl) (by rfl) HS (fun w' hw => by go_simp) ?_; simp only [Act.put, zp1, zp2, zp3]
    refine reg_tk (v := .pointer (some ⟨l, 5, none⟩)) 12 57 rfl rfl (by kernel_rfl) (by rfl) HS (fun w' hw => by go_simp) ?_; simp only [Act.put, zp1, zp2, zp3]
    refine reg_tk (v := .int .i64 (s2 : Int)) 13 58 rfl rfl (by kernel_rfl) (by rfl) HS (fun w' hw => by have c := (HLG4.out.keep hw HNP.out).cells.2.2.2.2.2.1; go_simp) ?_; simp only [Act.put, zp1, zp2, zp3]
    refine reg_tk (v := .pointer (some ⟨l, 0, none⟩)) 14 59 rfl rfl (by kernel_rfl) (by rfl) HS (fun w' hw => by go_simp) ?_; simp only [Act.put, zp1, zp2, zp3]
    refine reg_tk (v := .pointer (some ⟨l, 0, none⟩)) 15 60 rfl rfl (by kernel_rfl) (by rfl) HS (fun w' hw => by go_simp) ?_; simp only [Act.put, zp1, zp2, zp3]
    refine reg_tk (v := .pointer (some ⟨l, 3, none⟩)) 16 61 rfl rfl (by kernel_rfl) (by rfl) HS (fun w' hw => by go_simp) ?_; simp only [Act.put, zp1, zp2, zp3]
    refine reg_tk (v := .pointer (some ⟨l, 6, none⟩)) 17 62 rfl rfl (by kernel_rfl) (by rfl) HS (fun w' hw => by go_simp) ?_; simp only [Act.put, zp1, zp2, zp3]
    refine reg_load 18 (some 63) 47 (.tmp 62) rfl rfl rfl (by kernel_rfl) (by kernel_rfl) (by kernel_rfl) (by rfl) HS l 6 rfl (bvs h2) _ (fun w' hw => (HLG4.out.keep hw HNP.out).b.part 6 (bvs h2) (lcells_h z a ⟨A2, E, s2, h2, false, false⟩)) arr_under rfl (arr_size h2 HRE.out.lg.h32) ?_; simp only [Act.put, zp1, zp2, zp3]
    refine reg_tk (v := .slice Y f0.length cY) 19 64 rfl rfl (by kernel_rfl) (by rfl) HS (fun w' hw => by go_simp) ?_; simp only [Act.put, zp1, zp2, zp3]
    refine reg_pack3 (Y := Up3) 20 25 27 21 22 23 24 26 28 65 44 66 67 68 10 _ _ _ _ _ _ _ _ _ [(25, some 10), (20, some 65), (21, some 44), (22, some 66), (23, some 67), (24, some 68), (26, some 9), (28, some 8), (27, none)] _ _ _ _ 0 29 (fun w' => Kp nob w4 w') (fun y w' => UpR w4 z.c v2.x l0 y w') v2.x.P (fun y i => y.P i ∨ ab y.X = some i) (fun y => .slice y.X l0.length y.cX) (fun _ => nh) (fun _ => 0) w4.heap.size 76 #[.pointer (some ⟨z.c.v, 0, none⟩), .int .i64 E, .int .i64 (s2 : Int), .agg (bvs h2).toArray, .slice Y f0.length cY]
     rfl rfl rfl (by kernel_rfl) (by kernel_rfl) (by kernel_rfl) (by kernel_rfl) (by kernel_rfl) (by kernel_rfl) rfl (by kernel_rfl) (by decide)
     ⟨rfl, rfl⟩ ⟨rfl, rfl, rfl⟩ ⟨rfl, rfl⟩ ⟨rfl, rfl, rfl⟩ ⟨rfl, rfl, rfl, by kernel_rfl⟩ ⟨rfl, rfl, rfl, by kernel_rfl⟩ ⟨rfl, rfl, rfl, by kernel_rfl⟩ ⟨rfl, rfl, by kernel_rfl⟩ ⟨rfl, rfl, by kernel_rfl⟩ (by kernel_rfl)
     (fun w' h => h.nob _) (fun y w' h => h.q.kp) (fun w' h => h.size) (fun y w' h => h.q.kp.size) (fun w' o h => h.alloc o) (fun y w' o h => h.alloc o)
     (fun i e => HB4.out.vx.lt i e) (fun y w' h => h.lt) (fun y w' w3 g hy hg hn k => hy.far HB4.out.vx.sz hg hn k) ((Kp.refl _ _).drew) ?hca (fun w' h => HUC.out w' h) ?hK
    case hca =>
     intro a1 w1 he
     exact exec_func 76 _ _ [.pointer (some ⟨z.c.v, 0, none⟩), .int .i64 E, .int .i64 (s2 : Int), .agg (bvs h2).toArray, .slice Y f0.length cY] rfl (by kernel_rfl) (by
      show [a1.eval (.tmp 48), a1.eval (.tmp 53), a1.eval (.tmp 58), a1.eval (.tmp 63), a1.eval (.tmp 64)] = _
      rw [he 48 (by kernel_rfl), he 53 (by kernel_rfl), he 58 (by kernel_rfl), he 63 (by kernel_rfl), he 64 (by kernel_rfl)]
      rfl)
    case hK =>
     intro vals y nb w6 v20 v25 v21 v22 v23 v24 v26 v28 v27 hb6 hq6 hno6 hR6
     simp only [putZ, v20, v21, v22, v23, v24, v25, v26, v27, v28]
     simp only [Act.put, zp1, zp2, zp3]
     refine reg_end (by kernel_rfl) ?_
     have hpq := HB4.out.vault hR6.q HRE.out.b.dream
     have HHD6 := Lib.hid (HHD4.out.keep hpq.k HRE.out.hbf)
     have HLG6 := Lib.hid (HLG4.out.keep hpq.k HNO.out.1)
     have HAR6 := Lib.hid (areaP.keep HAR4.out hpq.k HNO.out.2)
     have HAL6 := Lib.hid (HAL4.out.keep hpq.k (fun j e => (HRE.out.zf j e).2.1))
     have HPQ := Lib.hid hpq
     have HNB6 := Lib.hid (And.intro hb6 hq6)
     have HOK6 := Lib.hid (And.intro hR6.ok hR6.new)
     clear hpq hb6 hq6 hno6 hR6 HUC HS
     obtain ⟨i0, hi1, hi2, hi3, hi4⟩ := rec_info
     have hsb : s2 + l0.length ≤ 1000 := by have h1 := HDF.out.2.2.2; have h2 := HL0.out.2.1; have h3 := HBD.out.2.2.1; omega
     have t1 : y.X = none → l0.length = 0 := fun e => by have h1 : y.cX = 0 := HOK6.out.1.nil e; have h2 : l0.length ≤ y.cX := HOK6.out.1.cap; omega
     have t2 : (s2 + l0.length) * 56 ≤ 140737488355328 := by omega
     have t3 : s2 + l0.length ≤ maxLen := by simp [maxLen]; omega
     have t4 : Row w6 y.X (l0.flatMap rcells) := HOK6.out.1.row
     go_wp2_with (first
      | (refine wpList_appKO_gd _ (.tmp 71) (.tmp 72) 29 rfl (by rfl) 6 (by decide) 67 i0 _ 56 recs_und hi1 hi2 hi3 hi4 rfl Z s2 cz ((ls.take i).flatten.flatMap rcells) rfl HAL6.out y.X l0.length y.cX (l0.flatMap rcells) rfl t1 (rcs_len l0) t4 (rcs_one l0) t2 t3 ?_
         intro Z7 c7 w7 ho7 hg7 hz7)
      | fail)
     clear t1 t2 t3 t4
     have k7 : Kp (rowF Z) w6 w7 := (Kp.refl (rowF Z) _).grown hg7 (fun i e => .inl e)
     have hla := HLA.out
     have hws := HWS.out
     have hsz := HSZ4.out
     have hnl : ¬ rowF Z l := fun e => by have := (HRE.out.zf l e).1; omega
     have hna : ¬ rowF Z a := fun e => by have := (HRE.out.zf a e).1; omega
     have hnb : ¬ rowF Z nb := fun e => by have h1 := HAL4.out.lt nb e; have h2 := HNB6.out.2; omega
     have HB7 := Lib.hid (HPQ.out.b.sideX k7 (fun j e => .inr (.inr ⟨by have := (HRE.out.zf j e).1; omega, HPQ.out.old (HRE.out.zf j e).2.1 (HAL4.out.lt j e)⟩)))
     have HLG7 := Lib.hid (HLG6.out.keep k7 hnl)
     have HAR7 := Lib.hid (areaP.keep HAR6.out k7 hna)
     have HHD7 := Lib.hid (HHD6.out.keep k7 (fun e => (HRE.out.zf hb e).2.2 rfl))
     have HNB7 := Lib.hid (HNB6.out.1.keep k7 hnb)
     have HNBL : Hid (¬ oneB l nb) := Lib.hid (fun e => by have e : nb = l := e; have := HNB6.out.2; omega)
     have HNH := Lib.hid HN.out.2.1
     have HK7 := Lib.hid k7
     have HO7 := Lib.hid (And.intro ho7 hz7)
     have HS6Z : Hid (wb.heap.size ≤ w6.heap.size) := Lib.hid (Nat.le_trans hsz HPQ.out.k.size)
     have e1 : IntKind.i64.wrap ((s2 : Int) + (l0.length : Int)) = ((s2 + l0.length : Nat) : Int) := by rw [IntWalk.i64_in _ (by omega)]; omega
     clear ho7 hg7 hz7 k7 hla hws hsz hnl hna hnb
     go_wp2
     have hlg7 : LgAt w7.drew z l a ⟨A2, E, s2, h2, false, false⟩ := HLG7.out.keep (Kp.refl nob w7).drew (fun e => e)
     have c5 : w7.drew.cell? ⟨l, 5, none⟩ = some (.int .i64 (s2 : Int)) := hlg7.cells.2.2.2.2.2.1
     have f5 := hlg7.b.frozen 5
     refine reg_begin (fun w' => Kp (oneB l) w7 w') (by kernel_rfl) ((Kp.refl (oneB l) w7).drew) (fun HS => ?_)
     refine reg_tk (v := .pointer (some ⟨l, 0, none⟩)) 0 74 rfl rfl (by kernel_rfl) (by rfl) HS (fun w' hw => by go_simp) ?_; simp only [Act.put, zp1, zp2, zp3]
     refine reg_tk (v := .pointer (some ⟨l, 0, none⟩)) 1 75 rfl rfl (by kernel_rfl) (by rfl) HS (fun w' hw => by go_simp) ?_; simp only [Act.put, zp1, zp2, zp3]
     refine reg_tk (v := .pointer (some ⟨l, 0, none⟩)) 2 76 rfl rfl (by kernel_rfl) (by rfl) HS (fun w' hw => by go_simp) ?_; simp only [Act.put, zp1, zp2, zp3]
     refine reg_tk (v := .pointer (some ⟨l, 0, none⟩)) 3 77 rfl rfl (by kernel_rfl) (by rfl) HS (fun w' hw => by go_simp) ?_; simp only [Act.put, zp1, zp2, zp3]
     refine reg_tk (v := .pointer (some ⟨l, 3, none⟩)) 4 78 rfl rfl (by kernel_rfl) (by rfl) HS (fun w' hw => by go_simp) ?_; simp only [Act.put, zp1, zp2, zp3]
     refine reg_tk (v := .pointer (some ⟨l, 5, none⟩)) 5 79 rfl rfl (by kernel_rfl) (by rfl) HS (fun w' hw => by go_simp) ?_; simp only [Act.put, zp1, zp2, zp3]
     refine reg_tk (v := .slice y.X l0.length y.cX) 7 81 rfl rfl (by kernel_rfl) (by rfl) HS (fun w' hw => by go_simp) ?_; simp only [Act.put, zp1, zp2, zp3]
     refine reg_tk (v := .int .i64 (l0.length : Int)) 8 82 rfl rfl (by kernel_rfl) (by rfl) HS (fun w' hw => by go_simp) ?_; simp only [Act.put, zp1, zp2, zp3]
     refine reg_load 10 (some 84) 47 (.tmp 10) rfl rfl rfl (by kernel_rfl) (by kernel_rfl) (by kernel_rfl) (by rfl) HS nb 0 rfl (bvs nh) _ (fun w' hw => (HNB7.out.keep hw HNBL.out).range) arr_under rfl (arr_size nh HNH.out) ?_; simp only [Act.put, zp1, zp2, zp3]
     refine reg_step (v := .int .i64 (s2 : Int)) 6 (some 80) rfl rfl (by kernel_rfl) (by rfl) (by go_simp) HS (fun _ => ?_)
     simp only [Act.put, zp1, zp2, zp3]
     refine reg_step (v := .int .i64 ((s2 + l0.length : Nat) : Int)) 9 (some 83) rfl rfl (by kernel_rfl) (by rfl) (by go_simp) HS (fun _ => ?_)
     simp only [Act.put, zp1, zp2, zp3]
     refine reg_tk (v := .pointer (some ⟨l, 0, none⟩)) 11 85 rfl rfl (by kernel_rfl) (by rfl) HS (fun w' hw => by go_simp) ?_; simp only [Act.put, zp1, zp2, zp3]
     refine reg_tk (v := .pointer (some ⟨l, 3, none⟩)) 12 86 rfl rfl (by kernel_rfl) (by rfl) HS (fun w' hw => by go_simp) ?_; simp only [Act.put, zp1, zp2, zp3]
     refine reg_tk (v := .pointer (some ⟨l, 5, none⟩)) 13 87 rfl rfl (by kernel_rfl) (by rfl) HS (fun w' hw => by go_simp) ?_; simp only [Act.put, zp1, zp2, zp3]
     refine reg_mute (w' := w7.drew.setCell ⟨l, 5, none⟩ (.int .i64 ((s2 + l0.length : Nat) : Int))) 14 none rfl rfl (by kernel_rfl) (by rfl) (by go_simp) (HS.setCell (p := ⟨l, 5, none⟩) (.inl rfl) _) (fun HS6 => ?_)
     simp only [Act.put, zp1, zp2, zp3]
     refine reg_tk (v := .pointer (some ⟨l, 0, none⟩)) 15 88 rfl rfl (by kernel_rfl) (by rfl) HS6 (fun w' hw => by go_simp) ?_; simp only [Act.put, zp1, zp2, zp3]
     refine reg_tk (v := .pointer (some ⟨l, 3, none⟩)) 16 89 rfl rfl (by kernel_rfl) (by rfl) HS6 (fun w' hw => by go_simp) ?_; simp only [Act.put, zp1, zp2, zp3]
     refine reg_tk (v := .pointer (some ⟨l, 6, none⟩)) 17 90 rfl rfl (by kernel_rfl) (by rfl) HS6 (fun w' hw => by go_simp) ?_; simp only [Act.put, zp1, zp2, zp3]
     have hq1 : Blk (w7.drew.setCell ⟨l, 5, none⟩ (.int .i64 ((s2 + l0.length : Nat) : Int))) l 106 (lcells z a ⟨A2, E, s2 + l0.length, h2, false, false⟩) := hlg7.b.set_ 5 (.int .i64 ((s2 + l0.length : Nat) : Int))
     have h32 : (⟨A2, E, s2 + l0.length, h2, false, false⟩ : Lo).h.length = 32 := hlg7.h32
     refine reg_storeIn 18 none 47 (.tmp 90) (.tmp 84) rfl rfl rfl (by kernel_rfl) (by rfl) l 6 106 _ (bvs nh) hq1 rfl rfl (by rw [lcells_length _ _ _ h32, bvs_length, HNH.out]; omega) (arr_size nh HNH.out) (bvs_one _) ?_
     intro w8 hb8 k8 hs8
     rw [lcells_head z a ⟨A2, E, s2 + l0.length, h2, false, false⟩ nh h32 HNH.out] at hb8
     refine ⟨HS6.trans k8 (fun i e => .inl e), fun _ => ?_⟩
     simp only [Act.put, zp1, zp2, zp3]
     refine reg_end (by kernel_rfl) ?_
     have k8' : Kp (oneB l) w7 w8 := HS6.trans k8 (fun i e => .inl e)
     have hla := HLA.out
     have hws := HWS.out
     have hzl : ∀ j, ab Z7 = some j → wb.heap.size ≤ j ∧ ¬ own z ⟨⟨y.F, y.P, v2.x.o, v2.x.sl, v2.x.cl⟩, v2.W, v2.cW⟩ j ∧ j ≠ hb := fun j e => by
      rcases HO7.out.2 with e2 | e2
      · have h1 : ab Z = some j := by rw [← e2]; exact e
        exact ⟨(HRE.out.zf j h1).1, HPQ.out.old (HRE.out.zf j h1).2.1 (HAL4.out.lt j h1), (HRE.out.zf j h1).2.2⟩
      · have h1 : j = w6.heap.size := by rw [e] at e2; exact Option.some.inj e2
        have h3 := HS6Z.out
        have h4 := HHD6.out.lt
        exact ⟨by omega, HPQ.out.b.far (by omega), by omega⟩
     have HNEW : Hid (RdL w wb z v D t B l a hb root E A.top ls fs q h0 (i + 1) w8 ⟨⟨y.F, y.P, v2.x.o, v2.x.sl, v2.x.cl⟩, v2.W, v2.cW⟩ A4 (s2 + l0.length) nh Z7 c7) := Lib.hid ⟨HB7.out.side k8' (fun j e => .inl (.inr (.inl e))), fun j e => (HPQ.out.sub j e).elim (HRE.out.sub j) (fun e => .inr (Nat.le_trans HSZ4.out e)),
      (((HRE.out.k.trans HK4.out (fun j e => .inl (.inr (.inr e)))).trans HPQ.out.k (fun j e => (HRE.out.sub j e).imp .inl id)).trans HK7.out (fun j e => .inr (HRE.out.zf j e).1)).trans k8' (fun j e => .inl (.inr (.inl e))), ⟨hb8, HNH.out⟩, areaP.keep HAR7.out k8' (fun e => hla.1 e.symm), HHD7.out.keep k8' (fun e => by have e : hb = l := e; have := HHB.out; omega),
      HRE.out.o_, HRE.out.cl, HRE.out.sl, (by rw [HDF.out.1, HDF.out.2.1, HN.out.1, Int.natCast_add]; exact HCH.out), (by rw [HDF.out.1, HA4.out]; exact HFR.out), (by rw [HA4.out]; exact HRE.out.top), HN.out.2.2, HDF.out.2.2.2.symm,
      (by
        rw [HDF.out.2.2.1, List.flatMap_append]
        exact HO7.out.1.keep k8' (fun j e e2 => by have e2 : j = l := e2; have := (hzl j e).1; omega)), hzl, HPQ.out.old HRE.out.hbf HHD4.out.lt⟩
     have hsb2 : s2 + l0.length ≤ ls.flatten.length := by have h1 := HDF.out.2.2.2; have h2 := HL0.out.2.1; omega
     have hpos : 0 < l0.length := HL0.out.1
     clear hb8 k8 k8' hs8 e1 HS HS6 hlg7 hq1 h32 c5 f5 hla hws hzl
     go_wp2
     go_roundw
     case rel => exact ⟨i + 1, _, A4, s2 + l0.length, nh, Z7, c7, rfl, HNEW.out⟩
     case measure => show ls.flatten.length - Seg.slLen (.slice Z7 (s2 + l0.length) c7) < ls.flatten.length - Seg.slLen (.slice Z s2 cz); simp only [Seg.slLen]; omega
end Com
namespace Com
open Go Go.RowKit Kit
open Rec (Rec good ftot fsec split split_flat Rrow Sr SrOk recB good_bounds)
open Ideal (Ts Thing hashT Ans)
open Vault (Vc Vt Vx Vq nonce)
open Disk
open Meter (Mt Mk Mb Mz nxt vcells)
theorem vcells_2 (t : Mt) : ∀ j v, (bvs t.root)[j]? = some v → (vcells t)[2 + j]? = some v := by
 intro j v hv
 rw [show 2 + j = j + 1 + 1 by omega]
 exact hv
structure OpP (w wr : World) (z : Zf) (v : Zv) (D : Dk) (t : Mt) (l a : Nat) (B : Nat → Prop) (rs : List Rec) (q : Nat) (w2 : World) (v2 : Zv) (Z : Option Addr) (cz : Nat) : Prop where
 g : Pg w w2 z v2 D t l a ⟨⟨(aHalf D.now.length (odd t.epoch)).top, q⟩, t.epoch, rs.length, t.root, false, false⟩ B
 sub : ∀ j, own z v2 j → own z v j ∨ wr.heap.size ≤ j
 k : Kp (own z v) wr w2
 o_ : v2.x.o = v.x.o
 cl : v2.x.cl = v.x.cl
 sl : v2.x.sl = v.x.sl
 row : Rrow w2 Z rs
 zf : ∀ j, ab Z = some j → wr.heap.size ≤ j ∧ ¬ own z v2 j ∧ j ≠ l ∧ j ≠ a ∧ j < w2.heap.size
 cap : rs.length ≤ cz ∧ cz ≤ maxLen ∧ (Z = none → cz = 0)
theorem RdP.op {w wr w4 w2 : World} {z : Zf} {v : Zv} {D : Dk} {t : Mt} {l a : Nat} {B : Nat → Prop} {rs : List Rec} {q : Nat} {v2 : Zv} {Z : Option Addr} {cz : Nat} (h : RdP w w4 z v D t B l a t.root t.epoch (aHalf D.now.length (odd t.epoch)).top rs q w2 v2 Z cz) (p : Pg w w4 z v D t l a (log0 D t) B) (k : Kp nob wr w4) (hl : wr.heap.size ≤ l ∧ wr.heap.size ≤ a) (hq : q ≤ (aHalf D.now.length (odd t.epoch)).top) : OpP w wr z v D t l a B rs q w2 v2 Z cz :=
 ⟨⟨h.b, h.lg, h.ar, p.la, p.nl, p.na, hq, (aHalf_ok _ _).2⟩, fun j e => (h.sub j e).imp id (fun e => Nat.le_trans k.size e), (k.nob _).trans h.k (fun j e => by
  rcases e with e | e | e
  · exact .inl e
  · exact .inr (e ▸ hl.1)
  · exact .inr (e ▸ hl.2)), h.o_, h.cl, h.sl, h.row, fun j e => ⟨Nat.le_trans k.size (h.zf j e).1, (h.zf j e).2.1, fun e2 => by have h1 := (h.zf j e).1; have h2 := p.lg.b.lt; omega, fun e2 => by have h1 := (h.zf j e).1; have h2 : a < w4.heap.size := Blk.lt p.ar; omega, (h.zf j e).2.2⟩, h.cap⟩
theorem open_more {w wr : World} {z : Zf} {v : Zv} {D : Dk} {t : Mt} {B : Nat → Prop} (ls : List (List Rec)) (fs : List (List UInt8)) (q : Nat) (ts : List Thing) (h : Pb w wr z v D t B) (hoff : D.off = false) (hc : t.count ≠ 0) (hE : 0 ≤ t.epoch ∧ t.epoch < 4294967296) (ho : v.x.o = .dream ts) (hep : hashT (stH t.epoch) ∈ ts) (hch : Ch v.x.o z.c.ms z.c.lim t.epoch 0 (v.x.o.val (startT t.epoch) 32) ls fs t.root) (hfr : Fr D.now (aHalf D.now.length (odd t.epoch)).pos fs q) (hq : q ≤ (aHalf D.now.length (odd t.epoch)).top)
    (hf : v.x.o.few 85000) (hlim : z.c.lim ≤ 9223372036854775807) (hbd : ls.flatten.length ≤ 1000) :
    Calls Tryz.prog 33 #[.pointer (some ⟨z.c.v, 0, none⟩), .pointer (some ⟨z.g, 0, none⟩), .pointer (some ⟨z.m, 0, none⟩)] wr fun r w' => ∃ l a v2 Z cz, r = .returned (.tuple #[.pointer (some ⟨l, 0, none⟩), .slice Z ls.flatten.length cz, .int .i64 0]) ∧ OpP w wr z v D t l a B ls.flatten q w' v2 Z cz := by
 have he : 0 ≤ t.epoch ∧ t.epoch ≤ 9223372036854775807 := ⟨hE.1, by omega⟩
 have HRD := Lib.hid (fun w4 l a (p : Pg w w4 z v D t l a (log0 D t) B) => readTo_c l a (aHalf D.now.length (odd t.epoch)) t.root Meter.z32 t.epoch ls fs q ts p.b p.lg p.ar p.la hoff hE ho hep hch hfr hq (aHalf_ok _ _).2 h.me.k.root hf hlim hbd)
 obtain ⟨rs, hrs⟩ : ∃ rs, rs = ls.flatten := ⟨_, rfl⟩
 rw [← hrs] at HRD ⊢
 clear hrs
 have HR32 := Lib.hid h.me.k.root
 have HQ := Lib.hid hq
 have hg := Meter.get_any t z.m (some ⟨z.g, 0, none⟩) D.off wr h.me (Meter.Cd.pow h.cd)
 have hd := fun w' (k : Kp nob wr w') => down_any D z.g z.N z.S v.W v.cW w' (h.cd.keep0 k)
 have hhf := fun w' (k : Kp nob wr w') => half_c D z.g z.N z.S v.W v.cW t.epoch w' (h.cd.keep0 k) he
 obtain ⟨A0, hA0⟩ : ∃ A0, A0 = aHalf D.now.length (odd t.epoch) := ⟨_, rfl⟩
 simp only [odd_is, ← hA0] at hhf
 rw [hoff] at hg hd
 have HG := Lib.hid hg
 have HD := Lib.hid hd
 have HHF := Lib.hid hhf
 have HH := Lib.hid h
 have HVS := Lib.hid (Meter.val_size t h.me.k.root)
 have HLE := Lib.hid (show (Meter.vcells t).length = (Meter.vcells Meter.none_).toArray.size by rw [List.size_toArray, Meter.vcells_length _ h.me.k.root, Meter.vcells_length Meter.none_ Meter.z32_length])
 have HA := Lib.hid hA0
 have HC := Lib.hid hc
 have hz := Meter.zval_run
 clear hg hd hhf h hA0 hc he hoff hE ho hep hch hfr hq hf hlim hbd
 go_enter Tryz.func33, Tryz.ntmps33
 go_wp2_with (first
  | (go_at_call 54; refine HG.out.mono ?_; rintro r w1 ⟨rfl, k1⟩; have HK1 := Lib.hid k1; clear k1)
  | (refine wpList_store_new rfl 49 (.tmp 9) (.tmp 26) rfl _ (Meter.vcells t) rfl rfl HLE.out HVS.out (Meter.vcells_one _) ?_; intro w2 hB2 k2 z2; have HK2 := Lib.hid (HK1.out.trans k2 (fun _ e => e.elim)); have HB2 := Lib.hid hB2; clear hB2 k2 z2)
  | (go_at_call 55; refine (HD.out _ HK2.out).mono ?_; rintro r w3 ⟨rfl, rfl⟩)
  | fail)
 obtain ⟨gs, hgs⟩ : ∃ gs, gs = w1.heap.size := ⟨_, rfl⟩
 rw [← hgs] at HB2 ⊢
 have HGS := Lib.hid hgs
 clear hgs
 refine reg_begin (fun w' => Kp nob w2 w') (by kernel_rfl) ((Kp.refl nob w2).drew) (fun HS => ?_)
 refine reg_tk (v := .pointer (some ⟨z.c.v, 0, none⟩)) 0 34 rfl rfl (by kernel_rfl) (by rfl) HS (fun w' hw => by go_simp) ?_; simp only [Act.put, zp1, zp2, zp3]
 refine reg_tk (v := .pointer (some ⟨z.g, 0, none⟩)) 1 35 rfl rfl (by kernel_rfl) (by rfl) HS (fun w' hw => by go_simp) ?_; simp only [Act.put, zp1, zp2, zp3]
 refine reg_tk (v := .pointer (some ⟨z.m, 0, none⟩)) 2 36 rfl rfl (by kernel_rfl) (by rfl) HS (fun w' hw => by go_simp) ?_; simp only [Act.put, zp1, zp2, zp3]
 refine reg_tk (v := .pointer (some ⟨z.g, 0, none⟩)) 3 37 rfl rfl (by kernel_rfl) (by rfl) HS (fun w' hw => by go_simp) ?_; simp only [Act.put, zp1, zp2, zp3]
 refine reg_tk (v := .pointer (some ⟨gs, 1, none⟩)) 4 38 rfl rfl (by kernel_rfl) (by rfl) HS (fun w' hw => by go_simp) ?_; simp only [Act.put, zp1, zp2, zp3]
 refine reg_tk (v := .int .i64 t.epoch) 5 39 rfl rfl (by kernel_rfl) (by rfl) HS (fun w' hw => by have c := (HB2.out.keep hw (fun e => e)).cell 1; rw [vcells_1] at c; go_simp) ?_; simp only [Act.put, zp1, zp2, zp3]
 refine reg_tk (v := .pointer (some ⟨gs, 1, none⟩)) 7 41 rfl rfl (by kernel_rfl) (by rfl) HS (fun w' hw => by go_simp) ?_; simp only [Act.put, zp1, zp2, zp3]
 refine reg_tk (v := .int .i64 t.epoch) 8 42 rfl rfl (by kernel_rfl) (by rfl) HS (fun w' hw => by have c := (HB2.out.keep hw (fun e => e)).cell 1; rw [vcells_1] at c; go_simp) ?_; simp only [Act.put, zp1, zp2, zp3]
 refine reg_call 6 (some 40) rfl rfl (by kernel_rfl) (by rfl) _ _ (exec_func 44 _ _ [.pointer (some ⟨z.g, 0, none⟩), .int .i64 t.epoch] rfl (by kernel_rfl) rfl) ?_
 refine (HHF.out _ (HK2.out.drew)).mono ?_
 rintro r w3 ⟨a, rfl, ha, k3, hn⟩
 have HS3 : Kp nob w2 w3 := HS.trans k3 (fun _ e => e.elim)
 refine ⟨_, rfl, HS3, fun _ => ?_⟩
 simp only [Act.put, zp1, zp2, zp3]
 refine reg_tk (v := .agg (tcells a t.epoch 0 Meter.z32).toArray) 9 43 rfl rfl (by kernel_rfl) (by rfl) HS3 (fun w' hw => exec_bld _ _ rfl [(0, .pointer (some ⟨a, 0, none⟩)), (1, .int .i64 t.epoch)] _ rfl (build_tz a t.epoch w')) ?_; simp only [Act.put, zp1, zp2, zp3]
 refine reg_tk (v := .agg (lcells z a ⟨A0, t.epoch, 0, Meter.z32, false, false⟩).toArray) 10 44 rfl rfl (by kernel_rfl) (by rfl) HS3 (fun w' hw => exec_bld _ _ rfl [(0, .pointer (some ⟨z.c.v, 0, none⟩)), (1, .pointer (some ⟨z.g, 0, none⟩)), (2, .pointer (some ⟨z.m, 0, none⟩)), (3, .agg (tcells a t.epoch 0 Meter.z32).toArray)] _ rfl (build_log z a A0 t.epoch w')) ?_; simp only [Act.put, zp1, zp2, zp3]
 refine reg_step (v := .pointer (some ⟨w3.heap.size, 0, none⟩)) (w' := w3.alloc (.cells (lcells z a ⟨A0, t.epoch, 0, Meter.z32, false, false⟩).toArray 106)) 11 (some 45) rfl rfl (by kernel_rfl) (by rfl) (by go_simp) (HS3.alloc _) (fun HS4 => ?_)
 simp only [Act.put, zp1, zp2, zp3]
 refine reg_tk (v := .pointer (some ⟨w3.heap.size, 0, none⟩)) 12 11 rfl rfl (by kernel_rfl) (by rfl) HS4 (fun w' hw => by go_simp) ?_; simp only [Act.put, zp1, zp2, zp3]
 refine reg_end (by kernel_rfl) ?_
 have HP := Lib.hid (HH.out.log0_ (HK2.out.trans HS3 (fun _ e => e.elim)) (by rw [← HA.out]; exact ha) (by have h1 := HK2.out.size; have h2 : w2.drew.heap.size = w2.heap.size := rfl; omega) rfl ((Kp.refl nob w3).alloc _) (by have := Blk.new w3 106 (lcells z a ⟨A0, t.epoch, 0, Meter.z32, false, false⟩); unfold log0; rw [← HA.out]; exact this))
 have HK4 := Lib.hid (HK2.out.trans HS4 (fun _ e => e.elim))
 have HSL : Hid (wr.heap.size ≤ w3.heap.size ∧ wr.heap.size ≤ a) := Lib.hid (by have h1 := HK2.out.size; have h2 : w2.drew.heap.size = w2.heap.size := rfl; have h3 := HS3.size; omega)
 have HB4 := Lib.hid (HB2.out.keep HS4 (fun e => e))
 have c0 := HB4.out.cell 0
 rw [vcells_0] at c0
 have hcn : ((t.count : Int) == 0) = false := by have := HC.out; simp; omega
 obtain ⟨l, hl⟩ : ∃ l, l = w3.heap.size := ⟨_, rfl⟩
 rw [← hl] at HP HSL ⊢
 obtain ⟨w4, hw4⟩ : ∃ w4, w4 = w3.alloc (.cells (lcells z a ⟨A0, t.epoch, 0, Meter.z32, false, false⟩).toArray 106) := ⟨_, rfl⟩
 rw [← hw4] at HP HK4 HB4 c0 ⊢
 clear HS HS3 HS4 k3 hn ha hl hw4
 go_wp2_with (first
  | (refine wpList_load_mid rfl 47 (.tmp 52) rfl gs 2 rfl (bvs t.root) _ (HB4.out.part 2 (bvs t.root) (vcells_2 t)) arr_under rfl (arr_size t.root HR32.out) ?_)
  | (go_at_call 56; refine (HRD.out w4 l a HP.out).mono ?_; rintro r w5 ⟨v2, Z, cz, rfl, hrd⟩; have HRP := Lib.hid (hrd.op HP.out HK4.out HSL.out HQ.out); clear hrd)
  | fail)
 go_ret3
 exact ⟨l, a, v2, Z, cz, rfl, HRP.out⟩
end Com
end Go.Proofs.YtigdlnfgdjfdoaaGreat
