/- Lemmas: ComY ComU ComB ComPo. -/
import Derived.Test.YtigdlnfgdjfdoaaGreatZK32
import Derived.OwnWalk
set_option maxHeartbeats 4000000
set_option maxRecDepth 100000
set_option linter.unusedVariables false
set_option linter.unusedSimpArgs false
namespace Go.Proofs.YtigdlnfgdjfdoaaGreat
namespace Com
open Go Go.RowKit Kit
open Rec (Rec good ftot fsec split split_flat)
open Ideal (Ts Thing hashT)
open Seg (pk pk_shape)
open Disk
open Meter (Mt Mk nxt)
theorem keep_sm (ms : List UInt8) (lim : Nat) (e : Int) : ∀ (ls : List (List Rec)) (o : Ts) (D : Dk) (A : Ar) (s : Nat) (h : List UInt8) (k n : Nat), Pre lim e o D A s h ls → Sm D k n → Sm (keepT ms lim e o D A s h ls).D (k + secsum ls) n
 | [], o, D, A, s, h, k, n, P, hs => by rw [keepT_nil]; exact Sm.le_ hs (by omega)
 | l :: ls, o, D, A, s, h, k, n, P, hs => by
   have st := step1 (ms := ms) P
   have h1 := st.sm k n hs
   rw [secsum_cons]
   rcases st.add with h0 | h8
   · rw [keepT_go ls st.pk0 h0]
     exact Sm.le_ (keep_sm ms lim e ls _ _ _ _ _ _ n (st.next h0) h1) (by omega)
   · rw [keepT_stop ls st.pk0 (by rw [h8]; exact (by decide : (8 : Int) ≠ 0))]
     exact Sm.le_ h1 (by omega)
theorem goOn_sm (ms : List UInt8) (lim : Nat) (e : Int) (o : Ts) (D : Dk) (t : Mt) (A : Ar) (s : Nat) (h : List UInt8) (ls : List (List Rec)) (P : Pre lim e o D A s h ls) (k n : Nat) (hs : Sm D k n) : Sm (goOnK t e (keepT ms lim e o D A s h ls)).D (k + secsum ls + 2) n := by
 have h1 := keep_sm ms lim e ls o D A s h k n P hs
 have Q := kept_any ms lim e ls o D A s h P
 obtain ⟨K, hK⟩ : ∃ K, K = keepT ms lim e o D A s h ls := ⟨_, rfl⟩
 rw [← hK] at h1 Q ⊢
 have h2 := h1.sync Q.ok
 have h3 := sync_ok E8 K.D Q.ok
 unfold goOnK
 split
 · split
   · exact Sm.le_ (Sm.nxt_ h2 h3 t e K.h) (by omega)
   · exact Sm.le_ h2 (by omega)
 · exact Sm.le_ h1 (by omega)
theorem turnT_cases (ms : List UInt8) (lim : Nat) {o : Ts} {D : Dk} {t : Mt} {L : Lo} {rs : List Rec} (hd : ∃ ts, o = .dream ts) (hk : Ok D) (hep : 0 ≤ t.epoch) :
    (refT D.off L.lost rs ≠ 0 ∧ turnT ms lim o D t L rs = ⟨o, D, t, L, refT D.off L.lost rs⟩) ∨ (refT D.off L.lost rs = 0 ∧ tcheck lim D t rs ≠ 0 ∧ turnT ms lim o D t L rs = ⟨o, D, t, L, tcheck lim D t rs⟩) ∨
    (refT D.off L.lost rs = 0 ∧ tcheck lim D t rs = 0 ∧ ∃ G, turnT ms lim o D t L rs = ofG L (t.epoch + 1) G ∧ Gany ms lim (t.epoch + 1) (o.nx (startT (t.epoch + 1))) D t (aHalf D.now.length (odd (t.epoch + 1))) 0 (o.val (startT (t.epoch + 1)) 32) (split rs) G ∧ ∀ k n, Sm D k n → Sm G.D (k + secsum (split rs) + 2) n) := by
 by_cases hr : refT D.off L.lost rs = 0
 · by_cases hc : tcheck lim D t rs = 0
   · refine .inr (.inr ⟨hr, hc, goOnK t (t.epoch + 1) (keepT ms lim (t.epoch + 1) (o.nx (startT (t.epoch + 1))) D (aHalf D.now.length (odd (t.epoch + 1))) 0 (o.val (startT (t.epoch + 1)) 32) (split rs)), ?_, ?_⟩)
     · unfold turnT; rw [if_neg (by rw [hr]; exact fun e => e rfl), if_neg (by rw [hc]; exact fun e => e rfl)]
     · obtain ⟨hoff, hlost, hne, hg⟩ : D.off = false ∧ L.lost = false ∧ rs ≠ [] ∧ ∀ r ∈ rs, good r = true := by
         rcases refT_cases D.off L.lost rs with ⟨e, _⟩ | ⟨e, _⟩ | ⟨_, h⟩
         · rw [e] at hr; cases hr
         · rw [e] at hr; cases hr
         · exact h
       unfold tcheck at hc
       split at hc
       · cases hc
       · rename_i h1
         split at hc
         · cases hc
         · rename_i h2
           have P := turn_pre (ms := ms) (lim := lim) hd hk hoff hne hg (t := t) ⟨hep, by omega⟩ (by omega) h2
           exact ⟨goOn_any ms lim _ _ D t _ 0 _ _ P (by omega) (by omega), fun k n hs => goOn_sm ms lim _ _ D t _ 0 _ _ P k n hs⟩
   · refine .inr (.inl ⟨hr, hc, ?_⟩)
     unfold turnT; rw [if_neg (by rw [hr]; exact fun e => e rfl), if_pos hc]
 · refine .inl ⟨hr, ?_⟩
   unfold turnT; rw [if_pos hr]
theorem commitT_cases (ms : List UInt8) (lim : Nat) {o : Ts} {D : Dk} {t : Mt} {L : Lo} {rs : List Rec} (hd : ∃ ts, o = .dream ts) (hk : Ok D) (hep : 0 ≤ t.epoch ∧ t.epoch < 4294967296) (hp : L.A.pos ≤ L.A.top) (ht : L.A.top ≤ D.now.length) (h32 : L.h.length = 32) :
    (refT D.off L.lost rs ≠ 0 ∧ commitT ms lim o D t L rs = ⟨o, D, t, L, refT D.off L.lost rs⟩) ∨ (refT D.off L.lost rs = 0 ∧ ccheck lim t L rs ≠ 0 ∧ commitT ms lim o D t L rs = ⟨o, D, t, L, ccheck lim t L rs⟩) ∨
    (refT D.off L.lost rs = 0 ∧ ccheck lim t L rs = 0 ∧ ∃ G, commitT ms lim o D t L rs = ofG L L.e G ∧ Gany ms lim L.e o D t L.A L.s L.h [rs] G ∧ ∀ k n, Sm D k n → Sm G.D (k + secsum [rs] + 2) n) := by
 by_cases hr : refT D.off L.lost rs = 0
 · by_cases hc : ccheck lim t L rs = 0
   · refine .inr (.inr ⟨hr, hc, goOnK t L.e (keepT ms lim L.e o D L.A L.s L.h [rs]), ?_, ?_⟩)
     · unfold commitT; rw [if_neg (by rw [hr]; exact fun e => e rfl), if_neg (by rw [hc]; exact fun e => e rfl)]
     · obtain ⟨hoff, hlost, hne, hg⟩ : D.off = false ∧ L.lost = false ∧ rs ≠ [] ∧ ∀ r ∈ rs, good r = true := by
         rcases refT_cases D.off L.lost rs with ⟨e, _⟩ | ⟨e, _⟩ | ⟨_, h⟩
         · rw [e] at hr; cases hr
         · rw [e] at hr; cases hr
         · exact h
       unfold ccheck at hc
       split at hc
       · cases hc
       · rename_i h1
         split at hc
         · cases hc
         · rename_i h2
           split at hc
           · cases hc
           · rename_i h3
             split at hc
             · cases hc
             · rename_i h4
               have hee : L.e = t.epoch := Decidable.byContradiction fun h => h1 (.inr h)
               have P := commit_pre (lim := lim) (t := t) (L := L) hd hk hoff hne hg (by omega) (by omega) h2 hp ht h4 h32
               exact ⟨goOn_any ms lim _ _ D t _ _ _ _ P (by omega) (by omega), fun k n hs => goOn_sm ms lim _ _ D t _ _ _ _ P k n hs⟩
   · refine .inr (.inl ⟨hr, hc, ?_⟩)
     unfold commitT; rw [if_neg (by rw [hr]; exact fun e => e rfl), if_pos hc]
 · refine .inl ⟨hr, ?_⟩
   unfold commitT; rw [if_pos hr]
structure Calm (o : Ts) (D : Dk) (t : Mt) (e : Int) (n : Nat) (T : Tr) : Prop where
 e0 : T.e = 0
 t : T.t = t.on e T.L.h
 off : T.D.off = false
 fuse : T.D.fuse = 0
 ok : Ok T.D
 len : T.D.now.length = D.now.length
 le : T.L.e = e
 lt : T.L.turned = true
 ll : T.L.lost = false
 few : ∀ k, o.few k → T.o.few (k + 1 + 6 * n)
 sub : o.sub T.o
theorem Gany.calm_ {ms : List UInt8} {lim : Nat} {e : Int} {o o0 : Ts} {D : Dk} {t : Mt} {A : Ar} {s : Nat} {h : List UInt8} {ls : List (List Rec)} {G : Gr} {L : Lo} (q : Gany ms lim e o D t A s h ls G) (hf : D.fuse = 0) (hl : L.lost = false) (ho : o0.sub o) (hfew : ∀ k, o0.few k → o.few (k + 1)) : Calm o0 D t e ls.flatten.length (ofG L e G) ∧ (ofG L e G).L.s = s + ls.flatten.length ∧ (ofG L e G).L.A.top = A.top ∧ (ofG L e G).L.A.pos = A.pos + secsum ls := by
 obtain ⟨h0, hf0⟩ := q.calm hf
 have hw : Wrt ms lim e D A s h ls G ∧ G.t = t.on e G.h ∧ G.D.off = false := by
  rcases q.done with ⟨_, a, b, c⟩ | ⟨a, _⟩
  · exact ⟨c, a, b⟩
  · rw [a] at h0; exact absurd h0 (by decide)
 have hN : nextL L e G = ⟨G.A, e, G.s, G.h, true, L.lost⟩ := by unfold nextL; rw [if_pos h0]
 rw [ofG_eq, hN]
 exact ⟨⟨h0, hw.2.1, hw.2.2, hf0, q.ok, q.len, rfl, rfl, hl, fun k hk => (q.few _ (hfew k hk)).mono (by omega), ho.trans q.sub⟩, hw.1.num, q.top, hw.1.pos⟩
end Com
namespace Com
open Go Go.RowKit Kit
open Rec (Rec good ftot fsec split split_flat Rrow Sr SrOk recB good_bounds)
open Ideal (Ts Thing hashT Ans)
open Vault (Vc Vt Vx Vq nonce)
open Disk
open Meter (Mt Mk Mb Mz nxt vcells)
theorem vcells_1 (t : Mt) : (vcells t)[1]? = some (.int .i64 t.epoch) := rfl
theorem vcells_0 (t : Mt) : (vcells t)[0]? = some (.int .i64 (t.count : Int)) := rfl
theorem build_tz (a : Nat) (e : Int) (w : World) : (Instr.build 104 #[(0, .pointer (some ⟨a, 0, none⟩)), (1, .int .i64 e)]).run Tryz.prog w = .ok (.agg (tcells a e 0 Meter.z32).toArray) w := by kernel_rfl
theorem build_log (z : Zf) (a : Nat) (A0 : Ar) (e : Int) (w : World) : (Instr.build 106 #[(0, .pointer (some ⟨z.c.v, 0, none⟩)), (1, .pointer (some ⟨z.g, 0, none⟩)), (2, .pointer (some ⟨z.m, 0, none⟩)), (3, .agg (tcells a e 0 Meter.z32).toArray)]).run Tryz.prog w = .ok (.agg (lcells z a ⟨A0, e, 0, Meter.z32, false, false⟩).toArray) w := by kernel_rfl
def log0 (D : Dk) (t : Mt) : Lo := ⟨aHalf D.now.length (odd t.epoch), t.epoch, 0, Meter.z32, false, false⟩
theorem Pb.log0_ {w wr w3 w4 : World} {z : Zf} {v : Zv} {D : Dk} {t : Mt} {B : Nat → Prop} {a l : Nat} (h : Pb w wr z v D t B) (k3 : Kp nob wr w3) (ha : IsA w3 a z.g (aHalf D.now.length (odd t.epoch))) (hn : wr.heap.size ≤ a) (hl : l = w3.heap.size) (k4 : Kp nob w3 w4) (hb : Blk w4 l 106 (lcells z a (log0 D t))) :
    Pg w w4 z v D t l a (log0 D t) B := by
 have h3 : a < w3.heap.size := Blk.lt ha
 have hw := h.kp.size
 have hl4 := hb.lt
 have hk := k3.size
 refine ⟨(((h.keep0 k3).keep0 k4).add (j := l) (by omega) hl4 (h.far (by omega))).add (j := a) (by omega) (by omega) (h.far (by omega)) |>.less (fun j e => ?_), ⟨hb, Meter.z32_length⟩, areaP.keep ha k4 (fun e => e), by omega, fun e => ?_, fun e => ?_, (aHalf_ok _ _).1, (aHalf_ok _ _).2⟩
 · rcases e with e | e | e
   · exact .inl (.inl e)
   · exact .inl (.inr e)
   · exact .inr e
 · have := (h.be l e).2.1; omega
 · have := (h.be a e).2.1; omega
theorem open_zero {w wr : World} {z : Zf} {v : Zv} {D : Dk} {t : Mt} {B : Nat → Prop} (h : Pb w wr z v D t B) (hoff : D.off = false) (hc : t.count = 0) (he : 0 ≤ t.epoch ∧ t.epoch ≤ 9223372036854775807) :
    Calls Tryz.prog 33 #[.pointer (some ⟨z.c.v, 0, none⟩), .pointer (some ⟨z.g, 0, none⟩), .pointer (some ⟨z.m, 0, none⟩)] wr fun r w' => ∃ l a, r = .returned (.tuple #[.pointer (some ⟨l, 0, none⟩), .slice none 0 0, .int .i64 0]) ∧ Pg w w' z v D t l a (log0 D t) B ∧ Kp nob wr w' := by
 have hg := Meter.get_any t z.m (some ⟨z.g, 0, none⟩) D.off wr h.me (Meter.Cd.pow h.cd)
 have hd := fun w' (k : Kp nob wr w') => down_any D z.g z.N z.S v.W v.cW w' (h.cd.keep0 k)
 have hhf := fun w' (k : Kp nob wr w') => half_c D z.g z.N z.S v.W v.cW t.epoch w' (h.cd.keep0 k) he
 obtain ⟨A0, hA0⟩ : ∃ A0, A0 = aHalf D.now.length (odd t.epoch) := ⟨_, rfl⟩
 simp only [odd_is, ← hA0] at hhf
 rw [hoff] at hg hd
 have HG := Lib.hid hg
 have HD := Lib.hid hd
 have HHF := Lib.hid hhf
 have HH := Lib.hid h
 have HVS := Lib.hid (Meter.val_size t h.me.k.root)
 have HLE := Lib.hid (show (Meter.vcells t).length = (Meter.vcells Meter.none_).toArray.size by rw [List.size_toArray, Meter.vcells_length _ h.me.k.root, Meter.vcells_length Meter.none_ Meter.z32_length])
 have HA := Lib.hid hA0
 have HC := Lib.hid hc
 have hz := Meter.zval_run
 clear hg hd hhf h hA0 hc he hoff
 go_enter Tryz.func33, Tryz.ntmps33
 go_wp2_with (first
  | (go_at_call 54; refine HG.out.mono ?_; rintro r w1 ⟨rfl, k1⟩; have HK1 := Lib.hid k1; clear k1)
  | (refine wpList_store_new rfl 49 (.tmp 9) (.tmp 26) rfl _ (Meter.vcells t) rfl rfl HLE.out HVS.out (Meter.vcells_one _) ?_; intro w2 hB2 k2 z2; have HK2 := Lib.hid (HK1.out.trans k2 (fun _ e => e.elim)); have HB2 := Lib.hid hB2; clear hB2 k2 z2)
  | (go_at_call 55; refine (HD.out _ HK2.out).mono ?_; rintro r w3 ⟨rfl, rfl⟩)
  | fail)
 obtain ⟨gs, hgs⟩ : ∃ gs, gs = w1.heap.size := ⟨_, rfl⟩
 rw [← hgs] at HB2 ⊢
 have HGS := Lib.hid hgs
 clear hgs
 refine reg_begin (fun w' => Kp nob w2 w') (by kernel_rfl) ((Kp.refl nob w2).drew) (fun HS => ?_)
 refine reg_tk (v := .pointer (some ⟨z.c.v, 0, none⟩)) 0 34 rfl rfl (by kernel_rfl) (by rfl) HS (fun w' hw => by go_simp) ?_; simp only [Act.put, zp1, zp2, zp3]
 refine reg_tk (v := .pointer (some ⟨z.g, 0, none⟩)) 1 35 rfl rfl (by kernel_rfl) (by rfl) HS (fun w' hw => by go_simp) ?_; simp only [Act.put, zp1, zp2, zp3]
 refine reg_tk (v := .pointer (some ⟨z.m, 0, none⟩)) 2 36 rfl rfl (by kernel_rfl) (by rfl) HS (fun w' hw => by go_simp) ?_; simp only [Act.put, zp1, zp2, zp3]
 refine reg_tk (v := .pointer (some ⟨z.g, 0, none⟩)) 3 37 rfl rfl (by kernel_rfl) (by rfl) HS (fun w' hw => by go_simp) ?_; simp only [Act.put, zp1, zp2, zp3]
 refine reg_tk (v := .pointer (some ⟨gs, 1, none⟩)) 4 38 rfl rfl (by kernel_rfl) (by rfl) HS (fun w' hw => by go_simp) ?_; simp only [Act.put, zp1, zp2, zp3]
 refine reg_tk (v := .int .i64 t.epoch) 5 39 rfl rfl (by kernel_rfl) (by rfl) HS (fun w' hw => by have c := (HB2.out.keep hw (fun e => e)).cell 1; rw [vcells_1] at c; go_simp) ?_; simp only [Act.put, zp1, zp2, zp3]
 refine reg_tk (v := .pointer (some ⟨gs, 1, none⟩)) 7 41 rfl rfl (by kernel_rfl) (by rfl) HS (fun w' hw => by go_simp) ?_; simp only [Act.put, zp1, zp2, zp3]
 refine reg_tk (v := .int .i64 t.epoch) 8 42 rfl rfl (by kernel_rfl) (by rfl) HS (fun w' hw => by have c := (HB2.out.keep hw (fun e => e)).cell 1; rw [vcells_1] at c; go_simp) ?_; simp only [Act.put, zp1, zp2, zp3]
 refine reg_call 6 (some 40) rfl rfl (by kernel_rfl) (by rfl) _ _ (exec_func 44 _ _ [.pointer (some ⟨z.g, 0, none⟩), .int .i64 t.epoch] rfl (by kernel_rfl) rfl) ?_
 refine (HHF.out _ (HK2.out.drew)).mono ?_
 rintro r w3 ⟨a, rfl, ha, k3, hn⟩
 have HS3 : Kp nob w2 w3 := HS.trans k3 (fun _ e => e.elim)
 refine ⟨_, rfl, HS3, fun _ => ?_⟩
 simp only [Act.put, zp1, zp2, zp3]
 refine reg_tk (v := .agg (tcells a t.epoch 0 Meter.z32).toArray) 9 43 rfl rfl (by kernel_rfl) (by rfl) HS3 (fun w' hw => exec_bld _ _ rfl [(0, .pointer (some ⟨a, 0, none⟩)), (1, .int .i64 t.epoch)] _ rfl (build_tz a t.epoch w')) ?_; simp only [Act.put, zp1, zp2, zp3]
 refine reg_tk (v := .agg (lcells z a ⟨A0, t.epoch, 0, Meter.z32, false, false⟩).toArray) 10 44 rfl rfl (by kernel_rfl) (by rfl) HS3 (fun w' hw => exec_bld _ _ rfl [(0, .pointer (some ⟨z.c.v, 0, none⟩)), (1, .pointer (some ⟨z.g, 0, none⟩)), (2, .pointer (some ⟨z.m, 0, none⟩)), (3, .agg (tcells a t.epoch 0 Meter.z32).toArray)] _ rfl (build_log z a A0 t.epoch w')) ?_; simp only [Act.put, zp1, zp2, zp3]
 refine reg_step (v := .pointer (some ⟨w3.heap.size, 0, none⟩)) (w' := w3.alloc (.cells (lcells z a ⟨A0, t.epoch, 0, Meter.z32, false, false⟩).toArray 106)) 11 (some 45) rfl rfl (by kernel_rfl) (by rfl) (by go_simp) (HS3.alloc _) (fun HS4 => ?_)
 simp only [Act.put, zp1, zp2, zp3]
 refine reg_tk (v := .pointer (some ⟨w3.heap.size, 0, none⟩)) 12 11 rfl rfl (by kernel_rfl) (by rfl) HS4 (fun w' hw => by go_simp) ?_; simp only [Act.put, zp1, zp2, zp3]
 refine reg_end (by kernel_rfl) ?_
 have HP := Lib.hid (HH.out.log0_ (HK2.out.trans HS3 (fun _ e => e.elim)) (by rw [← HA.out]; exact ha) (by have h1 := HK2.out.size; have h2 : w2.drew.heap.size = w2.heap.size := rfl; omega) rfl ((Kp.refl nob w3).alloc _) (by have := Blk.new w3 106 (lcells z a ⟨A0, t.epoch, 0, Meter.z32, false, false⟩); unfold log0; rw [← HA.out]; exact this))
 have HK4 := Lib.hid (HK2.out.trans HS4 (fun _ e => e.elim))
 have c0 := (HB2.out.keep HS4 (fun e => e)).cell 0
 rw [vcells_0, HC.out] at c0
 clear HS HS3 HS4 k3 hn ha
 go_wp2
 go_ret3
 exact ⟨_, a, rfl, HP.out, HK4.out⟩
end Com
namespace Com
open Go Go.RowKit Kit
open Rec (Rec good ftot fsec split split_flat Rrow Sr SrOk recB good_bounds)
open Ideal (Ts Thing hashT Ans Iq Iw)
open Vault (Vc Vt Vx Vq nonce Vb vx_ideal)
open Disk
open Meter (Mt Mk Mb Mz nxt vcells)
def kone : List UInt8 := 1 :: List.replicate 31 0
theorem kone_len : kone.length = 32 := rfl
theorem kone_build (w : World) : (Instr.build 77 #[(0, bv 1)]).run Tryz.prog w = .ok (.agg (bvs kone).toArray) w := by kernel_rfl
def pcells (z : Zf) (l : Option Nat) : List Value := [.pointer (some ⟨z.c.v, 0, none⟩), .pointer (some ⟨z.g, 0, none⟩), .pointer (some ⟨z.m, 0, none⟩), .pointer (l.map fun j => ⟨j, 0, none⟩)]
structure NewP (w w' : World) (n lim most : Int) (z : Zf) (v : Zv) (p : Nat) : Prop where
 b : Pb w w' z v (new (clamp n)) (Meter.fresh most) (fun j => j = p)
 p : Blk w' p 42 (pcells z none)
 o : v.x.o = .dream []
 cl : v.x.cl = 0
 sl : v.x.sl = []
 lim : z.c.lim = lim.toNat
theorem newP_of {w w1 w2 w3 w4 w5 : World} {n lim most : Int} {p : Nat} {F : Nat → Prop} {vv m g N S : Nat} (hq : Iq w nob w1 p F []) (hv : Vb w2 vv m (Vault.imk p) kone lim.toNat [] 0) (k2 : Kp nob w1 w2) (n1 : w1.heap.size ≤ vv) (n2 : w1.heap.size ≤ m)
    (hd : Cd w3 g N S none 0 (new (clamp n))) (k3 : Kp nob w2 w3) (hn : ∀ k, dF g N S none k → w2.heap.size ≤ k) (hm : Mb w4 w3.heap.size (some ⟨g, 0, none⟩) (Meter.fresh most)) (k4 : Kp nob w3 w4) (k5 : Kp nob w4 w5) (hp : Blk w5 w4.heap.size 42 [.pointer (some ⟨vv, 0, none⟩), .pointer (some ⟨g, 0, none⟩), .pointer (some ⟨w3.heap.size, 0, none⟩), .pointer none]) :
    ∃ z v, pcells z none = [.pointer (some ⟨vv, 0, none⟩), .pointer (some ⟨g, 0, none⟩), .pointer (some ⟨w3.heap.size, 0, none⟩), .pointer none] ∧ NewP w w5 n lim most z v w4.heap.size := by
 have hvx := vx_ideal hq hv k2 n1 n2
 have s2 := k2.size
 have s3 := k3.size
 have s4 := k4.size
 have s5 := k5.size
 have s1 := hq.k.size
 have hml := hm.b.lt
 have hpl := hp.lt
 refine ⟨⟨⟨vv, m, p, kone, lim.toNat, w.heap.size⟩, g, N, S, w3.heap.size⟩, ⟨⟨F, fun i => F i ∨ i = vv ∨ i = m, .dream [], [], 0⟩, none, 0⟩, rfl, ⟨⟨((hvx.keep0 k3).keep0 k4).keep0 k5, ⟨[], rfl⟩, (hd.keep0 k4).keep0 k5, hm.keep0 k5, (((hq.k.trans k2 (fun _ e => e.elim)).trans k3 (fun _ e => e.elim)).trans k4 (fun _ e => e.elim)).trans k5 (fun _ e => e.elim), fun j e => ?_, fun j e => ⟨fun e2 => ?_, fun e2 => ?_⟩, fun e => ?_, fun j e => ⟨?_, ?_, fun e2 => ?_⟩⟩, hp, rfl, rfl, rfl, rfl⟩⟩
 · rcases e with e | e | e
   · exact hvx.ge j e
   · have := hn j e; omega
   · have e : j = w3.heap.size := e; omega
 · have h1 := hvx.lt j e
   have h2 := hn j e2
   omega
 · have h1 := hvx.lt j e
   have e2 : j = w3.heap.size := e2
   omega
 · exact absurd (hd.lt w3.heap.size e) (Nat.lt_irrefl _)
 · omega
 · omega
 · rcases e2 with e2 | e2 | e2
   · have h1 := hvx.lt j e2; omega
   · have h2 := hd.lt j e2; omega
   · have e2 : j = w3.heap.size := e2; omega
theorem place_any (n lim most : Int) (w : World) :
    Calls Tryz.prog 10 #[.bool false, .int .i64 n, .int .i64 lim, .int .i64 most] w fun r w' => ∃ z v p, r = .returned (.pointer (some ⟨p, 0, none⟩)) ∧ NewP w w' n lim most z v p := by
 go_enter Tryz.func10, Tryz.ntmps10
 go_wp2_with (first
  | (go_at_call 29; refine (Ideal.new_i _).mono ?_; rintro r w1 ⟨p, F, rfl, hq⟩; have HQ := Lib.hid hq; clear hq)
  | (refine wpList_built rfl 77 _ rfl (.agg (bvs kone).toArray) (by exact exec_bld _ _ rfl [(0, bv 1)] _ rfl (kone_build _)) ?_)
  | (go_at_call 28; refine (Vault.ideal_any p kone lim _ kone_len).mono ?_; rintro r w2 ⟨vv, m, rfl, hv, k2, n1, n2⟩; have HV := Lib.hid (And.intro hv (And.intro k2 (And.intro n1 n2))); clear hv k2 n1 n2)
  | (go_at_call 31; refine (Disk.new_any n _).mono ?_; rintro r w3 ⟨g, N, S, rfl, hd, k3, hn⟩; have HD := Lib.hid (And.intro hd (And.intro k3 hn)); clear hd k3 hn)
  | (go_at_call 32; refine (Meter.new_any most (some ⟨g, 0, none⟩) _).mono ?_; rintro r w4 ⟨rfl, hm, k4⟩; have HM := Lib.hid (And.intro hm k4); clear hm k4)
  | fail)
 go_ret
 obtain ⟨z, v, _, h⟩ := newP_of (lim := lim) (w5 := w4.alloc (.cells #[.pointer (some ⟨vv, 0, none⟩), .pointer (some ⟨g, 0, none⟩), .pointer (some ⟨w3.heap.size, 0, none⟩), .pointer none] 42)) HQ.out HV.out.1 HV.out.2.1 HV.out.2.2.1 HV.out.2.2.2 HD.out.1 HD.out.2.1 HD.out.2.2 HM.out.1 HM.out.2 ((Kp.refl nob w4).alloc _) (Blk.new w4 _ _)
 exact ⟨z, v, _, rfl, h⟩
end Com
namespace Com
open Go Go.RowKit Kit
open Disk
theorem pcells_0 (z : Zf) (l : Option Nat) : (pcells z l)[0]? = some (.pointer (some ⟨z.c.v, 0, none⟩)) := rfl
theorem pcells_1 (z : Zf) (l : Option Nat) : (pcells z l)[1]? = some (.pointer (some ⟨z.g, 0, none⟩)) := rfl
theorem pcells_2 (z : Zf) (l : Option Nat) : (pcells z l)[2]? = some (.pointer (some ⟨z.m, 0, none⟩)) := rfl
theorem pcells_3 (z : Zf) (l : Option Nat) : (pcells z l)[3]? = some (.pointer (l.map fun j => ⟨j, 0, none⟩)) := rfl
theorem popen_any {wr : World} {p : Nat} {z : Zf} {lo : Option Nat} (F : Nat → Prop) (R : Option Nat → Option Addr → Nat → Nat → Int → World → Prop) (hp : Blk wr p 42 (pcells z lo)) (hF : ¬ F p)
    (hO : ∀ w1, Kp nob wr w1 → Calls Tryz.prog 33 #[.pointer (some ⟨z.c.v, 0, none⟩), .pointer (some ⟨z.g, 0, none⟩), .pointer (some ⟨z.m, 0, none⟩)] w1 fun r w' => ∃ (l : Option Nat) (X : Option Addr) (nx cx : Nat) (e : Int), r = .returned (.tuple #[.pointer (l.map fun j => ⟨j, 0, none⟩), .slice X nx cx, .int .i64 e]) ∧ R l X nx cx e w' ∧ Kp F w1 w') :
    Calls Tryz.prog 12 #[.pointer (some ⟨p, 0, none⟩)] wr fun r w' => ∃ (l : Option Nat) (X : Option Addr) (nx cx : Nat) (e : Int) (w2 : World), r = .returned (.tuple #[.slice X nx cx, .int .i64 e]) ∧ R l X nx cx e w2 ∧ Kp (oneB p) w2 w' ∧ Blk w' p 42 (pcells z l) ∧ Kp (fun j => F j ∨ j = p) wr w' := by
 have HP := Lib.hid hp
 have HF := Lib.hid hF
 have HO := Lib.hid hO
 clear hp hF hO
 go_enter Tryz.func12, Tryz.ntmps12
 go_wp2
 refine reg_begin (fun w' => Kp F wr w') (by kernel_rfl) ((Kp.refl F wr).drew) (fun HS => ?_)
 refine reg_tk (v := .pointer (some ⟨p, 0, none⟩)) 0 8 rfl rfl (by kernel_rfl) (by rfl) HS (fun w' hw => by go_simp) ?_; simp only [Act.put, zp1, zp2, zp3]
 refine reg_tk (v := .pointer (some ⟨p, 0, none⟩)) 1 9 rfl rfl (by kernel_rfl) (by rfl) HS (fun w' hw => by go_simp) ?_; simp only [Act.put, zp1, zp2, zp3]
 refine reg_tk (v := .pointer (some ⟨p, 0, none⟩)) 2 10 rfl rfl (by kernel_rfl) (by rfl) HS (fun w' hw => by go_simp) ?_; simp only [Act.put, zp1, zp2, zp3]
 refine reg_tk (v := .pointer (some ⟨z.c.v, 0, none⟩)) 3 11 rfl rfl (by kernel_rfl) (by rfl) HS (fun w' hw => by have c := (HP.out.keep hw HF.out).cell 0; rw [pcells_0] at c; go_simp) ?_; simp only [Act.put, zp1, zp2, zp3]
 refine reg_tk (v := .pointer (some ⟨p, 0, none⟩)) 4 12 rfl rfl (by kernel_rfl) (by rfl) HS (fun w' hw => by go_simp) ?_; simp only [Act.put, zp1, zp2, zp3]
 refine reg_tk (v := .pointer (some ⟨p, 0, none⟩)) 5 13 rfl rfl (by kernel_rfl) (by rfl) HS (fun w' hw => by go_simp) ?_; simp only [Act.put, zp1, zp2, zp3]
 refine reg_tk (v := .pointer (some ⟨p, 1, none⟩)) 6 14 rfl rfl (by kernel_rfl) (by rfl) HS (fun w' hw => by go_simp) ?_; simp only [Act.put, zp1, zp2, zp3]
 refine reg_tk (v := .pointer (some ⟨z.g, 0, none⟩)) 7 15 rfl rfl (by kernel_rfl) (by rfl) HS (fun w' hw => by have c := (HP.out.keep hw HF.out).cell 1; rw [pcells_1] at c; go_simp) ?_; simp only [Act.put, zp1, zp2, zp3]
 refine reg_tk (v := .pointer (some ⟨p, 0, none⟩)) 8 16 rfl rfl (by kernel_rfl) (by rfl) HS (fun w' hw => by go_simp) ?_; simp only [Act.put, zp1, zp2, zp3]
 refine reg_tk (v := .pointer (some ⟨p, 0, none⟩)) 9 17 rfl rfl (by kernel_rfl) (by rfl) HS (fun w' hw => by go_simp) ?_; simp only [Act.put, zp1, zp2, zp3]
 refine reg_tk (v := .pointer (some ⟨p, 2, none⟩)) 10 18 rfl rfl (by kernel_rfl) (by rfl) HS (fun w' hw => by go_simp) ?_; simp only [Act.put, zp1, zp2, zp3]
 refine reg_tk (v := .pointer (some ⟨z.m, 0, none⟩)) 11 19 rfl rfl (by kernel_rfl) (by rfl) HS (fun w' hw => by have c := (HP.out.keep hw HF.out).cell 2; rw [pcells_2] at c; go_simp) ?_; simp only [Act.put, zp1, zp2, zp3]
 refine reg_call 12 (some 20) rfl rfl (by kernel_rfl) (by rfl) _ _ (exec_func 33 _ _ [.pointer (some ⟨z.c.v, 0, none⟩), .pointer (some ⟨z.g, 0, none⟩), .pointer (some ⟨z.m, 0, none⟩)] rfl (by kernel_rfl) rfl) ?_
 refine (HO.out _ ((Kp.refl nob wr).drew)).mono ?_
 rintro r w2 ⟨l, X, nx, cx, e, rfl, hR, k2⟩
 have HS2 : Kp F wr w2 := HS.trans k2 (fun i e => .inl e)
 refine ⟨_, rfl, HS2, fun _ => ?_⟩
 simp only [Act.put, zp1, zp2, zp3]
 refine reg_tk (v := .tuple #[.pointer (l.map fun j => ⟨j, 0, none⟩), .slice X nx cx, .int .i64 e]) 13 7 rfl rfl (by kernel_rfl) (by rfl) HS2 (fun w' hw => by go_simp) ?_; simp only [Act.put, zp1, zp2, zp3]
 refine reg_tk (v := .pointer (l.map fun j => ⟨j, 0, none⟩)) 14 21 rfl rfl (by kernel_rfl) (by rfl) HS2 (fun w' hw => by go_simp) ?_; simp only [Act.put, zp1, zp2, zp3]
 refine reg_tk (v := .slice X nx cx) 15 22 rfl rfl (by kernel_rfl) (by rfl) HS2 (fun w' hw => by go_simp) ?_; simp only [Act.put, zp1, zp2, zp3]
 refine reg_tk (v := .int .i64 e) 16 23 rfl rfl (by kernel_rfl) (by rfl) HS2 (fun w' hw => by go_simp) ?_; simp only [Act.put, zp1, zp2, zp3]
 refine reg_tk (v := .pointer (l.map fun j => ⟨j, 0, none⟩)) 17 4 rfl rfl (by kernel_rfl) (by rfl) HS2 (fun w' hw => by go_simp) ?_; simp only [Act.put, zp1, zp2, zp3]
 refine reg_tk (v := .slice X nx cx) 18 5 rfl rfl (by kernel_rfl) (by rfl) HS2 (fun w' hw => by go_simp) ?_; simp only [Act.put, zp1, zp2, zp3]
 refine reg_tk (v := .int .i64 e) 19 6 rfl rfl (by kernel_rfl) (by rfl) HS2 (fun w' hw => by go_simp) ?_; simp only [Act.put, zp1, zp2, zp3]
 refine reg_end (by kernel_rfl) ?_
 have hb := HP.out.keep HS2 HF.out
 have c3 := hb.cell 3
 rw [pcells_3] at c3
 have f3 := hb.frozen 3
 have HB := Lib.hid hb
 have HR := Lib.hid hR
 have HK := Lib.hid HS2
 clear hb hR HS2 HS k2
 go_wp2
 go_ret2
 refine ⟨l, X, nx, cx, e, w2, rfl, HR.out, (Kp.refl (oneB p) w2).setCell (p := ⟨p, 3, none⟩) (.inl rfl) _, ?_, (HK.out.mono (fun i _ e => .inl e)).setCell (p := ⟨p, 3, none⟩) (.inl (.inr rfl)) _⟩
 exact HB.out.set_ 3 (.pointer (l.map fun j => ⟨j, 0, none⟩))
end Com
end Go.Proofs.YtigdlnfgdjfdoaaGreat
