/- Lemmas: SegSt ComQ ComR. -/
import Derived.Test.YtigdlnfgdjfdoaaGreatZK31
set_option maxHeartbeats 4000000
set_option maxRecDepth 100000
set_option linter.unusedVariables false
set_option linter.unusedSimpArgs false
namespace Go.Proofs.YtigdlnfgdjfdoaaGreat
namespace Seg
open Go Go.RowKit Kit
open Ideal (Ts Thing Ans Arg Args hashT zc zc_run zc_length zc_eq args_one)
open Sha (Pc PcsOk catP)
open Vault
def epN : ByteArray := ⟨#[101, 112, 111, 99, 104]⟩
def stN (e : Int) : List UInt8 := textB epN ++ num8 e
theorem stN_len (e : Int) : (stN e).length ≤ 100 := by
 have := textB_le epN
 have hz : epN.size = 5 := rfl
 unfold stN; rw [List.length_append, num8_length]; omega
theorem start_c (c : Vc) (x : Vt) (e : Int) (w : World) (h : Vx w c x) (hf : x.o.few 100000) (hlong : x.o.long) :
    Calls Tryz.prog 49 #[.pointer (some ⟨c.v, 0, none⟩), .int .i64 e] w fun r w' => ∃ F2 P2, r = .returned (.agg (bvs (x.o.val (hashT (stN e)) 32)).toArray) ∧ Vq w c x w' ⟨F2, P2, x.o.nx (hashT (stN e)), x.sl, x.cl⟩ := by
 obtain ⟨b, hbe⟩ : ∃ b, b = stN e := ⟨_, rfl⟩
 have hlb := stN_len e
 have h32 := hlong.len (hashT (stN e)) (.inl rfl)
 rw [← hbe] at hlb h32 ⊢
 obtain ⟨V, hV⟩ : ∃ V, V = x.o.val (hashT b) 32 := ⟨_, rfl⟩
 rw [← hV] at h32 ⊢
 have hH := fun (w' : World) (k : Kp nob w w') (A' : Option Addr) (c' : Nat) (ha : Arg w' x.P A' b.length c' b) => hash_v c x (some ⟨w'.heap.size, 0, none⟩) 1 1 [⟨A', b.length, c', b⟩] (w'.alloc (.cells #[.slice A' b.length c'] 58)) ((h.keep0 k).alloc _) (args_one ha (fun i e => Nat.lt_of_lt_of_le (h.lt i e) k.size)) hf (by simp [catP]; omega)
 have hcp : ∀ A' c', catP [⟨A', b.length, c', b⟩] = b := fun A' c' => by simp [catP]
 simp only [hcp, ← hV] at hH
 have HH := Lib.hid hH
 have HLB := Lib.hid hlb
 have HBE := Lib.hid hbe
 clear hH hcp hlb hbe hV
 have hz := zc_run
 have k0 : Kp nob w ((w.alloc (.cells zc.toArray 47)).alloc (.cells #[.slice none 0 0] 137)) := ((Kp.refl nob w).alloc _).alloc _
 have hw := isW_new (w.alloc (.cells zc.toArray 47))
 rw [show (w.alloc (.cells zc.toArray 47)).heap.size = w.heap.size + 1 by simp] at hw
 have HW := Lib.hid hw
 have HB := Lib.hid ((Blk.new w 47 zc).alloc (.cells #[.slice none 0 0] 137))
 have HK := Lib.hid k0
 have HX := Lib.hid h
 have HF := Lib.hid h32
 have hsz : ((w.alloc (.cells zc.toArray 47)).alloc (.cells #[.slice none 0 0] 137)).heap.size = w.heap.size + 2 := by simp
 have HSZ := Lib.hid hsz
 have HRW : Hid (Row (((w.alloc (.cells zc.toArray 47)).alloc (.cells #[.slice none 0 0] 137)).alloc (.cells #[.string epN] 9)) (some ⟨w.heap.size + 1 + 1, 0, none⟩) (svs [epN])) := Lib.hid (by
  have := row_new ((w.alloc (.cells zc.toArray 47)).alloc (.cells #[.slice none 0 0] 137)) (svs [epN]) 9
  rw [hsz] at this
  exact this)
 have HFR : Hid (∀ k, ab (some (⟨w.heap.size + 1 + 1, 0, none⟩ : Addr)) = some k → ¬ WF (w.heap.size + 1) none k) := Lib.hid (fun k e => by
  cases e
  intro e
  rcases e with e | e
  · simp at e
  · cases e)
 have HTB : Hid (([] : List UInt8).length + ([epN].flatMap textB).length ≤ 1099511627776) := Lib.hid (by have := textB_le epN; have hz : epN.size = 5 := rfl; simp; omega)
 have HEP : Hid (epN = ⟨#[101, 112, 111, 99, 104]⟩) := Lib.hid rfl
 clear hw k0 h hf hlong hsz h32
 go_enter Tryz.func49, Tryz.ntmps49
 go_wp2_with fail
 refine (wText (w.heap.size + 1) none [] (some ⟨w.heap.size + 1 + 1, 0, none⟩) 1 1 [epN] _ (HW.out.alloc _) rfl HRW.out HFR.out (by omega) HTB.out).mono ?_
 rintro r w2 ⟨rfl, A2, h1, k2, g2⟩
 have H1 := Lib.hid h1
 have HK2 : Hid (Kp nob w w2) := Lib.hid ((HK.out.alloc _).since k2 (fun i e => by
  rcases e with rfl | e
  · omega
  · cases e))
 have HB2 : Hid (Blk w2 w.heap.size 47 zc) := Lib.hid ((HB.out.alloc _).keep k2 (fun e => by
  rcases e with e | e
  · omega
  · cases e))
 have HG2 : Hid (∀ k, ab A2 = some k → w.heap.size + 1 < k) := Lib.hid (fun k e => by
  rcases g2 with h | ⟨j, h, hj⟩
  · rw [h] at e; cases e
  · rw [h] at e; cases e; simp at hj; omega)
 clear h1 k2 g2
 have e1 : ([] : List UInt8) ++ [epN].flatMap textB = textB epN := by simp
 rw [e1] at H1
 clear e1
 go_wp2_with fail
 refine (wNum (w.heap.size + 1) A2 (textB epN) (some ⟨w2.heap.size, 0, none⟩) 1 1 [e] _ (H1.out.alloc _) rfl (row_new w2 (ivs [e]) _) H1.out.apart (by omega) (by have := textB_le epN; have hz : epN.size = 5 := rfl; omega)).mono ?_
 rintro r w3 ⟨rfl, A3, h1, k3, g3⟩
 have e2 : textB epN ++ [e].flatMap num8 = stN e := by simp [stN]
 rw [e2, ← HBE.out] at h1
 have H3 := Lib.hid h1
 have HK3 : Hid (Kp nob w w3) := Lib.hid ((HK2.out.alloc _).since k3 (fun i e => by
  rcases e with rfl | e
  · omega
  · have := HG2.out i e; omega))
 have HB3 : Hid (Blk w3 w.heap.size 47 zc) := Lib.hid ((HB2.out.alloc _).keep k3 (fun e => by
  rcases e with e | e
  · omega
  · have := HG2.out _ e; omega))
 clear h1 g3 k3 e2
 go_wp2_with fail
 refine (wBytes (w.heap.size + 1) A3 b _ H3.out (by have := HLB.out; omega)).mono ?_
 rintro r w4 ⟨A', c', rfl, h5, h6, h7, h8⟩
 have HK4 := Lib.hid (HK3.out.trans h6 (fun _ e => e.elim))
 have HB4 := Lib.hid (HB3.out.keep h6 (fun e => e))
 have HN4 : Hid (∀ k, ab A' = some k → w.heap.size ≤ k ∧ k < w4.heap.size) := Lib.hid (fun k e => ⟨Nat.le_trans HK3.out.size (h7 k e), h5.lt k e⟩)
 have HA4 : Hid (Arg w4 x.P A' b.length c' b) := Lib.hid ⟨rfl, h5.row, .inr (fun k e e2 => by have := HX.out.lt k e2; have := (HN4.out k e).1; omega), h5.cap.1, h5.cap.2, h8⟩
 have HC := Lib.hid (HH.out w4 HK4.out A' c' HA4.out)
 clear h5 h6 h7 h8 HH
 go_wp2_with fail
 refine HC.out.mono ?_
 rintro r w5 ⟨F2, P2, rfl, q⟩
 have HN := Lib.hid (q.new HX.out (i := w.heap.size) (Nat.le_refl _) (by have := HB4.out.lt; simp; omega))
 have HB5 := Lib.hid ((HB4.out.alloc (.cells #[.slice A' b.length c'] 58)).keep q.kp (fun e => by have := HX.out.lt _ e; omega))
 have HQ := Lib.hid (q.back (HK4.out.alloc (.cells #[.slice A' b.length c'] 58)))
 clear q HC
 go_wp2_with (first
  | (refine wpList_store_blk rfl 47 (.tmp 4) (.tmp 14) rfl _ _ _ (bvs V) HB5.out rfl rfl (by rw [bvs_length, HF.out, zc_length]) (by rw [bvs_length, HF.out]; kernel_rfl) (bvs_one _) ?_; intro w6 hB6 k6 z6)
  | fail)
 exact bodyPost_ret (results_cell_row rfl _ _ w.heap.size _ _ _ _ rfl hB6 rarr_under rfl (by rw [List.size_toArray]; exact rarr_size V HF.out)) rfl
  ⟨F2, P2, rfl, HQ.out.over k6 (fun i _ e => by have e : i = w.heap.size := e; subst e; exact ⟨Nat.le_refl _, HN.out⟩) HX.out.sz⟩
end Seg
namespace Com
open Go Go.RowKit Kit
open Rec (Rec good ftot fsec split split_flat Rrow Sr SrOk recB good_bounds fit fit_cons room room_cons room_le room_pos split_more split_nil)
open Ideal (Ts Thing hashT Ans)
open Vault (Vc Vt Vx Vq nonce)
open Disk
open Meter (Mt Mk Mb Mz nxt)
open Seg (pk)
theorem fit_ftot : ∀ (rs : List Rec) (size : Nat), size ≤ 16384 → size + (ftot (rs.take (fit size rs)) - 48) ≤ 16384
 | [], size, h => by simp [ftot]; omega
 | r :: rs, size, h => by
   rw [fit_cons]
   split
   · simp [ftot]; omega
   · rename_i h2
     have := fit_ftot rs (size + 63 + r.body.length) (by omega)
     have hf : ftot (r :: rs.take (fit (size + 63 + r.body.length) rs)) = 63 + r.body.length + ftot (rs.take (fit (size + 63 + r.body.length) rs)) := by simp [ftot]; omega
     rw [List.take_succ_cons, hf]
     have : 48 ≤ ftot (rs.take (fit (size + 63 + r.body.length) rs)) := by unfold ftot; omega
     omega
theorem split_pks (n : Nat) : ∀ (rs : List Rec), rs.length ≤ n → (∀ r ∈ rs, good r = true) → ∀ l ∈ split rs, Pks l := by
 induction n with
 | zero =>
   intro rs hn hg l hl
   rw [List.eq_nil_of_length_eq_zero (by omega : rs.length = 0), split_nil] at hl
   cases hl
 | succ n ih =>
   intro rs hn hg l hl
   by_cases h0 : rs = []
   · rw [h0, split_nil] at hl; cases hl
   · have hp := room_pos rs h0
     rw [split_more rs h0] at hl
     rcases List.mem_cons.1 hl with rfl | hl
     · refine ⟨fun e => ?_, fun r hr => hg r (List.mem_of_mem_take hr), ?_⟩
       · have := congrArg List.length e
         rw [List.length_take] at this
         have h2 : rs.length ≠ 0 := fun e => h0 (List.eq_nil_of_length_eq_zero e)
         simp only [List.length_nil] at this; omega
       · cases rs with
         | nil => exact absurd rfl h0
         | cons r rs =>
           have hb := good_bounds r (hg r (by simp))
           rw [room_cons, List.take_succ_cons]
           have := fit_ftot rs (48 + 63 + r.body.length) (by omega)
           have hf : ftot (r :: rs.take (fit (48 + 63 + r.body.length) rs)) = 63 + r.body.length + ftot (rs.take (fit (48 + 63 + r.body.length) rs)) := by simp [ftot]; omega
           have : 48 ≤ ftot (rs.take (fit (48 + 63 + r.body.length) rs)) := by unfold ftot; omega
           rw [hf]; omega
     · exact ih (rs.drop (room rs)) (by rw [List.length_drop]; omega) (fun r hr => hg r (List.mem_of_mem_drop hr)) l hl
theorem ftot_good {rs : List Rec} (h : ∀ r ∈ rs, r.body.length ≤ 4096) : ftot rs ≤ 48 + rs.length * 4159 := by
 induction rs with
 | nil => simp [ftot]
 | cons r rs ih =>
   have h1 := h r (by simp)
   have h2 := ih (fun q hq => h q (by simp [hq]))
   have hf : ftot (r :: rs) = 63 + r.body.length + ftot rs := by simp [ftot]; omega
   rw [hf, List.length_cons]; omega
theorem odd_is (e : Int) : decide (e % 2 = 1) = odd e := by
 unfold odd
 rcases Int.emod_two_eq e with h | h <;> rw [h] <;> decide
theorem build_tail0 (f : Fin 32 → UInt8) (a : Nat) (e : Int) (w : World) : (Instr.build 104 #[(0, .pointer (some ⟨a, 0, none⟩)), (1, .int .i64 e), (3, .agg (bvs (List.ofFn f)).toArray)]).run Tryz.prog w = .ok (.agg (tcells a e 0 (List.ofFn f)).toArray) w := by kernel_rfl
theorem build_tail (a : Nat) (e : Int) (h : List UInt8) (hl : h.length = 32) (w : World) : (Instr.build 104 #[(0, .pointer (some ⟨a, 0, none⟩)), (1, .int .i64 e), (3, .agg (bvs h).toArray)]).run Tryz.prog w = .ok (.agg (tcells a e 0 h).toArray) w := by
 obtain ⟨f, rfl⟩ : ∃ f : Fin 32 → UInt8, h = List.ofFn f := ⟨fun i => h[i.1]'(by omega), by
  refine List.ext_getElem (by simp [hl]) (fun i h1 h2 => by rw [List.getElem_ofFn])⟩
 exact build_tail0 f a e w
structure TP (w wr : World) (z : Zf) (v : Zv) (B : Nat → Prop) (l a : Nat) (e : Int) (s : Nat) (rs : List Rec) (T : Tr) (w2 : World) (v2 : Zv) (a2 : Nat) : Prop where
 b : Pb w w2 z v2 T.D T.t B
 g : T.e ≠ 8 → Pg w w2 z v2 T.D T.t l a2 T.L B
 sub : ∀ j, own z v2 j → own z v j ∨ wr.heap.size ≤ j
 k : Kp (fun j => own z v j ∨ j = l ∨ j = a) wr w2
 o : v2.x.o = T.o
 cl : v2.x.cl ≤ v.x.cl + rs.length
 onc : Onc e s rs v.x.sl v.x.cl v2.x.sl v2.x.cl
 idle : T.e ≠ 0 → T.e ≠ 8 → v2.x = v.x
theorem Pg.base {w wr : World} {z : Zf} {v : Zv} {D : Dk} {t : Mt} {B : Nat → Prop} {l a : Nat} {L : Lo} (h : Pg w wr z v D t l a L B) : Pb w wr z v D t B := h.b.less (fun j e => .inl e)
theorem Pg.none_ {w wr w2 : World} {z : Zf} {v : Zv} {D : Dk} {t : Mt} {B : Nat → Prop} {l a : Nat} {L : Lo} (h : Pg w wr z v D t l a L B) (k : Kp nob wr w2) (e : Int) (s : Nat) (rs : List Rec) (x : Int) : TP w wr z v B l a e s rs ⟨v.x.o, D, t, L, x⟩ w2 v a :=
 ⟨h.base.keep0 k, fun _ => h.keep0 k, fun j e => .inl e, k.nob _, rfl, Nat.le_add_right _ _, Onc.refl _ _ _ _ _, fun _ _ => rfl⟩
structure Tin (wr : World) (z : Zf) (v : Zv) (D : Dk) (t : Mt) (A : Option Addr) (m d : Nat) (rs : List Rec) (f0 k0 : Nat) : Prop where
 len : rs.length = m
 row : Rrow wr A rs
 max : m ≤ 1000
 body : ∀ r ∈ rs, r.body.length ≤ 4096
 nil : A = none → d = 0
 cap : m ≤ d
 mx : d ≤ maxLen
 few : v.x.o.few f0
 f0 : f0 + 6001 ≤ 80000
 cl : v.x.cl + 1000 ≤ 1000000
 sm : Sm D k0 D.now.length
 k0 : k0 + D.now.length + 2 ≤ 90000
 lim : z.c.lim ≤ 9223372036854775807
 ep : 0 ≤ t.epoch
theorem split_ne {rs : List Rec} (h : rs ≠ []) : split rs ≠ [] := fun e => h (by have := split_flat rs; rw [e] at this; exact this.symm)
theorem turn_pre {ms : List UInt8} {lim : Nat} {o : Ts} {D : Dk} {t : Mt} {rs : List Rec} (hd : ∃ ts, o = .dream ts) (hk : Ok D) (hoff : D.off = false) (hne : rs ≠ []) (hg : ∀ r ∈ rs, good r = true) (he : 0 ≤ t.epoch ∧ t.epoch < 4294967295) (hlim : ¬ lim < rs.length) (hr : ¬ D.now.length / 2 < secsum (split rs)) :
    Pre lim (t.epoch + 1) (o.nx (startT (t.epoch + 1))) D (aHalf D.now.length (odd (t.epoch + 1))) 0 (o.val (startT (t.epoch + 1)) 32) (split rs) := by
 obtain ⟨ts, rfl⟩ := hd
 have h1 := half_room D.now.length (odd (t.epoch + 1))
 have h2 := aHalf_ok D.now.length (odd (t.epoch + 1))
 refine ⟨by omega, trivial, hk, hoff, by omega, h2.2, fun l hl => split_pks _ rs (Nat.le_refl _) hg l hl, by rw [split_flat]; omega, ?_⟩
 exact Ideal.out_length _ _ _ (by decide)
theorem GP.turn {w wr w6 w7 : World} {z : Zf} {v v6 v7 : Zv} {D : Dk} {t : Mt} {B : Nat → Prop} {l a a2 : Nat} {L : Lo} {E : Int} {rs : List Rec} {ls : List (List Rec)} {o : Ts} {A0 : Ar} {h0 : List UInt8} {G : Gr} {ms : List UInt8} {lim : Nat}
    (g : GP w w6 z v6 (fun j => B j ∨ j = a) l a2 a L E 0 ls G w7 v7) (hlo : L.lost = false) (q : Gany ms lim E o D t A0 0 h0 ls G) (hfl : ls.flatten = rs) (hs6 : ∀ j, own z v6 j → own z v j ∨ wr.heap.size ≤ j) (k6 : Kp (own z v) wr w6) (hcl : v6.x.cl = v.x.cl) (hsl : v6.x.sl = v.x.sl) (hl : l < wr.heap.size) (hB : ∀ j, B j → j < wr.heap.size) (h2 : wr.heap.size ≤ a2) (hnl : ¬ B l) (hpos : A0.pos + secsum ls ≤ A0.top) (htop : A0.top ≤ D.now.length) :
    TP w wr z v B l a E 0 rs (ofG L E G) w7 v7 a2 := by
 have hz := k6.size
 refine ⟨g.b.less (fun j e => .inl (.inl e)), fun he => ?_, fun j e => (g.sub j e).elim (hs6 j) (fun e => .inr (by omega)), k6.mono (fun j _ e => .inl e) |>.trans g.k (fun j e => ?_), by rw [ofG_eq]; exact g.o, ?_, ?_, fun h0 h8 => by
  rw [ofG_eq] at h0 h8
  rcases q.done with ⟨h, _⟩ | ⟨h, _⟩
  · exact absurd h h0
  · exact absurd h h8⟩
 · rw [ofG_eq] at he ⊢
   have he0 : G.e = 0 := by
    rcases q.done with ⟨h, _⟩ | ⟨h, _⟩
    · exact h
    · exact absurd h he
   have hw : Wrt ms lim E D A0 0 h0 ls G := by
    rcases q.done with ⟨_, _, _, h⟩ | ⟨h, _⟩
    · exact h
    · rw [h] at he0; exact absurd he0 (by decide)
   have hlg := g.lg
   have hN : nextL L E G = ⟨G.A, E, G.s, G.h, true, L.lost⟩ := by unfold nextL; rw [if_pos he0]
   rw [if_pos he0, hN] at hlg
   refine ⟨g.b.less (fun j e => ?_), by rw [hN]; exact hlg, by rw [hN]; exact g.ar, by omega, hnl, fun e => by have := hB _ e; omega, ?_, ?_⟩
   · rcases e with e | e | e
     · exact .inl (.inl e)
     · exact .inr (.inl e)
     · exact .inr (.inr e)
   · rw [hN]; have h1 := hw.pos; have h2 := q.top; show G.A.pos ≤ G.A.top; omega
   · rw [hN]; have h2 := q.top; have h3 := q.len; show G.A.top ≤ G.D.now.length; omega
 · rcases e with e | e | e
   · exact (hs6 j e).imp .inl id
   · exact .inl (.inr (.inl e))
   · exact .inr (by omega)
 · have := g.cl; rw [hcl, hfl] at this; exact this
 · have := g.onc; rw [hcl, hsl, hfl] at this; exact this
theorem turn_c {w wr : World} {z : Zf} {v : Zv} {D : Dk} {t : Mt} {B : Nat → Prop} {l a : Nat} {L : Lo} (h : Pg w wr z v D t l a L B) (A : Option Addr) (m d : Nat) (rs : List Rec) (f0 k0 : Nat) (hi : Tin wr z v D t A m d rs f0 k0) (T : Tr) (hT : T = turnT z.c.ms z.c.lim v.x.o D t L rs) :
    Calls Tryz.prog 23 #[.pointer (some ⟨l, 0, none⟩), .slice A m d] wr fun r w' => r = .returned (.int .i64 T.e) ∧ ∃ v2 a2, TP w wr z v B l a (t.epoch + 1) 0 rs T w' v2 a2 := by
 have HRF := Lib.hid (refused_any h A m d rs hi.len hi.row (by have := hi.max; omega) hi.body)
 have HH := Lib.hid h
 have HI := Lib.hid hi
 have HT := Lib.hid hT
 clear h hi hT
 by_cases hr : refT D.off L.lost rs = 0
 · rw [hr] at HRF
   obtain ⟨hoff, hlost, hne, hgood⟩ : D.off = false ∧ L.lost = false ∧ rs ≠ [] ∧ ∀ r ∈ rs, good r = true := by
    rcases refT_cases D.off L.lost rs with ⟨e, _⟩ | ⟨e, _⟩ | ⟨_, h⟩
    · rw [e] at hr; cases hr
    · rw [e] at hr; cases hr
    · exact h
   have HGO := Lib.hid (And.intro hoff (And.intro hlost (And.intro hne hgood)))
   have hTu : T = if tcheck z.c.lim D t rs ≠ 0 then ⟨v.x.o, D, t, L, tcheck z.c.lim D t rs⟩ else ofG L (t.epoch + 1) (goOnK t (t.epoch + 1) (keepT z.c.ms z.c.lim (t.epoch + 1) (v.x.o.nx (startT (t.epoch + 1))) D (aHalf D.now.length (odd (t.epoch + 1))) 0 (v.x.o.val (startT (t.epoch + 1)) 32) (split rs))) := by
    rw [HT.out]; unfold turnT; rw [if_neg (by rw [hr]; exact fun e => e rfl)]
   have HTU := Lib.hid hTu
   have HLF := Lib.hid (fun w' (k : Kp nob wr w') => Meter.left_any t z.m (some ⟨z.g, 0, none⟩) w' (HH.out.b.me.keep0 k))
   have HLM := Lib.hid (fun w' (k : Kp nob wr w') => Vault.limit_any z.c.v z.c.m _ z.c.ms z.c.lim _ v.x.cl w' ((HH.out.b.vx.keep0 k).vs.b))
   have HLG := Lib.hid HH.out.lg
   have HME := Lib.hid HH.out.b.me
   clear hoff hlost hne hgood hTu hr HT
   have hml := HI.out.len
   by_cases c1 : t.most ≤ t.count
   · have hle : ((t.most - t.count : Nat) : Int) = 0 := by omega
     have hTc : tcheck z.c.lim D t rs = 10 := by unfold tcheck; rw [if_pos (.inl c1)]
     have HTE : Hid (T = ⟨v.x.o, D, t, L, 10⟩) := Lib.hid (by rw [HTU.out, hTc, if_pos (by decide)])
     clear c1 hTc hml
     rw [hle] at HLF
     go_enter Tryz.func23, Tryz.ntmps23
     go_wp2_with fail
     refine HRF.out.mono ?_
     rintro r w1 ⟨rfl, k1⟩
     have c2 := (HLG.out.keep k1 (fun e => e)).cells.2.2.1
     have HK1 := Lib.hid k1
     clear k1
     go_wp2_with fail
     refine (HLF.out _ HK1.out).mono ?_
     rintro r w2 ⟨rfl, k2⟩
     have HK2 := Lib.hid (HK1.out.trans k2 (fun _ e => e.elim))
     clear k2
     go_wp2
     go_ret
     rw [HTE.out]
     exact ⟨rfl, v, a, HH.out.none_ HK2.out _ _ _ _⟩
   · obtain ⟨LF, hLF⟩ : ∃ x : Nat, x = t.most - t.count := ⟨_, rfl⟩
     rw [← hLF] at HLF
     have hlf0 : ((LF : Int) == 0) = false := by simp; omega
     have hlf1 : ¬ (LF = 0) := by omega
     have HC1 := Lib.hid c1
     clear c1 hLF
     by_cases c2 : 4294967295 ≤ t.epoch
     · have hTc : tcheck z.c.lim D t rs = 10 := by unfold tcheck; rw [if_pos (.inr (.inl c2))]
       have HTE : Hid (T = ⟨v.x.o, D, t, L, 10⟩) := Lib.hid (by rw [HTU.out, hTc, if_pos (by decide)])
       clear hTc hml
       go_enter Tryz.func23, Tryz.ntmps23
       go_wp2_with fail
       refine HRF.out.mono ?_
       rintro r w1 ⟨rfl, k1⟩
       have c2' := (HLG.out.keep k1 (fun e => e)).cells.2.2.1
       have HK1 := Lib.hid k1
       clear k1
       go_wp2_with fail
       refine (HLF.out _ HK1.out).mono ?_
       rintro r w2 ⟨rfl, k2⟩
       have HK2 := Lib.hid (HK1.out.trans k2 (fun _ e => e.elim))
       have c3 := (HLG.out.keep HK2.out (fun e => e)).cells.2.2.1
       have c4 := (HME.out.keep0 HK2.out).cells.2.1
       clear k2 c2'
       go_wp2
       go_ret
       rw [HTE.out]
       exact ⟨rfl, v, a, HH.out.none_ HK2.out _ _ _ _⟩
     · have hep : t.epoch < 4294967295 := by omega
       have HC2 := Lib.hid c2
       clear c2
       by_cases c3 : z.c.lim < m
       · have hTc : tcheck z.c.lim D t rs = 10 := by unfold tcheck; rw [if_pos (.inr (.inr (by rw [HI.out.len]; exact c3)))]
         have HTE : Hid (T = ⟨v.x.o, D, t, L, 10⟩) := Lib.hid (by rw [HTU.out, hTc, if_pos (by decide)])
         have hd3 : decide (z.c.lim < m) = true := decide_eq_true c3
         clear hTc hml
         go_enter Tryz.func23, Tryz.ntmps23
         go_wp2_with fail
         refine HRF.out.mono ?_
         rintro r w1 ⟨rfl, k1⟩
         have c2' := (HLG.out.keep k1 (fun e => e)).cells.2.2.1
         have HK1 := Lib.hid k1
         clear k1
         go_wp2_with fail
         refine (HLF.out _ HK1.out).mono ?_
         rintro r w2 ⟨rfl, k2⟩
         have HK2 := Lib.hid (HK1.out.trans k2 (fun _ e => e.elim))
         have c0 := (HLG.out.keep HK2.out (fun e => e)).cells.1
         have c3 := (HLG.out.keep HK2.out (fun e => e)).cells.2.2.1
         have c4 := (HME.out.keep0 HK2.out).cells.2.1
         clear k2 c2'
         go_wp2_with fail
         refine (HLM.out _ HK2.out).mono ?_
         rintro r w3 ⟨rfl, rfl⟩
         go_wp2
         go_ret
         rw [HTE.out]
         exact ⟨rfl, v, a, HH.out.none_ HK2.out _ _ _ _⟩
       · have hd3 : decide (z.c.lim < m) = false := decide_eq_false c3
         have hd2 : decide (4294967295 ≤ t.epoch) = false := decide_eq_false HC2.out
         have hep0 := HI.out.ep
         obtain ⟨E, hE⟩ : ∃ E, E = t.epoch + 1 := ⟨_, rfl⟩
         have e1 : IntKind.i64.wrap (t.epoch + 1) = E := by rw [IntWalk.i64_in _ (by omega), hE]
         have HHF := Lib.hid (fun w' (k : Kp nob wr w') => half_c D z.g z.N z.S v.W v.cW E w' (HH.out.b.cd.keep0 k) (by omega))
         have hft := ftot_good HI.out.body
         have HSP := Lib.hid (fun w' (k : Kp nob wr w') => Seg.split_n A m d rs w' HI.out.len (Row.keep0 HI.out.row k) (by have := HI.out.max; omega) (by have := HI.out.max; omega) HI.out.nil HI.out.cap HI.out.mx)
         obtain ⟨A2, hA2⟩ : ∃ A2, A2 = aHalf D.now.length (odd E) := ⟨_, rfl⟩
         have hro := half_room D.now.length (odd E)
         have hok := aHalf_ok D.now.length (odd E)
         have hmx := HH.out.b.cd.max
         rw [← hA2] at hro hok
         simp only [odd_is, ← hA2] at HHF
         obtain ⟨SS, hSS⟩ : ∃ SS, SS = secsum (split rs) := ⟨_, rfl⟩
         have hno : ¬ (t.most ≤ t.count ∨ 4294967295 ≤ t.epoch ∨ z.c.lim < rs.length) := by
          intro e
          rcases e with e | e | e
          · exact HC1.out e
          · exact HC2.out e
          · exact c3 (by rw [← HI.out.len]; exact e)
         have HNO := Lib.hid hno
         obtain ⟨RM, hRM⟩ : ∃ RM, RM = A2.top - A2.pos := ⟨_, rfl⟩
         have hRn : RM = D.now.length / 2 := by omega
         have HA2 := Lib.hid (And.intro hA2 (And.intro hok (And.intro hRM hRn)))
         have HE := Lib.hid hE
         have HS2 := Lib.hid hSS
         have HC3 := Lib.hid c3
         have HEP := Lib.hid (And.intro hep0 hep)
         have HLK := Lib.hid (fun w' (a2 : Nat) (k : IsA w' a2 z.g A2) => left_c a2 z.g A2 w' k hok.1 (by omega))
         rw [← hRM] at HLK
         clear hno c3 hE hft hA2 hro hok hmx hSS hRM hRn hep0
         go_enter Tryz.func23, Tryz.ntmps23
         go_wp2_with fail
         refine HRF.out.mono ?_
         rintro r w1 ⟨rfl, k1⟩
         have c2' := (HLG.out.keep k1 (fun e => e)).cells.2.2.1
         have HK1 := Lib.hid k1
         clear k1
         go_wp2_with fail
         refine (HLF.out _ HK1.out).mono ?_
         rintro r w2 ⟨rfl, k2⟩
         have HK2 := Lib.hid (HK1.out.trans k2 (fun _ e => e.elim))
         have c0 := (HLG.out.keep HK2.out (fun e => e)).cells.1
         have c1 := (HLG.out.keep HK2.out (fun e => e)).cells.2.1
         have c3 := (HLG.out.keep HK2.out (fun e => e)).cells.2.2.1
         have c4 := (HME.out.keep0 HK2.out).cells.2.1
         clear k2 c2'
         go_wp2_with fail
         refine (HLM.out _ HK2.out).mono ?_
         rintro r w3 ⟨rfl, rfl⟩
         go_wp2_with fail
         refine (HHF.out _ HK2.out).mono ?_
         rintro r w3 ⟨a2, rfl, ha2, k3, hn2⟩
         have HK3 := Lib.hid (HK2.out.trans k3 (fun _ e => e.elim))
         have HAR := Lib.hid (And.intro ha2 (Nat.le_trans HK2.out.size hn2))
         clear ha2 k3 hn2 c0 c1 c3 c4 e1
         go_wp2_with fail
         refine (HSP.out _ HK3.out).mono ?_
         rintro r w4 ⟨X, nx, cx, ps, rfl, hpn, hnm, hrow, hmap, hps, hX, k4⟩
         have HK4 := Lib.hid (HK3.out.trans k4 (fun _ e => e.elim))
         have HAR4 := Lib.hid (areaP.keep HAR.out.1 k4 (fun e => e))
         have HPS := Lib.hid (And.intro hpn (And.intro hnm (And.intro hrow (And.intro hmap (And.intro hps hX)))))
         have HSE := Lib.hid (sectors_any X nx cx ps w4 hpn hrow (fun p hp => (hps p hp).1) ⟨by have := HI.out.max; omega, fun p hp => by
          have hm : p.rs ∈ split rs := by rw [← hmap]; exact List.mem_map_of_mem hp
          have h1 := split_pks _ rs (Nat.le_refl _) HGO.out.2.2.2 p.rs hm
          have h2 : p.rs.length ≤ rs.length := by
           have h3 := split_flat rs
           have h4 : p.rs.length ≤ (split rs).flatten.length := by
            obtain ⟨i, hi, he⟩ := List.mem_iff_getElem.1 hm
            have h5 := flat_snoc (split rs) i hi
            have h6 := flat_take_le (split rs) (i + 1)
            rw [h5, List.length_append, he] at h6
            omega
           rw [h3] at h4; exact h4
          have := HI.out.len; have := HI.out.max; have := h1.hi
          exact ⟨by omega, by omega⟩⟩)
         rw [hmap, ← HS2.out] at HSE
         have hk4s := k4.size
         have HW := Lib.hid (show w3.heap.size ≤ w4.heap.size ∧ a2 < w3.heap.size from ⟨hk4s, Blk.lt HAR.out.1⟩)
         clear hpn hnm hrow hmap hps hX k4 hk4s
         go_wp2_with fail
         refine HSE.out.mono ?_
         rintro r w5 ⟨rfl, k5⟩
         have HK5 := Lib.hid (HK4.out.trans k5 (fun _ e => e.elim))
         have HK45 := Lib.hid k5
         have HAR5 := Lib.hid (areaP.keep HAR4.out k5 (fun e => e))
         clear k5
         go_wp2_with fail
         refine (HLK.out _ _ HAR5.out).mono ?_
         rintro r w6 ⟨rfl, k6⟩
         have HK6 := Lib.hid (HK5.out.trans k6 (fun _ e => e.elim))
         have HK46 := Lib.hid (HK45.out.trans k6 (fun _ e => e.elim))
         have HAR6 := Lib.hid (areaP.keep HAR5.out k6 (fun e => e))
         clear k6
         by_cases hfull : RM < SS
         · have hdf : decide (RM < SS) = true := decide_eq_true hfull
           have hTc : tcheck z.c.lim D t rs = 7 := by
            unfold tcheck
            rw [if_neg HNO.out, if_pos (by rw [← HS2.out, ← HA2.out.2.2.2]; exact hfull)]
           have HTE : Hid (T = ⟨v.x.o, D, t, L, 7⟩) := Lib.hid (by rw [HTU.out, hTc, if_pos (by decide)])
           clear hTc hfull
           go_wp2
           go_ret
           rw [HTE.out]
           exact ⟨rfl, v, a, HH.out.none_ HK6.out _ _ _ _⟩
         · have hdf : decide (RM < SS) = false := decide_eq_false hfull
           have hTc : tcheck z.c.lim D t rs = 0 := by
            unfold tcheck
            rw [if_neg HNO.out, if_neg (by rw [← HS2.out, ← HA2.out.2.2.2]; exact hfull)]
           obtain ⟨V, hV⟩ : ∃ V, V = v.x.o.val (startT E) 32 := ⟨_, rfl⟩
           have hpre := turn_pre (ms := z.c.ms) (lim := z.c.lim) HH.out.b.dream HH.out.b.cd.ok HGO.out.1 HGO.out.2.2.1 HGO.out.2.2.2 HEP.out (by rw [HI.out.len]; exact HC3.out) (by rw [← HS2.out, ← HA2.out.2.2.2]; exact hfull)
           rw [← HE.out, ← HA2.out.1, ← hV] at hpre
           have HGA := Lib.hid (goOn_any z.c.ms z.c.lim E (v.x.o.nx (startT E)) D t A2 0 V (split rs) hpre (by rw [HE.out]; omega) (by have := HC1.out; omega))
           obtain ⟨G, hG⟩ : ∃ G, G = goOnK t E (keepT z.c.ms z.c.lim E (v.x.o.nx (startT E)) D A2 0 V (split rs)) := ⟨_, rfl⟩
           rw [← hG] at HGA
           have HTE : Hid (T = ofG L E G) := Lib.hid (by rw [HTU.out, hTc, if_neg (by decide), ← HE.out, ← HA2.out.1, ← hV, ← hG])
           have HPRE := Lib.hid hpre
           have HGE := Lib.hid hG
           have HV := Lib.hid hV
           have c0 := (HLG.out.keep HK6.out (fun e => e)).cells.1
           have HST := Lib.hid (Seg.start_c z.c v.x E w6 (HH.out.b.vx.keep0 HK6.out) (HI.out.few.mono (by have := HI.out.f0; omega)) (dream_long HH.out.b.dream))
           rw [show v.x.o.val (hashT (Seg.stN E)) 32 = V from hV.symm] at HST
           clear hTc hfull hV hpre hG
           go_wp2_with fail
           refine HST.out.mono ?_
           rintro r w7 ⟨F2, P2, rfl, q⟩
           have hq := (HH.out.b.keep0 HK6.out).vault q (sub_dream (Ts.sub_nx _ _) HH.out.b.dream)
           have HQ := Lib.hid hq
           have hs6 := HK6.out.size
           have h46 := HK46.out.size
           have hw34 := HW.out
           have hnl : ¬ own z v l ∧ ¬ own z v a := ⟨(HH.out.b.be l (.inr (.inl rfl))).2.2, (HH.out.b.be a (.inr (.inr rfl))).2.2⟩
           have hnew : ∀ j, wr.heap.size ≤ j → j < w6.heap.size → ¬ own z ⟨⟨F2, P2, v.x.o.nx (hashT (Seg.stN E)), v.x.sl, v.x.cl⟩, v.W, v.cW⟩ j := fun j h1 h2 e => (hq.sub j e).elim (fun e => HH.out.b.far h1 e) (fun e => by omega)
           have hb7 := (hq.b.add (j := a2) (by have := HH.out.b.kp.size; have := HAR.out.2; omega) (by have := hq.k.size; omega) (hnew a2 HAR.out.2 (by omega))).less (F := fun j => (B j ∨ j = a) ∨ j = l ∨ j = a2) (fun j e => by
            rcases e with (e | e) | e | e
            · exact .inl (.inl e)
            · exact .inl (.inr (.inr e))
            · exact .inl (.inr (.inl e))
            · exact .inr e)
           have hps := HPS.out
           have hXl : ∀ j, ab X = some j → j < w4.heap.size := hps.2.2.1.lt (fun e => split_ne HGO.out.2.2.1 (by rw [← hps.2.2.2.1]; have := congrArg List.length e; simp at this; rw [this]; rfl))
           have hf1 : (v.x.o.nx (hashT (Seg.stN E))).few (f0 + 1) := HI.out.few.nx _
           have hbd : (ps.map (·.rs)).flatten.length ≤ 1000 ∧ (f0 + 1) + 6000 ≤ 80000 ∧ v.x.cl + 1000 ≤ 1000000 ∧ k0 + secsum (ps.map (·.rs)) + 2 ≤ 90000 ∧ z.c.lim ≤ 9223372036854775807 := by
            rw [hps.2.2.2.1, split_flat]
            have h1 := HPRE.out.room
            have h2 := HA2.out.2.1
            have h3 := HI.out.k0
            have h4 := HI.out.len
            have h5 := HI.out.max
            exact ⟨by omega, by have := HI.out.f0; omega, HI.out.cl, by omega, HI.out.lim⟩
           have HGC := Lib.hid (goOn_c (B := fun j => B j ∨ j = a) l a2 a L E 0 V A2 X nx cx ps (f0 + 1) k0 D.now.length hb7 ((HH.out.lg.keep HK6.out (fun e => e)).keep hq.k hnl.1) (areaP.keep HAR6.out hq.k (HH.out.b.far HAR.out.2)) (by have h1 := HH.out.lg.b.lt; have := HAR.out.2; omega) hps.1
            ((hps.2.2.1.keep0 HK46.out).keep hq.k (fun j e e2 => HH.out.b.far (by have := hps.2.2.2.2.2 j e; have := HK3.out.size; omega) e2))
            (fun j e => ⟨by have := hXl j e; have := hq.k.size; omega, fun e2 => by
              have h1 := hps.2.2.2.2.2 j e
              have h3 := HK3.out.size
              rcases e2 with e2 | e2
              · exact hnew j (by omega) (by have := hXl j e; omega) e2
              · omega⟩)
            (fun p hp => ⟨((hps.2.2.2.2.1 p hp).1.keep HK46.out (fun i e e2 => e2)).keep hq.k (fun i e e2 => HH.out.b.far (by have := (hps.2.2.2.2.1 p hp).2 i e; have := HK3.out.size; omega) e2), fun j e e2 => by
              have h1 := (hps.2.2.2.2.1 p hp).2 j e
              have h2 := (hps.2.2.2.2.1 p hp).1.lt j e
              have h3 := HK3.out.size
              rcases e2 with e2 | e2
              · exact hnew j (by omega) (by omega) e2
              · omega⟩)
            (by rw [hps.2.2.2.1]; exact HPRE.out) hf1 hbd HI.out.sm (by have := hps.2.1; have := HI.out.max; omega) G (by rw [hps.2.2.2.1]; exact HGE.out) HGA.out.h32)
           rw [hps.2.2.2.1] at HGC
           have HB32 := Lib.hid HPRE.out.h32
           have HNW := Lib.hid hs6
           clear q hq hs6 h46 hw34 hnl hnew hb7 hps hXl hf1 hbd HST c0
           go_wp2_with (first
            | (refine wpList_built rfl 104 _ rfl (.agg (tcells a2 E 0 V).toArray) (by exact exec_bld _ _ rfl [(0, .pointer (some ⟨a2, 0, none⟩)), (1, .int .i64 E), (3, .agg (bvs V).toArray)] _ rfl (build_tail a2 E V HB32.out _)) ?_)
            | fail)
           refine HGC.out.mono ?_
           rintro r w8 ⟨rfl, v8, hg⟩
           have HG8 := Lib.hid hg
           clear hg
           go_wp2
           go_ret
           rw [HTE.out]
           refine ⟨rfl, v8, a2, ?_⟩
           rw [← HE.out]
           exact HG8.out.turn HGO.out.2.1 HGA.out (split_flat rs) (fun j e => (HQ.out.sub j e).imp id (fun e => by have := HNW.out; omega)) (((HK6.out.nob _).trans HQ.out.k (fun i e => .inl e))) rfl rfl HH.out.lg.b.lt (fun j e => (HH.out.b.be j (.inl e)).2.1) HAR.out.2 HH.out.nl HPRE.out.room HPRE.out.top
 · have hTe : T = ⟨v.x.o, D, t, L, refT D.off L.lost rs⟩ := by rw [HT.out]; unfold turnT; rw [if_pos hr]
   obtain ⟨x, hx⟩ : ∃ x, x = refT D.off L.lost rs := ⟨_, rfl⟩
   rw [← hx] at hr hTe HRF
   have hb : (x != 0) = true := by simp [hr]
   have HTE := Lib.hid hTe
   clear hr hTe hx HT
   go_enter Tryz.func23, Tryz.ntmps23
   go_wp2_with fail
   refine HRF.out.mono ?_
   rintro r w1 ⟨rfl, k1⟩
   go_wp2
   go_ret
   rw [HTE.out]
   exact ⟨rfl, v, a, HH.out.none_ k1 _ _ _ _⟩
end Com
namespace Com
open Go Go.RowKit Kit
open Rec (Rec good ftot fsec split split_flat Rrow Sr SrOk recB good_bounds)
open Ideal (Ts Thing hashT Ans)
open Vault (Vc Vt Vx Vq nonce)
open Disk
open Meter (Mt Mk Mb Mz nxt)
open Seg (pk size_c sectors_c)
theorem lcells_part (z : Zf) (a : Nat) (L : Lo) : ∀ j v, (tcells a L.e L.s L.h)[j]? = some v → (lcells z a L)[3 + j]? = some v := by
 intro j v hv
 rw [show 3 + j = j + 1 + 1 + 1 by omega]
 show (tcells a L.e L.s L.h ++ [.bool L.turned, .bool L.lost])[j]? = some v
 rw [List.getElem?_append_left (List.getElem?_eq_some_iff.1 hv).1]; exact hv
theorem GP.commit {w wr w6 w7 : World} {z : Zf} {v v7 : Zv} {D : Dk} {t : Mt} {B : Nat → Prop} {l a : Nat} {L : Lo} {E : Int} {s : Nat} {rs : List Rec} {A0 : Ar} {h0 : List UInt8} {G : Gr} {ms : List UInt8} {lim : Nat} {o : Ts}
    (g : GP w w6 z v B l a a L E s [rs] G w7 v7) (hlo : L.lost = false) (q : Gany ms lim E o D t A0 s h0 [rs] G) (k6 : Kp nob wr w6) (hla : l ≠ a) (hnl : ¬ B l) (hna : ¬ B a) (hpos : A0.pos + secsum [rs] ≤ A0.top) (htop : A0.top ≤ D.now.length) :
    TP w wr z v B l a E s rs (ofG L E G) w7 v7 a := by
 have hz := k6.size
 have hfl : [rs].flatten = rs := by simp
 have hcl := g.cl
 have honc := g.onc
 rw [hfl] at hcl honc
 refine ⟨g.b.less (fun j e => .inl e), fun he => ?_, fun j e => (g.sub j e).imp id (fun e => by omega), (k6.nob _).trans g.k (fun j e => .inl e), by rw [ofG_eq]; exact g.o, hcl, honc, fun h0 h8 => by
  rw [ofG_eq] at h0 h8
  rcases q.done with ⟨h, _⟩ | ⟨h, _⟩
  · exact absurd h h0
  · exact absurd h h8⟩
 rw [ofG_eq] at he ⊢
 have he0 : G.e = 0 := by
  rcases q.done with ⟨h, _⟩ | ⟨h, _⟩
  · exact h
  · exact absurd h he
 have hw : Wrt ms lim E D A0 s h0 [rs] G := by
  rcases q.done with ⟨_, _, _, h⟩ | ⟨h, _⟩
  · exact h
  · rw [h] at he0; exact absurd he0 (by decide)
 have hlg := g.lg
 have hN : nextL L E G = ⟨G.A, E, G.s, G.h, true, L.lost⟩ := by unfold nextL; rw [if_pos he0]
 rw [if_pos he0, hN] at hlg
 refine ⟨g.b, by rw [hN]; exact hlg, by rw [hN]; exact g.ar, hla, hnl, hna, ?_, ?_⟩
 · rw [hN]; have h1 := hw.pos; have h2 := q.top; show G.A.pos ≤ G.A.top; omega
 · rw [hN]; have h2 := q.top; have h3 := q.len; show G.A.top ≤ G.D.now.length; omega
theorem commit_pre {lim : Nat} {o : Ts} {D : Dk} {t : Mt} {L : Lo} {rs : List Rec} (hd : ∃ ts, o = .dream ts) (hk : Ok D) (hoff : D.off = false) (hne : rs ≠ []) (hg : ∀ r ∈ rs, good r = true) (he : 0 ≤ L.e ∧ L.e < 4294967296) (hlim : ¬ lim < L.s + rs.length) (hf : ¬ 16384 < ftot rs) (hp : L.A.pos ≤ L.A.top) (ht : L.A.top ≤ D.now.length) (hr : ¬ L.A.top - L.A.pos < fsec rs) (h32 : L.h.length = 32) :
    Pre lim L.e o D L.A L.s L.h [rs] := by
 obtain ⟨ts, rfl⟩ := hd
 refine ⟨he, trivial, hk, hoff, by simp only [secsum, List.map_cons, List.map_nil, List.sum_cons, List.sum_nil]; omega, ht, fun l hl => ?_, by simp; omega, h32⟩
 rw [List.mem_singleton.1 hl]
 exact ⟨hne, hg, by omega⟩
theorem commit_c {w wr : World} {z : Zf} {v : Zv} {D : Dk} {t : Mt} {B : Nat → Prop} {l a : Nat} {L : Lo} (h : Pg w wr z v D t l a L B) (A : Option Addr) (m d : Nat) (rs : List Rec) (f0 k0 : Nat) (hi : Tin wr z v D t A m d rs f0 k0) (hA : rs ≠ [] → ∀ j, ab A = some j → ¬ own z v j ∧ j ≠ a) (hep : t.epoch < 4294967296) (hs : L.s ≤ 1099511627776) (T : Tr) (hT : T = commitT z.c.ms z.c.lim v.x.o D t L rs) :
    Calls Tryz.prog 24 #[.pointer (some ⟨l, 0, none⟩), .slice A m d] wr fun r w' => r = .returned (.int .i64 T.e) ∧ ∃ v2 a2, TP w wr z v B l a L.e L.s rs T w' v2 a2 := by
 have HRF := Lib.hid (refused_any h A m d rs hi.len hi.row (by have := hi.max; omega) hi.body)
 have HH := Lib.hid h
 have HI := Lib.hid hi
 have HT := Lib.hid hT
 have HAN := Lib.hid hA
 have HEP := Lib.hid (And.intro hep hs)
 clear h hi hT hA hep hs
 by_cases hr : refT D.off L.lost rs = 0
 · rw [hr] at HRF
   obtain ⟨hoff, hlost, hne, hgood⟩ : D.off = false ∧ L.lost = false ∧ rs ≠ [] ∧ ∀ r ∈ rs, good r = true := by
    rcases refT_cases D.off L.lost rs with ⟨e, _⟩ | ⟨e, _⟩ | ⟨_, h⟩
    · rw [e] at hr; cases hr
    · rw [e] at hr; cases hr
    · exact h
   have HGO := Lib.hid (And.intro hoff (And.intro hlost (And.intro hne hgood)))
   have hTu : T = if ccheck z.c.lim t L rs ≠ 0 then ⟨v.x.o, D, t, L, ccheck z.c.lim t L rs⟩ else ofG L L.e (goOnK t L.e (keepT z.c.ms z.c.lim L.e v.x.o D L.A L.s L.h [rs])) := by
    rw [HT.out]; unfold commitT; rw [if_neg (by rw [hr]; exact fun e => e rfl)]
   have HTU := Lib.hid hTu
   have HLF := Lib.hid (fun w' (k : Kp nob wr w') => Meter.left_any t z.m (some ⟨z.g, 0, none⟩) w' (HH.out.b.me.keep0 k))
   have HLM := Lib.hid (fun w' (k : Kp nob wr w') => Vault.limit_any z.c.v z.c.m _ z.c.ms z.c.lim _ v.x.cl w' ((HH.out.b.vx.keep0 k).vs.b))
   have HLG := Lib.hid HH.out.lg
   have HME := Lib.hid HH.out.b.me
   have hft := ftot_good HI.out.body
   have HSZ := Lib.hid (fun w' (k : Kp nob wr w') => size_c A m d rs w' HI.out.len (Row.keep0 HI.out.row k) (by have := HI.out.max; have := HI.out.len; omega) (by have := HI.out.max; omega))
   have HSC := Lib.hid (fun w' (k : Kp nob wr w') => sectors_c A m d rs w' HI.out.len (Row.keep0 HI.out.row k) (by have := HI.out.max; have := HI.out.len; omega) (by have := HI.out.max; omega))
   have hmx := HH.out.b.cd.max
   have HLA := Lib.hid (fun w' (k : Kp nob wr w') => left_c a z.g L.A w' (areaP.keep HH.out.ar k (fun e => e)) HH.out.pos (by have := HH.out.top; omega))
   clear hoff hlost hne hgood hTu hr HT hft hmx
   by_cases c1 : L.turned = false ∨ L.e ≠ t.epoch
   · have hTc : ccheck z.c.lim t L rs = 1 := by unfold ccheck; rw [if_pos c1]
     have HTE : Hid (T = ⟨v.x.o, D, t, L, 1⟩) := Lib.hid (by rw [HTU.out, hTc, if_pos (by decide)])
     clear hTc
     cases htu : L.turned with
     | false =>
       have HTN := Lib.hid htu
       clear c1 htu
       go_enter Tryz.func24, Tryz.ntmps24
       go_wp2_with fail
       refine HRF.out.mono ?_
       rintro r w1 ⟨rfl, k1⟩
       have c38 := (HLG.out.keep k1 (fun e => e)).cells.2.2.2.2.2.2.1
       rw [HTN.out] at c38
       have HK1 := Lib.hid k1
       clear k1
       go_wp2
       go_quiet (fail)
       go_wp2
       go_ret
       rw [HTE.out]
       exact ⟨rfl, v, a, HH.out.none_ (HK1.out.drewN _) _ _ _ _⟩
     | true =>
       have hne : L.e ≠ t.epoch := by
        rcases c1 with c1 | c1
        · rw [htu] at c1; cases c1
        · exact c1
       have HTN := Lib.hid htu
       have hneb : (L.e != t.epoch) = true := by simp [hne]
       clear c1 htu hne
       go_enter Tryz.func24, Tryz.ntmps24
       go_wp2_with fail
       refine HRF.out.mono ?_
       rintro r w1 ⟨rfl, k1⟩
       have c38 := (HLG.out.keep k1 (fun e => e)).cells.2.2.2.2.2.2.1
       have c4 := (HLG.out.keep k1 (fun e => e)).cells.2.2.2.2.1
       have c2 := (HLG.out.keep k1 (fun e => e)).cells.2.2.1
       have m1 := (HME.out.keep0 k1).cells.2.1
       rw [HTN.out] at c38
       have HK1 := Lib.hid k1
       clear k1
       go_wp2
       go_quiet (fail)
       go_wp2
       go_ret
       rw [HTE.out]
       exact ⟨rfl, v, a, HH.out.none_ (HK1.out.drewN _) _ _ _ _⟩
   · have htu : L.turned = true := by
       cases h : L.turned with
       | true => rfl
       | false => exact absurd (.inl h) c1
     have hee : L.e = t.epoch := Decidable.byContradiction fun h => c1 (.inr h)
     have hneb : (L.e != t.epoch) = false := by simp [hee]
     have HTN := Lib.hid (And.intro htu (And.intro hee c1))
     clear c1 htu hee
     obtain ⟨FT, hFT⟩ : ∃ x, x = ftot rs := ⟨_, rfl⟩
     rw [← hFT] at HSZ
     have HFT := Lib.hid hFT
     clear hFT
     by_cases c2 : 16384 < FT
     · have hd : decide (16384 < FT) = true := decide_eq_true c2
       have hTc : ccheck z.c.lim t L rs = 3 := by unfold ccheck; rw [if_neg HTN.out.2.2, if_pos (by rw [← HFT.out]; exact c2)]
       have HTE : Hid (T = ⟨v.x.o, D, t, L, 3⟩) := Lib.hid (by rw [HTU.out, hTc, if_pos (by decide)])
       clear hTc
       go_enter Tryz.func24, Tryz.ntmps24
       go_wp2_with fail
       refine HRF.out.mono ?_
       rintro r w1 ⟨rfl, k1⟩
       have c38 := (HLG.out.keep k1 (fun e => e)).cells.2.2.2.2.2.2.1
       have c4 := (HLG.out.keep k1 (fun e => e)).cells.2.2.2.2.1
       have c2 := (HLG.out.keep k1 (fun e => e)).cells.2.2.1
       have m1 := (HME.out.keep0 k1).cells.2.1
       rw [HTN.out.1] at c38
       have HK1 := Lib.hid k1
       clear k1
       go_wp2
       go_quiet (fail)
       clear c38 c4 c2 m1
       go_wp2_with fail
       refine (HSZ.out _ (HK1.out.drewN _)).mono ?_
       rintro r w4 ⟨rfl, k4⟩
       have HK4 := Lib.hid ((HK1.out.drewN _).trans k4 (fun _ e => e.elim))
       clear k4
       go_wp2
       go_ret
       rw [HTE.out]
       exact ⟨rfl, v, a, HH.out.none_ HK4.out _ _ _ _⟩
     · have hd : decide (16384 < FT) = false := decide_eq_false c2
       have HC2 : Hid (¬ 16384 < ftot rs) := Lib.hid (by rw [← HFT.out]; exact c2)
       by_cases c3 : t.most ≤ t.count
       · have hle : ((t.most - t.count : Nat) : Int) = 0 := by omega
         have hTc : ccheck z.c.lim t L rs = 10 := by unfold ccheck; rw [if_neg HTN.out.2.2, if_neg HC2.out, if_pos (.inl c3)]
         have HTE : Hid (T = ⟨v.x.o, D, t, L, 10⟩) := Lib.hid (by rw [HTU.out, hTc, if_pos (by decide)])
         clear c3 hTc
         rw [hle] at HLF
         go_enter Tryz.func24, Tryz.ntmps24
         go_wp2_with fail
         refine HRF.out.mono ?_
         rintro r w1 ⟨rfl, k1⟩
         have c38 := (HLG.out.keep k1 (fun e => e)).cells.2.2.2.2.2.2.1
         have c4 := (HLG.out.keep k1 (fun e => e)).cells.2.2.2.2.1
         have c2 := (HLG.out.keep k1 (fun e => e)).cells.2.2.1
         have m1 := (HME.out.keep0 k1).cells.2.1
         rw [HTN.out.1] at c38
         have HK1 := Lib.hid k1
         clear k1
         go_wp2
         go_quiet (fail)
         clear c38 c4 c2 m1
         go_wp2_with fail
         refine (HSZ.out _ (HK1.out.drewN _)).mono ?_
         rintro r w4 ⟨rfl, k4⟩
         have HK4 := Lib.hid ((HK1.out.drewN _).trans k4 (fun _ e => e.elim))
         clear k4
         go_wp2
         refine reg_begin (fun w' => Kp nob wr w') (by kernel_rfl) (HK4.out.drew) (fun HS => ?_)
         refine reg_tk (v := .pointer (some ⟨l, 0, none⟩)) 0 39 rfl rfl (by kernel_rfl) (by rfl) HS (fun w' hw => by go_simp) ?_; simp only [Act.put, zp1, zp2, zp3]
         refine reg_tk (v := .pointer (some ⟨l, 0, none⟩)) 1 40 rfl rfl (by kernel_rfl) (by rfl) HS (fun w' hw => by go_simp) ?_; simp only [Act.put, zp1, zp2, zp3]
         refine reg_tk (v := .pointer (some ⟨l, 2, none⟩)) 2 41 rfl rfl (by kernel_rfl) (by rfl) HS (fun w' hw => by go_simp) ?_; simp only [Act.put, zp1, zp2, zp3]
         refine reg_tk (v := .pointer (some ⟨z.m, 0, none⟩)) 3 42 rfl rfl (by kernel_rfl) (by rfl) HS (fun w' hw => by have c := (HLG.out.keep hw (fun e => e)).cells.2.2.1; go_simp) ?_; simp only [Act.put, zp1, zp2, zp3]
         refine reg_call 4 (some 43) rfl rfl (by kernel_rfl) (by rfl) _ _ (exec_func 42 _ _ [.pointer (some ⟨z.m, 0, none⟩)] rfl (by kernel_rfl) rfl) ?_
         refine (HLF.out _ HS).mono ?_
         rintro r w5 ⟨rfl, k5⟩
         have HS5 := HS.trans k5 (fun _ e => e.elim)
         refine ⟨_, rfl, HS5, fun _ => ?_⟩
         simp only [Act.put, zp1, zp2, zp3]
         refine reg_tk (v := .bool true) 5 44 rfl rfl (by kernel_rfl) (by rfl) HS5 (fun w' hw => by go_simp) ?_; simp only [Act.put, zp1, zp2, zp3]
         refine reg_tk (v := .bool true) 6 45 rfl rfl (by kernel_rfl) (by rfl) HS5 (fun w' hw => by go_simp) ?_; simp only [Act.put, zp1, zp2, zp3]
         refine reg_skip 7 (some 46) rfl rfl (by kernel_rfl) (by kernel_rfl) (by kernel_rfl) (by rfl) HS5 ?_; simp only [Act.put, zp1, zp2, zp3]
         refine reg_skip 8 (some 47) rfl rfl (by kernel_rfl) (by kernel_rfl) (by kernel_rfl) (by rfl) HS5 ?_; simp only [Act.put, zp1, zp2, zp3]
         refine reg_skip 9 (some 48) rfl rfl (by kernel_rfl) (by kernel_rfl) (by kernel_rfl) (by rfl) HS5 ?_; simp only [Act.put, zp1, zp2, zp3]
         refine reg_skip 10 (some 49) rfl rfl (by kernel_rfl) (by kernel_rfl) (by kernel_rfl) (by rfl) HS5 ?_; simp only [Act.put, zp1, zp2, zp3]
         refine reg_skip 11 (some 50) rfl rfl (by kernel_rfl) (by kernel_rfl) (by kernel_rfl) (by rfl) HS5 ?_; simp only [Act.put, zp1, zp2, zp3]
         refine reg_skip 12 (some 51) rfl rfl (by kernel_rfl) (by kernel_rfl) (by kernel_rfl) (by rfl) HS5 ?_; simp only [Act.put, zp1, zp2, zp3]
         refine reg_skip 13 (some 52) rfl rfl (by kernel_rfl) (by kernel_rfl) (by kernel_rfl) (by rfl) HS5 ?_; simp only [Act.put, zp1, zp2, zp3]
         refine reg_skip 14 (some 53) rfl rfl (by kernel_rfl) (by kernel_rfl) (by kernel_rfl) (by rfl) HS5 ?_; simp only [Act.put, zp1, zp2, zp3]
         refine reg_skip 15 (some 54) rfl rfl (by kernel_rfl) (by kernel_rfl) (by kernel_rfl) (by rfl) HS5 ?_; simp only [Act.put, zp1, zp2, zp3]
         refine reg_skip 16 (some 55) rfl rfl (by kernel_rfl) (by kernel_rfl) (by kernel_rfl) (by rfl) HS5 ?_; simp only [Act.put, zp1, zp2, zp3]
         refine reg_skip 17 (some 56) rfl rfl (by kernel_rfl) (by kernel_rfl) (by kernel_rfl) (by rfl) HS5 ?_; simp only [Act.put, zp1, zp2, zp3]
         refine reg_skip 18 (some 57) rfl rfl (by kernel_rfl) (by kernel_rfl) (by kernel_rfl) (by rfl) HS5 ?_; simp only [Act.put, zp1, zp2, zp3]
         refine reg_skip 19 (some 58) rfl rfl (by kernel_rfl) (by kernel_rfl) (by kernel_rfl) (by rfl) HS5 ?_; simp only [Act.put, zp1, zp2, zp3]
         refine reg_skip 20 (some 59) rfl rfl (by kernel_rfl) (by kernel_rfl) (by kernel_rfl) (by rfl) HS5 ?_; simp only [Act.put, zp1, zp2, zp3]
         refine reg_tk (v := .bool true) 21 60 rfl rfl (by kernel_rfl) (by rfl) HS5 (fun w' hw => by go_simp) ?_; simp only [Act.put, zp1, zp2, zp3]
         refine reg_tk (v := .bool true) 22 38 rfl rfl (by kernel_rfl) (by rfl) HS5 (fun w' hw => by go_simp) ?_; simp only [Act.put, zp1, zp2, zp3]
         refine reg_end (by kernel_rfl) ?_
         have HK6 := Lib.hid HS5
         clear HS HS5 k5
         go_wp2
         go_ret
         rw [HTE.out]
         exact ⟨rfl, v, a, HH.out.none_ HK6.out _ _ _ _⟩
       · obtain ⟨LF, hLF⟩ : ∃ x : Nat, x = t.most - t.count := ⟨_, rfl⟩
         rw [← hLF] at HLF
         have hlf0 : ((LF : Int) == 0) = false := by simp; omega
         have hlf1 : ¬ (LF = 0) := by omega
         have HC3 := Lib.hid c3
         obtain ⟨SM, hSM⟩ : ∃ x, x = L.s + m := ⟨_, rfl⟩
         have hmm := HI.out.max
         have hss := HEP.out.2
         have e1 : IntKind.i64.wrap ((L.s : Int) + (m : Int)) = (SM : Int) := by rw [IntWalk.i64_in _ (by omega)]; omega
         have HSM := Lib.hid hSM
         clear c3 hLF hSM hmm hss
         by_cases c4x : z.c.lim < SM
         · have hTc : ccheck z.c.lim t L rs = 10 := by unfold ccheck; rw [if_neg HTN.out.2.2, if_neg HC2.out, if_pos (.inr (by rw [HI.out.len, ← HSM.out]; exact c4x))]
           have HTE : Hid (T = ⟨v.x.o, D, t, L, 10⟩) := Lib.hid (by rw [HTU.out, hTc, if_pos (by decide)])
           clear hTc
           go_enter Tryz.func24, Tryz.ntmps24
           go_wp2_with fail
           refine HRF.out.mono ?_
           rintro r w1 ⟨rfl, k1⟩
           have c38 := (HLG.out.keep k1 (fun e => e)).cells.2.2.2.2.2.2.1
           have c4 := (HLG.out.keep k1 (fun e => e)).cells.2.2.2.2.1
           have c2 := (HLG.out.keep k1 (fun e => e)).cells.2.2.1
           have m1 := (HME.out.keep0 k1).cells.2.1
           rw [HTN.out.1] at c38
           have HK1 := Lib.hid k1
           clear k1
           go_wp2
           go_quiet (fail)
           clear c38 c4 c2 m1
           go_wp2_with fail
           refine (HSZ.out _ (HK1.out.drewN _)).mono ?_
           rintro r w4 ⟨rfl, k4⟩
           have HK4 := Lib.hid ((HK1.out.drewN _).trans k4 (fun _ e => e.elim))
           clear k4
           go_wp2
           refine reg_begin (fun w' => Kp nob wr w') (by kernel_rfl) (HK4.out.drew) (fun HS => ?_)
           refine reg_tk (v := .pointer (some ⟨l, 0, none⟩)) 0 39 rfl rfl (by kernel_rfl) (by rfl) HS (fun w' hw => by go_simp) ?_; simp only [Act.put, zp1, zp2, zp3]
           refine reg_tk (v := .pointer (some ⟨l, 0, none⟩)) 1 40 rfl rfl (by kernel_rfl) (by rfl) HS (fun w' hw => by go_simp) ?_; simp only [Act.put, zp1, zp2, zp3]
           refine reg_tk (v := .pointer (some ⟨l, 2, none⟩)) 2 41 rfl rfl (by kernel_rfl) (by rfl) HS (fun w' hw => by go_simp) ?_; simp only [Act.put, zp1, zp2, zp3]
           refine reg_tk (v := .pointer (some ⟨z.m, 0, none⟩)) 3 42 rfl rfl (by kernel_rfl) (by rfl) HS (fun w' hw => by have c := (HLG.out.keep hw (fun e => e)).cells.2.2.1; go_simp) ?_; simp only [Act.put, zp1, zp2, zp3]
           refine reg_call 4 (some 43) rfl rfl (by kernel_rfl) (by rfl) _ _ (exec_func 42 _ _ [.pointer (some ⟨z.m, 0, none⟩)] rfl (by kernel_rfl) rfl) ?_
           refine (HLF.out _ HS).mono ?_
           rintro r w5 ⟨rfl, k5⟩
           have HS5 := HS.trans k5 (fun _ e => e.elim)
           refine ⟨_, rfl, HS5, fun _ => ?_⟩
           simp only [Act.put, zp1, zp2, zp3]
           refine reg_tk (v := .bool false) 5 44 rfl rfl (by kernel_rfl) (by rfl) HS5 (fun w' hw => by go_simp) ?_; simp only [Act.put, zp1, zp2, zp3]
           refine reg_tk (v := .bool false) 6 45 rfl rfl (by kernel_rfl) (by rfl) HS5 (fun w' hw => by go_simp) ?_; simp only [Act.put, zp1, zp2, zp3]
           refine reg_tk (v := .pointer (some ⟨l, 0, none⟩)) 7 46 rfl rfl (by kernel_rfl) (by rfl) HS5 (fun w' hw => by go_simp) ?_; simp only [Act.put, zp1, zp2, zp3]
           refine reg_tk (v := .pointer (some ⟨l, 0, none⟩)) 8 47 rfl rfl (by kernel_rfl) (by rfl) HS5 (fun w' hw => by go_simp) ?_; simp only [Act.put, zp1, zp2, zp3]
           refine reg_tk (v := .pointer (some ⟨l, 3, none⟩)) 9 48 rfl rfl (by kernel_rfl) (by rfl) HS5 (fun w' hw => by go_simp) ?_; simp only [Act.put, zp1, zp2, zp3]
           refine reg_tk (v := .pointer (some ⟨l, 5, none⟩)) 10 49 rfl rfl (by kernel_rfl) (by rfl) HS5 (fun w' hw => by go_simp) ?_; simp only [Act.put, zp1, zp2, zp3]
           refine reg_tk (v := .int .i64 (L.s : Int)) 11 50 rfl rfl (by kernel_rfl) (by rfl) HS5 (fun w' hw => by have c := (HLG.out.keep hw (fun e => e)).cells.2.2.2.2.2.1; go_simp) ?_; simp only [Act.put, zp1, zp2, zp3]
           refine reg_tk (v := .slice A m d) 12 51 rfl rfl (by kernel_rfl) (by rfl) HS5 (fun w' hw => by go_simp) ?_; simp only [Act.put, zp1, zp2, zp3]
           refine reg_tk (v := .int .i64 (m : Int)) 13 52 rfl rfl (by kernel_rfl) (by rfl) HS5 (fun w' hw => by go_simp) ?_; simp only [Act.put, zp1, zp2, zp3]
           refine reg_tk (v := .int .i64 (SM : Int)) 14 53 rfl rfl (by kernel_rfl) (by rfl) HS5 (fun w' hw => by go_simp) ?_; simp only [Act.put, zp1, zp2, zp3]
           refine reg_tk (v := .pointer (some ⟨l, 0, none⟩)) 15 54 rfl rfl (by kernel_rfl) (by rfl) HS5 (fun w' hw => by go_simp) ?_; simp only [Act.put, zp1, zp2, zp3]
           refine reg_tk (v := .pointer (some ⟨l, 0, none⟩)) 16 55 rfl rfl (by kernel_rfl) (by rfl) HS5 (fun w' hw => by go_simp) ?_; simp only [Act.put, zp1, zp2, zp3]
           refine reg_tk (v := .pointer (some ⟨l, 0, none⟩)) 17 56 rfl rfl (by kernel_rfl) (by rfl) HS5 (fun w' hw => by go_simp) ?_; simp only [Act.put, zp1, zp2, zp3]
           refine reg_tk (v := .pointer (some ⟨z.c.v, 0, none⟩)) 18 57 rfl rfl (by kernel_rfl) (by rfl) HS5 (fun w' hw => by have c := (HLG.out.keep hw (fun e => e)).cells.1; go_simp) ?_; simp only [Act.put, zp1, zp2, zp3]
           refine reg_call 19 (some 58) rfl rfl (by kernel_rfl) (by rfl) _ _ (exec_func 43 _ _ [.pointer (some ⟨z.c.v, 0, none⟩)] rfl (by kernel_rfl) rfl) ?_
           refine (HLM.out _ HS5).mono ?_
           rintro r w6 ⟨rfl, hw6⟩
           have HS6 : Kp nob wr w6 := by rw [← hw6]; exact HS5
           refine ⟨_, rfl, HS6, fun _ => ?_⟩
           simp only [Act.put, zp1, zp2, zp3]
           refine reg_tk (v := .bool (decide (z.c.lim < SM))) 20 59 rfl rfl (by kernel_rfl) (by rfl) HS6 (fun w' hw => by go_simp) ?_; simp only [Act.put, zp1, zp2, zp3]
           refine reg_tk (v := .bool (decide (z.c.lim < SM))) 21 60 rfl rfl (by kernel_rfl) (by rfl) HS6 (fun w' hw => by go_simp) ?_; simp only [Act.put, zp1, zp2, zp3]
           refine reg_tk (v := .bool (decide (z.c.lim < SM))) 22 38 rfl rfl (by kernel_rfl) (by rfl) HS6 (fun w' hw => by go_simp) ?_; simp only [Act.put, zp1, zp2, zp3]
           refine reg_end (by kernel_rfl) ?_
           have HK6 := Lib.hid HS6
           clear HS HS5 HS6 k5 hw6
           have hd4 : decide (z.c.lim < SM) = true := decide_eq_true c4x
           rw [hd4]
           clear c4x
           go_wp2
           go_ret
           rw [HTE.out]
           exact ⟨rfl, v, a, HH.out.none_ HK6.out _ _ _ _⟩
         · have HC4 : Hid (¬ z.c.lim < L.s + rs.length) := Lib.hid (by rw [HI.out.len, ← HSM.out]; exact c4x)
           obtain ⟨SC, hSC⟩ : ∃ x, x = fsec rs := ⟨_, rfl⟩
           rw [← hSC] at HSC
           obtain ⟨RM, hRM⟩ : ∃ x, x = L.A.top - L.A.pos := ⟨_, rfl⟩
           rw [← hRM] at HLA
           have HSR := Lib.hid (And.intro hSC hRM)
           clear hSC hRM
           by_cases c5 : RM < SC
           · have hTc : ccheck z.c.lim t L rs = 7 := by unfold ccheck; rw [if_neg HTN.out.2.2, if_neg HC2.out, if_neg (fun e => e.elim HC3.out HC4.out), if_pos (by rw [← HSR.out.1, ← HSR.out.2]; exact c5)]
             have HTE : Hid (T = ⟨v.x.o, D, t, L, 7⟩) := Lib.hid (by rw [HTU.out, hTc, if_pos (by decide)])
             clear hTc
             go_enter Tryz.func24, Tryz.ntmps24
             go_wp2_with fail
             refine HRF.out.mono ?_
             rintro r w1 ⟨rfl, k1⟩
             have c38 := (HLG.out.keep k1 (fun e => e)).cells.2.2.2.2.2.2.1
             have c4 := (HLG.out.keep k1 (fun e => e)).cells.2.2.2.2.1
             have c2 := (HLG.out.keep k1 (fun e => e)).cells.2.2.1
             have m1 := (HME.out.keep0 k1).cells.2.1
             rw [HTN.out.1] at c38
             have HK1 := Lib.hid k1
             clear k1
             go_wp2
             go_quiet (fail)
             clear c38 c4 c2 m1
             go_wp2_with fail
             refine (HSZ.out _ (HK1.out.drewN _)).mono ?_
             rintro r w4 ⟨rfl, k4⟩
             have HK4 := Lib.hid ((HK1.out.drewN _).trans k4 (fun _ e => e.elim))
             clear k4
             go_wp2
             refine reg_begin (fun w' => Kp nob wr w') (by kernel_rfl) (HK4.out.drew) (fun HS => ?_)
             refine reg_tk (v := .pointer (some ⟨l, 0, none⟩)) 0 39 rfl rfl (by kernel_rfl) (by rfl) HS (fun w' hw => by go_simp) ?_; simp only [Act.put, zp1, zp2, zp3]
             refine reg_tk (v := .pointer (some ⟨l, 0, none⟩)) 1 40 rfl rfl (by kernel_rfl) (by rfl) HS (fun w' hw => by go_simp) ?_; simp only [Act.put, zp1, zp2, zp3]
             refine reg_tk (v := .pointer (some ⟨l, 2, none⟩)) 2 41 rfl rfl (by kernel_rfl) (by rfl) HS (fun w' hw => by go_simp) ?_; simp only [Act.put, zp1, zp2, zp3]
             refine reg_tk (v := .pointer (some ⟨z.m, 0, none⟩)) 3 42 rfl rfl (by kernel_rfl) (by rfl) HS (fun w' hw => by have c := (HLG.out.keep hw (fun e => e)).cells.2.2.1; go_simp) ?_; simp only [Act.put, zp1, zp2, zp3]
             refine reg_call 4 (some 43) rfl rfl (by kernel_rfl) (by rfl) _ _ (exec_func 42 _ _ [.pointer (some ⟨z.m, 0, none⟩)] rfl (by kernel_rfl) rfl) ?_
             refine (HLF.out _ HS).mono ?_
             rintro r w5 ⟨rfl, k5⟩
             have HS5 := HS.trans k5 (fun _ e => e.elim)
             refine ⟨_, rfl, HS5, fun _ => ?_⟩
             simp only [Act.put, zp1, zp2, zp3]
             refine reg_tk (v := .bool false) 5 44 rfl rfl (by kernel_rfl) (by rfl) HS5 (fun w' hw => by go_simp) ?_; simp only [Act.put, zp1, zp2, zp3]
             refine reg_tk (v := .bool false) 6 45 rfl rfl (by kernel_rfl) (by rfl) HS5 (fun w' hw => by go_simp) ?_; simp only [Act.put, zp1, zp2, zp3]
             refine reg_tk (v := .pointer (some ⟨l, 0, none⟩)) 7 46 rfl rfl (by kernel_rfl) (by rfl) HS5 (fun w' hw => by go_simp) ?_; simp only [Act.put, zp1, zp2, zp3]
             refine reg_tk (v := .pointer (some ⟨l, 0, none⟩)) 8 47 rfl rfl (by kernel_rfl) (by rfl) HS5 (fun w' hw => by go_simp) ?_; simp only [Act.put, zp1, zp2, zp3]
             refine reg_tk (v := .pointer (some ⟨l, 3, none⟩)) 9 48 rfl rfl (by kernel_rfl) (by rfl) HS5 (fun w' hw => by go_simp) ?_; simp only [Act.put, zp1, zp2, zp3]
             refine reg_tk (v := .pointer (some ⟨l, 5, none⟩)) 10 49 rfl rfl (by kernel_rfl) (by rfl) HS5 (fun w' hw => by go_simp) ?_; simp only [Act.put, zp1, zp2, zp3]
             refine reg_tk (v := .int .i64 (L.s : Int)) 11 50 rfl rfl (by kernel_rfl) (by rfl) HS5 (fun w' hw => by have c := (HLG.out.keep hw (fun e => e)).cells.2.2.2.2.2.1; go_simp) ?_; simp only [Act.put, zp1, zp2, zp3]
             refine reg_tk (v := .slice A m d) 12 51 rfl rfl (by kernel_rfl) (by rfl) HS5 (fun w' hw => by go_simp) ?_; simp only [Act.put, zp1, zp2, zp3]
             refine reg_tk (v := .int .i64 (m : Int)) 13 52 rfl rfl (by kernel_rfl) (by rfl) HS5 (fun w' hw => by go_simp) ?_; simp only [Act.put, zp1, zp2, zp3]
             refine reg_tk (v := .int .i64 (SM : Int)) 14 53 rfl rfl (by kernel_rfl) (by rfl) HS5 (fun w' hw => by go_simp) ?_; simp only [Act.put, zp1, zp2, zp3]
             refine reg_tk (v := .pointer (some ⟨l, 0, none⟩)) 15 54 rfl rfl (by kernel_rfl) (by rfl) HS5 (fun w' hw => by go_simp) ?_; simp only [Act.put, zp1, zp2, zp3]
             refine reg_tk (v := .pointer (some ⟨l, 0, none⟩)) 16 55 rfl rfl (by kernel_rfl) (by rfl) HS5 (fun w' hw => by go_simp) ?_; simp only [Act.put, zp1, zp2, zp3]
             refine reg_tk (v := .pointer (some ⟨l, 0, none⟩)) 17 56 rfl rfl (by kernel_rfl) (by rfl) HS5 (fun w' hw => by go_simp) ?_; simp only [Act.put, zp1, zp2, zp3]
             refine reg_tk (v := .pointer (some ⟨z.c.v, 0, none⟩)) 18 57 rfl rfl (by kernel_rfl) (by rfl) HS5 (fun w' hw => by have c := (HLG.out.keep hw (fun e => e)).cells.1; go_simp) ?_; simp only [Act.put, zp1, zp2, zp3]
             refine reg_call 19 (some 58) rfl rfl (by kernel_rfl) (by rfl) _ _ (exec_func 43 _ _ [.pointer (some ⟨z.c.v, 0, none⟩)] rfl (by kernel_rfl) rfl) ?_
             refine (HLM.out _ HS5).mono ?_
             rintro r w6 ⟨rfl, hw6⟩
             have HS6 : Kp nob wr w6 := by rw [← hw6]; exact HS5
             refine ⟨_, rfl, HS6, fun _ => ?_⟩
             simp only [Act.put, zp1, zp2, zp3]
             refine reg_tk (v := .bool (decide (z.c.lim < SM))) 20 59 rfl rfl (by kernel_rfl) (by rfl) HS6 (fun w' hw => by go_simp) ?_; simp only [Act.put, zp1, zp2, zp3]
             refine reg_tk (v := .bool (decide (z.c.lim < SM))) 21 60 rfl rfl (by kernel_rfl) (by rfl) HS6 (fun w' hw => by go_simp) ?_; simp only [Act.put, zp1, zp2, zp3]
             refine reg_tk (v := .bool (decide (z.c.lim < SM))) 22 38 rfl rfl (by kernel_rfl) (by rfl) HS6 (fun w' hw => by go_simp) ?_; simp only [Act.put, zp1, zp2, zp3]
             refine reg_end (by kernel_rfl) ?_
             have HK6 := Lib.hid HS6
             clear HS HS5 HS6 k5 hw6
             have hd4 : decide (z.c.lim < SM) = false := decide_eq_false c4x
             rw [hd4]
             clear c4x e1
             go_wp2
             refine reg_begin (fun w' => Kp nob wr w') (by kernel_rfl) (HK6.out.drew) (fun HS => ?_)
             refine reg_tk (v := .slice A m d) 0 62 rfl rfl (by kernel_rfl) (by rfl) HS (fun w' hw => by go_simp) ?_; simp only [Act.put, zp1, zp2, zp3]
             refine reg_tk (v := .pointer (some ⟨l, 0, none⟩)) 2 64 rfl rfl (by kernel_rfl) (by rfl) HS (fun w' hw => by go_simp) ?_; simp only [Act.put, zp1, zp2, zp3]
             refine reg_tk (v := .pointer (some ⟨l, 0, none⟩)) 3 65 rfl rfl (by kernel_rfl) (by rfl) HS (fun w' hw => by go_simp) ?_; simp only [Act.put, zp1, zp2, zp3]
             refine reg_tk (v := .pointer (some ⟨l, 3, none⟩)) 4 66 rfl rfl (by kernel_rfl) (by rfl) HS (fun w' hw => by go_simp) ?_; simp only [Act.put, zp1, zp2, zp3]
             refine reg_tk (v := .pointer (some ⟨l, 3, none⟩)) 5 67 rfl rfl (by kernel_rfl) (by rfl) HS (fun w' hw => by go_simp) ?_; simp only [Act.put, zp1, zp2, zp3]
             refine reg_tk (v := .pointer (some ⟨a, 0, none⟩)) 6 68 rfl rfl (by kernel_rfl) (by rfl) HS (fun w' hw => by have c := (HLG.out.keep hw (fun e => e)).cells.2.2.2.1; go_simp) ?_; simp only [Act.put, zp1, zp2, zp3]
             refine reg_call 1 (some 63) rfl rfl (by kernel_rfl) (by rfl) _ _ (exec_func 51 _ _ [.slice A m d] rfl (by kernel_rfl) rfl) ?_
             refine (HSC.out _ HS).mono ?_
             rintro r w7 ⟨rfl, k7⟩
             have HS7 := HS.trans k7 (fun _ e => e.elim)
             refine ⟨_, rfl, HS7, fun _ => ?_⟩
             simp only [Act.put, zp1, zp2, zp3]
             refine reg_call 7 (some 69) rfl rfl (by kernel_rfl) (by rfl) _ _ (exec_func 47 _ _ [.pointer (some ⟨a, 0, none⟩)] rfl (by kernel_rfl) rfl) ?_
             refine (HLA.out _ HS7).mono ?_
             rintro r w8 ⟨rfl, k8⟩
             have HS8 := HS7.trans k8 (fun _ e => e.elim)
             refine ⟨_, rfl, HS8, fun _ => ?_⟩
             simp only [Act.put, zp1, zp2, zp3]
             refine reg_tk (v := .bool (decide (RM < SC))) 8 70 rfl rfl (by kernel_rfl) (by rfl) HS8 (fun w' hw => by go_simp) ?_; simp only [Act.put, zp1, zp2, zp3]
             refine reg_tk (v := .bool (decide (RM < SC))) 9 61 rfl rfl (by kernel_rfl) (by rfl) HS8 (fun w' hw => by go_simp) ?_; simp only [Act.put, zp1, zp2, zp3]
             refine reg_end (by kernel_rfl) ?_
             have HK8 := Lib.hid HS8
             clear HS HS7 HS8 k7 k8
             have hd5 : decide (RM < SC) = true := decide_eq_true c5
             rw [hd5]
             clear c5
             go_wp2
             go_ret
             rw [HTE.out]
             exact ⟨rfl, v, a, HH.out.none_ HK8.out _ _ _ _⟩
           · have hTc : ccheck z.c.lim t L rs = 0 := by unfold ccheck; rw [if_neg HTN.out.2.2, if_neg HC2.out, if_neg (fun e => e.elim HC3.out HC4.out), if_neg (by rw [← HSR.out.1, ← HSR.out.2]; exact c5)]
             have hpre := commit_pre (lim := z.c.lim) (t := t) HH.out.b.dream HH.out.b.cd.ok HGO.out.1 HGO.out.2.2.1 HGO.out.2.2.2 (by have := HTN.out.2.1; have := HI.out.ep; have := HEP.out.1; omega) HC4.out HC2.out HH.out.pos HH.out.top (by rw [← HSR.out.1, ← HSR.out.2]; exact c5) HH.out.lg.h32
             have HGA := Lib.hid (goOn_any z.c.ms z.c.lim L.e v.x.o D t L.A L.s L.h [rs] hpre (by rw [HTN.out.2.1]; omega) (by have := HC3.out; omega))
             obtain ⟨G, hG⟩ : ∃ G, G = goOnK t L.e (keepT z.c.ms z.c.lim L.e v.x.o D L.A L.s L.h [rs]) := ⟨_, rfl⟩
             rw [← hG] at HGA
             have HTE : Hid (T = ofG L L.e G) := Lib.hid (by rw [HTU.out, hTc, if_neg (by decide), ← hG])
             have HPRE := Lib.hid hpre
             have HGE := Lib.hid hG
             have HGC : Hid (∀ w', Kp nob wr w' → Calls Tryz.prog 48 #[.pointer (some ⟨l, 0, none⟩), .agg (tcells a L.e L.s L.h).toArray, .slice (some ⟨w'.heap.size, 0, none⟩) 1 1] (w'.alloc (.cells #[.slice A m d] 29)) fun r w2 => r = .returned (.int .i64 G.e) ∧ ∃ v2, GP w (w'.alloc (.cells #[.slice A m d] 29)) z v B l a a L L.e L.s [rs] G w2 v2) := Lib.hid (fun w' k => by
              have k9 : Kp nob wr (w'.alloc (.cells #[.slice A m d] 29)) := k.alloc _
              have hrne : rs.flatMap Rec.rcells ≠ [] := fun e => by
               have h1 := HGO.out.2.2.1
               cases rs with
               | nil => exact h1 rfl
               | cons r rs => simp [Rec.rcells] at e
              have hAl : ∀ j, ab A = some j → j < wr.heap.size := Row.lt HI.out.row hrne
              have := k.size
              have hsz : (w'.alloc (.cells #[.slice A m d] 29)).heap.size = w'.heap.size + 1 := by simp
              have hsr : SrOk (w'.alloc (.cells #[.slice A m d] 29)) ⟨A, m, d, rs⟩ := ⟨HI.out.len, Row.keep0 HI.out.row k9, HI.out.cap, HI.out.mx, HI.out.nil, fun i e => by have := hAl i e; omega⟩
              have hroom := HPRE.out.room
              have htop := HPRE.out.top
              exact goOn_c (B := B) l a a L L.e L.s L.h L.A (some ⟨w'.heap.size, 0, none⟩) 1 1 [⟨A, m, d, rs⟩] f0 k0 D.now.length (HH.out.b.keep0 k9) (HH.out.lg.keep k9 (fun e => e)) (areaP.keep HH.out.ar k9 (fun e => e)) HH.out.la rfl (row_new w' [.slice A m d] _)
               (fun j e => by
                 cases e
                 refine ⟨by simp, fun e2 => ?_⟩
                 rcases e2 with e2 | e2
                 · exact HH.out.b.far (by omega) e2
                 · have h3 : a < wr.heap.size := Blk.lt HH.out.ar
                   have e2 : w'.heap.size = a := e2
                   omega)
               (fun p hp => by
                 rw [List.mem_singleton.1 hp]
                 exact ⟨hsr, fun j e e2 => e2.elim (HAN.out HGO.out.2.2.1 j e).1 (HAN.out HGO.out.2.2.1 j e).2⟩)
               HPRE.out HI.out.few ⟨by have := HI.out.max; have := HI.out.len; simp; omega, by have := HI.out.f0; omega, HI.out.cl, by
                have := HI.out.k0
                simp only [List.map_cons, List.map_nil]
                omega, HI.out.lim⟩ HI.out.sm (by decide) G HGE.out HGA.out.h32)
             clear hTc hpre hG
             go_enter Tryz.func24, Tryz.ntmps24
             go_wp2_with fail
             refine HRF.out.mono ?_
             rintro r w1 ⟨rfl, k1⟩
             have c38 := (HLG.out.keep k1 (fun e => e)).cells.2.2.2.2.2.2.1
             have c4 := (HLG.out.keep k1 (fun e => e)).cells.2.2.2.2.1
             have c2 := (HLG.out.keep k1 (fun e => e)).cells.2.2.1
             have m1 := (HME.out.keep0 k1).cells.2.1
             rw [HTN.out.1] at c38
             have HK1 := Lib.hid k1
             clear k1
             go_wp2
             go_quiet (fail)
             clear c38 c4 c2 m1
             go_wp2_with fail
             refine (HSZ.out _ (HK1.out.drewN _)).mono ?_
             rintro r w4 ⟨rfl, k4⟩
             have HK4 := Lib.hid ((HK1.out.drewN _).trans k4 (fun _ e => e.elim))
             clear k4
             go_wp2
             refine reg_begin (fun w' => Kp nob wr w') (by kernel_rfl) (HK4.out.drew) (fun HS => ?_)
             refine reg_tk (v := .pointer (some ⟨l, 0, none⟩)) 0 39 rfl rfl (by kernel_rfl) (by rfl) HS (fun w' hw => by go_simp) ?_; simp only [Act.put, zp1, zp2, zp3]
             refine reg_tk (v := .pointer (some ⟨l, 0, none⟩)) 1 40 rfl rfl (by kernel_rfl) (by rfl) HS (fun w' hw => by go_simp) ?_; simp only [Act.put, zp1, zp2, zp3]
             refine reg_tk (v := .pointer (some ⟨l, 2, none⟩)) 2 41 rfl rfl (by kernel_rfl) (by rfl) HS (fun w' hw => by go_simp) ?_; simp only [Act.put, zp1, zp2, zp3]
             refine reg_tk (v := .pointer (some ⟨z.m, 0, none⟩)) 3 42 rfl rfl (by kernel_rfl) (by rfl) HS (fun w' hw => by have c := (HLG.out.keep hw (fun e => e)).cells.2.2.1; go_simp) ?_; simp only [Act.put, zp1, zp2, zp3]
             refine reg_call 4 (some 43) rfl rfl (by kernel_rfl) (by rfl) _ _ (exec_func 42 _ _ [.pointer (some ⟨z.m, 0, none⟩)] rfl (by kernel_rfl) rfl) ?_
             refine (HLF.out _ HS).mono ?_
             rintro r w5 ⟨rfl, k5⟩
             have HS5 := HS.trans k5 (fun _ e => e.elim)
             refine ⟨_, rfl, HS5, fun _ => ?_⟩
             simp only [Act.put, zp1, zp2, zp3]
             refine reg_tk (v := .bool false) 5 44 rfl rfl (by kernel_rfl) (by rfl) HS5 (fun w' hw => by go_simp) ?_; simp only [Act.put, zp1, zp2, zp3]
             refine reg_tk (v := .bool false) 6 45 rfl rfl (by kernel_rfl) (by rfl) HS5 (fun w' hw => by go_simp) ?_; simp only [Act.put, zp1, zp2, zp3]
             refine reg_tk (v := .pointer (some ⟨l, 0, none⟩)) 7 46 rfl rfl (by kernel_rfl) (by rfl) HS5 (fun w' hw => by go_simp) ?_; simp only [Act.put, zp1, zp2, zp3]
             refine reg_tk (v := .pointer (some ⟨l, 0, none⟩)) 8 47 rfl rfl (by kernel_rfl) (by rfl) HS5 (fun w' hw => by go_simp) ?_; simp only [Act.put, zp1, zp2, zp3]
             refine reg_tk (v := .pointer (some ⟨l, 3, none⟩)) 9 48 rfl rfl (by kernel_rfl) (by rfl) HS5 (fun w' hw => by go_simp) ?_; simp only [Act.put, zp1, zp2, zp3]
             refine reg_tk (v := .pointer (some ⟨l, 5, none⟩)) 10 49 rfl rfl (by kernel_rfl) (by rfl) HS5 (fun w' hw => by go_simp) ?_; simp only [Act.put, zp1, zp2, zp3]
             refine reg_tk (v := .int .i64 (L.s : Int)) 11 50 rfl rfl (by kernel_rfl) (by rfl) HS5 (fun w' hw => by have c := (HLG.out.keep hw (fun e => e)).cells.2.2.2.2.2.1; go_simp) ?_; simp only [Act.put, zp1, zp2, zp3]
             refine reg_tk (v := .slice A m d) 12 51 rfl rfl (by kernel_rfl) (by rfl) HS5 (fun w' hw => by go_simp) ?_; simp only [Act.put, zp1, zp2, zp3]
             refine reg_tk (v := .int .i64 (m : Int)) 13 52 rfl rfl (by kernel_rfl) (by rfl) HS5 (fun w' hw => by go_simp) ?_; simp only [Act.put, zp1, zp2, zp3]
             refine reg_tk (v := .int .i64 (SM : Int)) 14 53 rfl rfl (by kernel_rfl) (by rfl) HS5 (fun w' hw => by go_simp) ?_; simp only [Act.put, zp1, zp2, zp3]
             refine reg_tk (v := .pointer (some ⟨l, 0, none⟩)) 15 54 rfl rfl (by kernel_rfl) (by rfl) HS5 (fun w' hw => by go_simp) ?_; simp only [Act.put, zp1, zp2, zp3]
             refine reg_tk (v := .pointer (some ⟨l, 0, none⟩)) 16 55 rfl rfl (by kernel_rfl) (by rfl) HS5 (fun w' hw => by go_simp) ?_; simp only [Act.put, zp1, zp2, zp3]
             refine reg_tk (v := .pointer (some ⟨l, 0, none⟩)) 17 56 rfl rfl (by kernel_rfl) (by rfl) HS5 (fun w' hw => by go_simp) ?_; simp only [Act.put, zp1, zp2, zp3]
             refine reg_tk (v := .pointer (some ⟨z.c.v, 0, none⟩)) 18 57 rfl rfl (by kernel_rfl) (by rfl) HS5 (fun w' hw => by have c := (HLG.out.keep hw (fun e => e)).cells.1; go_simp) ?_; simp only [Act.put, zp1, zp2, zp3]
             refine reg_call 19 (some 58) rfl rfl (by kernel_rfl) (by rfl) _ _ (exec_func 43 _ _ [.pointer (some ⟨z.c.v, 0, none⟩)] rfl (by kernel_rfl) rfl) ?_
             refine (HLM.out _ HS5).mono ?_
             rintro r w6 ⟨rfl, hw6⟩
             have HS6 : Kp nob wr w6 := by rw [← hw6]; exact HS5
             refine ⟨_, rfl, HS6, fun _ => ?_⟩
             simp only [Act.put, zp1, zp2, zp3]
             refine reg_tk (v := .bool (decide (z.c.lim < SM))) 20 59 rfl rfl (by kernel_rfl) (by rfl) HS6 (fun w' hw => by go_simp) ?_; simp only [Act.put, zp1, zp2, zp3]
             refine reg_tk (v := .bool (decide (z.c.lim < SM))) 21 60 rfl rfl (by kernel_rfl) (by rfl) HS6 (fun w' hw => by go_simp) ?_; simp only [Act.put, zp1, zp2, zp3]
             refine reg_tk (v := .bool (decide (z.c.lim < SM))) 22 38 rfl rfl (by kernel_rfl) (by rfl) HS6 (fun w' hw => by go_simp) ?_; simp only [Act.put, zp1, zp2, zp3]
             refine reg_end (by kernel_rfl) ?_
             have HK6 := Lib.hid HS6
             clear HS HS5 HS6 k5 hw6
             have hd4 : decide (z.c.lim < SM) = false := decide_eq_false c4x
             rw [hd4]
             clear c4x e1
             go_wp2
             refine reg_begin (fun w' => Kp nob wr w') (by kernel_rfl) (HK6.out.drew) (fun HS => ?_)
             refine reg_tk (v := .slice A m d) 0 62 rfl rfl (by kernel_rfl) (by rfl) HS (fun w' hw => by go_simp) ?_; simp only [Act.put, zp1, zp2, zp3]
             refine reg_tk (v := .pointer (some ⟨l, 0, none⟩)) 2 64 rfl rfl (by kernel_rfl) (by rfl) HS (fun w' hw => by go_simp) ?_; simp only [Act.put, zp1, zp2, zp3]
             refine reg_tk (v := .pointer (some ⟨l, 0, none⟩)) 3 65 rfl rfl (by kernel_rfl) (by rfl) HS (fun w' hw => by go_simp) ?_; simp only [Act.put, zp1, zp2, zp3]
             refine reg_tk (v := .pointer (some ⟨l, 3, none⟩)) 4 66 rfl rfl (by kernel_rfl) (by rfl) HS (fun w' hw => by go_simp) ?_; simp only [Act.put, zp1, zp2, zp3]
             refine reg_tk (v := .pointer (some ⟨l, 3, none⟩)) 5 67 rfl rfl (by kernel_rfl) (by rfl) HS (fun w' hw => by go_simp) ?_; simp only [Act.put, zp1, zp2, zp3]
             refine reg_tk (v := .pointer (some ⟨a, 0, none⟩)) 6 68 rfl rfl (by kernel_rfl) (by rfl) HS (fun w' hw => by have c := (HLG.out.keep hw (fun e => e)).cells.2.2.2.1; go_simp) ?_; simp only [Act.put, zp1, zp2, zp3]
             refine reg_call 1 (some 63) rfl rfl (by kernel_rfl) (by rfl) _ _ (exec_func 51 _ _ [.slice A m d] rfl (by kernel_rfl) rfl) ?_
             refine (HSC.out _ HS).mono ?_
             rintro r w7 ⟨rfl, k7⟩
             have HS7 := HS.trans k7 (fun _ e => e.elim)
             refine ⟨_, rfl, HS7, fun _ => ?_⟩
             simp only [Act.put, zp1, zp2, zp3]
             refine reg_call 7 (some 69) rfl rfl (by kernel_rfl) (by rfl) _ _ (exec_func 47 _ _ [.pointer (some ⟨a, 0, none⟩)] rfl (by kernel_rfl) rfl) ?_
             refine (HLA.out _ HS7).mono ?_
             rintro r w8 ⟨rfl, k8⟩
             have HS8 := HS7.trans k8 (fun _ e => e.elim)
             refine ⟨_, rfl, HS8, fun _ => ?_⟩
             simp only [Act.put, zp1, zp2, zp3]
             refine reg_tk (v := .bool (decide (RM < SC))) 8 70 rfl rfl (by kernel_rfl) (by rfl) HS8 (fun w' hw => by go_simp) ?_; simp only [Act.put, zp1, zp2, zp3]
             refine reg_tk (v := .bool (decide (RM < SC))) 9 61 rfl rfl (by kernel_rfl) (by rfl) HS8 (fun w' hw => by go_simp) ?_; simp only [Act.put, zp1, zp2, zp3]
             refine reg_end (by kernel_rfl) ?_
             have HK8 := Lib.hid HS8
             clear HS HS7 HS8 k7 k8
             have hd5 : decide (RM < SC) = false := decide_eq_false c5
             rw [hd5]
             clear c5
             go_wp2_with (first
              | (refine wpList_load_mid rfl 104 (.tmp 74) rfl l 3 rfl (tcells a L.e L.s L.h) _ ((HLG.out.keep HK8.out (fun e => e)).b.part 3 (tcells a L.e L.s L.h) (lcells_part z a L)) tail_under rfl (tail_size _ _ _ _ HLG.out.h32) ?_)
              | fail)
             refine (HGC.out _ HK8.out).mono ?_
             rintro r w9 ⟨rfl, v9, hg⟩
             have HG9 := Lib.hid hg
             clear hg
             go_wp2
             go_ret
             rw [HTE.out]
             exact ⟨rfl, v9, a, HG9.out.commit HGO.out.2.1 HGA.out (HK8.out.alloc _) HH.out.la HH.out.nl HH.out.na HPRE.out.room HPRE.out.top⟩
 · have hTe : T = ⟨v.x.o, D, t, L, refT D.off L.lost rs⟩ := by rw [HT.out]; unfold commitT; rw [if_pos hr]
   obtain ⟨x, hx⟩ : ∃ x, x = refT D.off L.lost rs := ⟨_, rfl⟩
   rw [← hx] at hr hTe HRF
   have hb : (x != 0) = true := by simp [hr]
   have HTE := Lib.hid hTe
   clear hr hTe hx HT
   go_enter Tryz.func24, Tryz.ntmps24
   go_wp2_with fail
   refine HRF.out.mono ?_
   rintro r w1 ⟨rfl, k1⟩
   go_wp2
   go_ret
   rw [HTE.out]
   exact ⟨rfl, v, a, HH.out.none_ k1 _ _ _ _⟩
end Com
end Go.Proofs.YtigdlnfgdjfdoaaGreat
