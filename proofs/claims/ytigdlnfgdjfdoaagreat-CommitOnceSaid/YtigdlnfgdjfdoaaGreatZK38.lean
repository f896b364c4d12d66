/- Lemmas: ComGr ComOn ComOw. -/
import Derived.Test.YtigdlnfgdjfdoaaGreatZK35
import Derived.Test.YtigdlnfgdjfdoaaGreatZK37
set_option maxHeartbeats 4000000
set_option maxRecDepth 100000
set_option linter.unusedVariables false
set_option linter.unusedSimpArgs false
namespace Go.Proofs.YtigdlnfgdjfdoaaGreat
namespace Com
open Go Go.RowKit Kit
open Rec (Rec rcells Rrow great_any greatR)
def tot (ss : List Stp) : Nat := (ss.map fun s => s.rs.length).sum
theorem tot_snoc (ss : List Stp) (k : Nat) (h : k < ss.length) : tot (ss.take (k + 1)) = tot (ss.take k) + ss[k].rs.length := by
 rw [List.take_add_one, List.getElem?_eq_getElem h]
 simp only [tot, Option.toList_some, List.map_append, List.map_cons, List.map_nil, List.sum_append, List.sum_cons, List.sum_nil, Nat.add_zero]
theorem tot_take (ss : List Stp) (k : Nat) : tot (ss.take k) ≤ tot ss := by
 have := congrArg tot (List.take_append_drop k ss)
 unfold tot at this ⊢
 rw [List.map_append, List.sum_append] at this
 omega
theorem StpOk.kept {w w2 : World} {s : Stp} {F : Nat → Prop} (h : StpOk w s) (k : Kp F w w2) (hF : ∀ j, ab s.A = some j → ¬ F j) : StpOk w2 s := ⟨h.len, Row.keep h.row k hF, h.cap, h.mx, h.nil, h.keep, h.fuse, h.ok, h.few⟩
theorem Srow.at_ {w : World} {A : Option Addr} {ss : List Stp} (h : Row w A (ss.flatMap Stp.cells)) {i : Nat} (hi : i < ss.length) : ∃ b o, A = some ⟨b, o, none⟩ ∧ b < w.heap.size ∧ w.rangeAt b (o + i * 5) ss[i].cells ∧
    w.cell? ⟨b, o + i * 5, none⟩ = some (.bool ss[i].turn) ∧ w.cell? ⟨b, o + i * 5 + 1, none⟩ = some (.slice ss[i].A ss[i].n ss[i].c) ∧ w.cell? ⟨b, o + i * 5 + 2, none⟩ = some (.int .i64 ss[i].fuse) ∧
    w.cell? ⟨b, o + i * 5 + 3, none⟩ = some (.int .u64 (ss[i].keep : Int)) ∧ w.cell? ⟨b, o + i * 5 + 4, none⟩ = some (.bool ss[i].again) := by
 rcases h with h | ⟨b, o, rfl, hb, hc⟩
 · have := congrArg List.length h
   rw [fm_length (k := 5) ss (fun a _ => a.cells_length)] at this
   simp only [List.length_nil] at this; omega
 · have H : ∀ j, j < 5 → w.cell? ⟨b, o + i * 5 + j, none⟩ = (ss[i].cells)[j]? := by
     intro j hj
     have e := fm_at (k := 5) ss (fun a _ => a.cells_length) i j ss[i] (List.getElem?_eq_getElem hi) hj
     rw [Nat.add_assoc]
     cases hu : (ss[i].cells)[j]? with
     | none => rw [List.getElem?_eq_none_iff] at hu; rw [Stp.cells_length] at hu; omega
     | some u => rw [hu] at e; exact hc _ _ e
   refine ⟨b, o, rfl, hb, fun j u hu => ?_, H 0 (by omega), H 1 (by omega), H 2 (by omega), H 3 (by omega), H 4 (by omega)⟩
   have hj : j < 5 := by have := (List.getElem?_eq_some_iff.1 hu).1; rwa [Stp.cells_length] at this
   rw [H j hj]; exact hu
structure Few (ss : List Stp) : Prop where
 n : ss.length ≤ 30
 t : tot ss ≤ 100
 b : ∀ s ∈ ss, ∀ r ∈ s.rs, r.body.length ≤ 4096
theorem great_no {rs : List Rec} {most : Nat} (hg : greatR rs most = false) : rs.length ≤ most ∧ ∀ r ∈ rs, r.body.length ≤ 4096 := by
 unfold greatR at hg
 simp only [Bool.or_eq_false_iff, decide_eq_false_iff_not, List.any_eq_false, decide_eq_true_eq] at hg
 exact ⟨by have := hg.2; omega, fun r hr => by have := hg.1 r hr; omega⟩
theorem lgreat_any (A : Option Addr) (n c : Nat) (ss : List Stp) (w : World) (hl : ss.length = n) (hp : Row w A (ss.flatMap Stp.cells)) (hc : n ≤ c) (hm : c ≤ maxLen) (hok : ∀ s ∈ ss, StpOk w s) :
    Calls Tryz.prog 9 #[.slice A n c] w fun e w' => ∃ b, e = .returned (.bool b) ∧ Kp nob w w' ∧ (b = false → Few ss) := by
 have hn : n ≤ 9223372036854775807 := by unfold maxLen at hm; omega
 have HOK := Lib.hid hok
 clear hok
 go_enter Tryz.func9, Tryz.ntmps9
 go_wp2
 go_loopw [3, 8] (fun t i wr => ∃ k : Nat, k ≤ n ∧ i = .int .i64 k ∧ t = .int .i64 (tot (ss.take k) : Nat) ∧ tot (ss.take k) ≤ 100 ∧ (∀ s ∈ ss.take k, ∀ r ∈ s.rs, r.body.length ≤ 4096) ∧ Kp nob w wr)
  (fun _ i _ => n - (intOf i).toNat)
 case atStart => exact ⟨0, Nat.zero_le _, rfl, rfl, by simp [tot], (fun s h => by simp at h), Kp.refl _ _⟩
 case round =>
  obtain ⟨k, hk, rfl, rfl, ht, hb, kr⟩ := hrel
  by_cases hlt : k < n
  · obtain ⟨bb, oo, rfl, hbb, hrg, hc0, hc1, hc2, hc3, hc4⟩ := Srow.at_ (hp.keep0 kr) (i := k) (by omega)
    have hmem : ss[k]'(by omega) ∈ ss := List.getElem_mem _
    have hsn := tot_snoc ss k (by omega)
    have htk : ss.take (k + 1) = ss.take k ++ [ss[k]'(by omega)] := by rw [List.take_add_one, List.getElem?_eq_getElem (by omega)]; rfl
    obtain ⟨s, hs⟩ : ∃ s, s = ss[k]'(by omega) := ⟨_, rfl⟩
    rw [← hs] at hc0 hc1 hc2 hc3 hc4 hmem hsn htk hrg
    have hso := HOK.out s hmem
    have hsl := hso.len
    have hsc := hso.cap
    have hsf := hso.few
    have e1 : IntKind.i64.wrap (((tot (ss.take k) : Nat) : Int) + (s.n : Int)) = ((tot (ss.take (k + 1)) : Nat) : Int) := by rw [IntWalk.i64_in _ (by omega), hsn, hsl]; omega
    have H3 := Lib.hid hsn; have H5 := Lib.hid ht; have H6 := Lib.hid hb; have H7 := Lib.hid htk
    have HSO := Lib.hid hso
    have HGR := Lib.hid (fun w' (k' : Kp nob wr w') => great_any s.A s.n s.c s.rs 100 w' hsl (Row.keep0 (Row.keep0 hso.row kr) k') (by have := hso.mx; unfold maxLen at *; omega))
    clear hs hsn hmem ht hb htk hso hsl hsc hsf hrg
    by_cases hg : 100 < tot (ss.take (k + 1))
    · have hgb : decide ((100 : Int) < ((tot (ss.take (k + 1)) : Nat) : Int)) = true := decide_eq_true (by omega)
      go_wp2_with fail
      go_ret
      exact ⟨true, rfl, kr.alloc _, fun e => by cases e⟩
    · have hgb : decide ((100 : Int) < ((tot (ss.take (k + 1)) : Nat) : Int)) = false := decide_eq_false (by omega)
      go_wp2_with fail
      refine (HGR.out _ ((Kp.refl nob wr).alloc _)).mono ?_
      rintro r w3 ⟨rfl, k3⟩
      cases hgr : greatR s.rs 100 with
      | true =>
        go_wp2
        go_ret
        exact ⟨true, rfl, (kr.alloc _).trans k3 (fun _ e => e.elim), fun e => by cases e⟩
      | false =>
        obtain ⟨hx, hy⟩ := great_no (most := 100) hgr
        have HY := Lib.hid hy
        have hmx := hn
        clear hx hy
        go_wp2
        go_roundw
        case rel =>
         refine ⟨k + 1, by omega, by go_num, rfl, by omega, fun x hx => ?_, (kr.alloc _).trans k3 (fun _ e => e.elim)⟩
         rw [H7.out] at hx
         rcases List.mem_append.1 hx with hx | hx
         · exact H6.out x hx
         · rw [List.mem_singleton.1 hx]; exact HY.out
        case measure => simp [intOf]; omega
  · obtain rfl : k = n := by omega
    rw [List.take_of_length_le (by omega)] at ht hb
    have HT := Lib.hid (And.intro ht hb)
    clear ht hb
    go_wp2
    go_ret
    refine ⟨_, rfl, kr, fun e => ⟨?_, HT.out.1, HT.out.2⟩⟩
    have := of_decide_eq_false e
    omega
end Com
namespace Com
open Go Go.RowKit Kit
open Rec (Rec good ftot fsec split split_flat good_bounds Rrow rcells)
open Ideal (Ts Thing hashT)
open Disk
open Meter (Mt Mk Mb nxt)
theorem Pg.less {w wr : World} {z : Zf} {v : Zv} {D : Dk} {t : Mt} {B F : Nat → Prop} {l a : Nat} {L : Lo} (h : Pg w wr z v D t l a L B) (hF : ∀ j, F j → B j) : Pg w wr z v D t l a L F :=
 ⟨h.b.less (fun j e => e.imp (hF j) id), h.lg, h.ar, h.la, fun e => h.nl (hF _ e), fun e => h.na (hF _ e), h.pos, h.top⟩
theorem Pg.add {w wr : World} {z : Zf} {v : Zv} {D : Dk} {t : Mt} {B : Nat → Prop} {l a : Nat} {L : Lo} (h : Pg w wr z v D t l a L B) (F : Nat → Prop) (hF : ∀ j, F j → w.heap.size ≤ j ∧ j < wr.heap.size ∧ ¬ own z v j ∧ j ≠ l ∧ j ≠ a) : Pg w wr z v D t l a L (fun j => B j ∨ F j) := by
 refine ⟨⟨h.b.vx, h.b.dream, h.b.cd, h.b.me, h.b.kp, h.b.new, h.b.vd, h.b.dm, fun j e => ?_⟩, h.lg, h.ar, h.la, fun e => e.elim h.nl (fun e => (hF _ e).2.2.2.1 rfl), fun e => e.elim h.na (fun e => (hF _ e).2.2.2.2 rfl), h.pos, h.top⟩
 rcases e with (e | e) | e
 · exact h.b.be j (.inl e)
 · exact ⟨(hF j e).1, (hF j e).2.1, (hF j e).2.2.1⟩
 · exact h.b.be j (.inr e)
def nl (xs : List Rec) : List Rec := if xs = [] then [tick] else xs
theorem nl_some {xs : List Rec} (h : xs ≠ []) : nl xs = xs := by unfold nl; rw [if_neg h]
structure Ob (w wr : World) (z : Zf) (p : Nat) (lo : Option Nat) (i b : Nat) (v : Zv) (D : Dk) (t : Mt) (xs : List Rec) (hist : Nat → List Rec) : Prop where
 pb : Pb w wr z v D t (fun j => j = p)
 bl : Blk wr p 42 (pcells z lo)
 s0 : S0 z.c.ms z.c.lim v.x.o D t xs
 told : Vault.Told (TH hist) v.x.sl
 cl : v.x.cl = 0
 ep : t.epoch ≤ i
 next : hist (t.epoch.toNat + 1) = [] ∨ hist (t.epoch.toNat + 1) = nl xs
 far : ∀ e, t.epoch.toNat + 1 < e → hist e = []
 few : v.x.o.few (700 * i)
 sm : Sm D (400 * i) D.now.length
 n : D.now.length ≤ 100
 lim : z.c.lim = 1099511627776
 len : xs.length ≤ b
 bd : ∀ r ∈ xs, r.body.length ≤ 4096
 bb : 1 ≤ b ∧ b ≤ 101
 most : t.most ≤ 1099511627776
structure Oc (w wr : World) (z : Zf) (p l a : Nat) (L : Lo) (i b : Nat) (v : Zv) (D : Dk) (t : Mt) (xs ys : List Rec) (fresh : Bool) (Y : Option Addr) (cy : Nat) (hist : Nat → List Rec) : Prop where
 o : Ob w wr z p (some l) i b v D t xs hist
 g : Pg w wr z v D t l a L (fun j => j = p ∨ ab Y = some j)
 off : D.off = false
 lost : L.lost = false
 row : Rrow wr Y ys
 cap : ys.length ≤ cy ∧ cy ≤ maxLen ∧ (Y = none → cy = 0)
 yl : ys.length ≤ b
 yb : ∀ r ∈ ys, r.body.length ≤ 4096
 fr : fresh = true → ys = xs ∧ xs ≠ [] ∧ (∃ u, Ls z.c.ms z.c.lim v.x.o D t L xs u) ∧ hist t.epoch.toNat = xs ∧ hist (t.epoch.toNat + 1) = []
 nf : fresh = false → nl ys = nl xs
theorem Ob.keep {w wr w2 : World} {z : Zf} {p : Nat} {lo : Option Nat} {i b : Nat} {v : Zv} {D : Dk} {t : Mt} {xs : List Rec} {hist : Nat → List Rec} (h : Ob w wr z p lo i b v D t xs hist) (k : Kp nob wr w2) : Ob w w2 z p lo i b v D t xs hist :=
 ⟨h.pb.keep0 k, h.bl.keep k (fun e => e), h.s0, h.told, h.cl, h.ep, h.next, h.far, h.few, h.sm, h.n, h.lim, h.len, h.bd, h.bb, h.most⟩
theorem Oc.keep {w wr w2 : World} {z : Zf} {p l a : Nat} {L : Lo} {i b : Nat} {v : Zv} {D : Dk} {t : Mt} {xs ys : List Rec} {fresh : Bool} {Y : Option Addr} {cy : Nat} {hist : Nat → List Rec} (h : Oc w wr z p l a L i b v D t xs ys fresh Y cy hist) (k : Kp nob wr w2) : Oc w w2 z p l a L i b v D t xs ys fresh Y cy hist :=
 ⟨h.o.keep k, h.g.keep0 k, h.off, h.lost, Row.keep0 h.row k, h.cap, h.yl, h.yb, h.fr, h.nf⟩
theorem Oc.tick_ {w wr w2 : World} {z : Zf} {p l a : Nat} {L : Lo} {i b : Nat} {v : Zv} {D : Dk} {t : Mt} {xs : List Rec} {Y : Option Addr} {cy : Nat} {hist : Nat → List Rec} {fresh : Bool} (h : Oc w wr z p l a L i b v D t xs [] fresh Y cy hist) (k : Kp nob wr w2) (hs : wr.heap.size < w2.heap.size) (hr : Rrow w2 (some ⟨wr.heap.size, 0, none⟩) [tick]) :
    Oc w w2 z p l a L i b v D t xs [tick] fresh (some ⟨wr.heap.size, 0, none⟩) 1 hist := by
 have hb := h.o.bb
 have hw := h.g.b.kp.size
 refine ⟨h.o.keep k, ?_, h.off, h.lost, hr, ⟨Nat.le_refl _, by simp [maxLen], fun e => by cases e⟩, by simpa using hb.1, fun r hr => by rw [List.mem_singleton.1 hr]; simp [tick], fun e => ?_, fun e => ?_⟩
 · have h1 := (h.g.less (F := fun j => j = p) (fun j e => .inl e)).keep0 k
   refine Pg.less (h1.add (fun j => j = wr.heap.size) (fun j e => ?_)) (fun j e => e.imp id (fun e => (Option.some.inj e).symm))
   have h2 := h.g.lg.b.lt
   have h3 : a < wr.heap.size := Blk.lt h.g.ar
   exact ⟨by omega, by omega, fun e2 => by have := h.g.b.lt j e2; omega, by omega, by omega⟩
 · obtain ⟨h1, h2, _⟩ := h.fr e
   exact absurd h1.symm h2
 · rw [← h.nf e]; rfl
theorem refT_01 (rs : List Rec) : refT false false rs = 0 ∧ (rs ≠ [] ∧ ∀ r ∈ rs, good r = true) ∨ refT false false rs = 1 := by
 rcases refT_cases false false rs with ⟨_, e⟩ | ⟨e, _⟩ | ⟨e, _, _, h⟩
 · cases e
 · exact .inr e
 · exact .inl ⟨e, h⟩
theorem tno {lim : Nat} {D : Dk} {t : Mt} {rs : List Rec} : (if refT false false rs ≠ 0 then refT false false rs else tcheck lim D t rs) ≠ 8 ∧ ((if refT false false rs ≠ 0 then refT false false rs else tcheck lim D t rs) = 0 → ∀ r ∈ rs, good r = true) := by
 rcases refT_01 rs with ⟨e, h⟩ | e
 · rw [if_neg (by rw [e]; exact fun e => e rfl)]
   refine ⟨?_, fun _ => h.2⟩
   unfold tcheck
   split
   · decide
   · split <;> decide
 · rw [if_pos (by rw [e]; decide), e]
   exact ⟨by decide, fun e => absurd e (by decide)⟩
theorem cno {lim : Nat} {t : Mt} {L : Lo} {rs : List Rec} : (if refT false false rs ≠ 0 then refT false false rs else ccheck lim t L rs) ≠ 8 ∧ ((if refT false false rs ≠ 0 then refT false false rs else ccheck lim t L rs) = 0 → (∀ r ∈ rs, good r = true) ∧ ftot rs ≤ 16384) := by
 rcases refT_01 rs with ⟨e, h⟩ | e
 · rw [if_neg (by rw [e]; exact fun e => e rfl)]
   unfold ccheck
   split
   · exact ⟨by decide, fun e => absurd e (by decide)⟩
   · split
     · exact ⟨by decide, fun e => absurd e (by decide)⟩
     · rename_i h2
       refine ⟨?_, fun _ => ⟨h.2, by omega⟩⟩
       split
       · decide
       · split <;> decide
 · rw [if_pos (by rw [e]; decide), e]
   exact ⟨by decide, fun e => absurd e (by decide)⟩
theorem Oc.beside {w wr w2 : World} {z : Zf} {p l a : Nat} {L : Lo} {i b : Nat} {v : Zv} {D : Dk} {t : Mt} {xs ys : List Rec} {fresh : Bool} {Y : Option Addr} {cy : Nat} {hist : Nat → List Rec} (h : Oc w wr z p l a L i b v D t xs ys fresh Y cy hist) (k : Kp (fun j => own z v j ∨ j = l ∨ j = a) wr w2) :
    Blk w2 p 42 (pcells z (some l)) ∧ Rrow w2 Y ys := by
 have hn : ∀ j, (j = p ∨ ab Y = some j) → ¬ (own z v j ∨ j = l ∨ j = a) := fun j hj e => by
  have h1 := h.g.b.be j (.inl hj)
  rcases e with e | e | e
  · exact h1.2.2 e
  · subst e; exact h.g.nl hj
  · subst e; exact h.g.na hj
 exact ⟨h.o.bl.keep k (hn p (.inl rfl)), Row.keep h.row k (fun j e => hn j (.inr e))⟩
theorem Oc.turn {w wr w2 : World} {z : Zf} {p l a a2 : Nat} {L : Lo} {i b : Nat} {v v2 : Zv} {D : Dk} {t : Mt} {xs ys : List Rec} {fresh : Bool} {Y : Option Addr} {cy : Nat} {hist : Nat → List Rec} (h : Oc w wr z p l a L i b v D t xs ys fresh Y cy hist) (hne : ys ≠ []) (hi : i ≤ 31) {T : Tr} (hT : T = turnT z.c.ms z.c.lim v.x.o D t L ys)
    (q : TP w wr z v (fun j => j = p ∨ ab Y = some j) l a (t.epoch + 1) 0 ys T w2 v2 a2) :
    (T.e ≠ 8 ∧ ∃ xs2 hist2, Oc w w2 z p l a2 T.L (i + 1) b v2 T.D T.t xs2 ys (fresh || decide (T.e = 0)) Y cy hist2) ∨ (T.e = 8 ∧ ∃ xs2 hist2, Ob w w2 z p (some l) (i + 1) b v2 T.D T.t xs2 hist2) := by
 have hb := h.o
 have hbb := hb.bb
 have hep := hb.s0.ep
 have hepi := hb.ep
 have hyl := h.yl
 obtain ⟨c1, c2, c3, c4, c5⟩ := turn_st hb.s0 h.off h.lost T hT
 obtain ⟨hbl, hrow⟩ := h.beside q.k
 have hpb : Pb w w2 z v2 T.D T.t (fun j => j = p) := q.b.less (fun j e => .inl e)
 obtain ⟨e0, he0⟩ : ∃ e0, e0 = t.epoch.toNat + 1 := ⟨_, rfl⟩
 have heI : t.epoch + 1 = (e0 : Int) := by omega
 have hT2 : (t.epoch + 1).toNat = e0 := by omega
 have hys : nl ys = ys := nl_some hne
 have hnl : nl ys = nl xs := by
  cases hfr : fresh with
  | true => rw [(h.fr hfr).1]
  | false => exact h.nf hfr
 have hold : hist e0 = ys ∨ hist e0 = [] := by
  rcases hb.next with e | e
  · exact .inr (by rw [he0]; exact e)
  · exact .inl (by rw [he0, e, ← hnl, hys])
 have hgood := (tno (lim := z.c.lim) (D := D) (t := t) (rs := ys)).2
 have hn8 := (tno (lim := z.c.lim) (D := D) (t := t) (rs := ys)).1
 have qo := q.o
 have hfew : ∀ n, 700 * i + 1 + 6 * ys.length ≤ n → v2.x.o.few n := fun n hn => by rw [qo]; exact (c4 _ hb.few).mono hn
 have hsml : (∀ r ∈ ys, good r = true) → Sm T.D (400 * (i + 1)) T.D.now.length := fun hg => by
  have h1 := split_few hg
  have h2 := c3 _ _ hb.sm
  rw [c2]
  exact Sm.le_ h2 (by omega)
 have hh : Vault.Told (TH (hset hist e0 ys)) v2.x.sl ∧ v2.x.cl = v.x.cl := told_turn heI q.onc hb.told hold (by omega) (by omega)
 have hcl : v2.x.cl = 0 := hh.2.trans hb.cl
 have hfar : ∀ e, e0 < e → hset hist e0 ys e = [] := fun e he => by rw [hset_ne hist ys (by omega)]; exact hb.far e (by omega)
 rcases c1 with ⟨n0, e⟩ | ⟨n0, e, ht, off, s, lg⟩ | ⟨n0, e, off, f, s⟩
 · have hTe : T.e = (if refT false false ys ≠ 0 then refT false false ys else tcheck z.c.lim D t ys) := by rw [e]
   have h8 : T.e ≠ 8 := by rw [hTe]; exact hn8
   have h0 : T.e ≠ 0 := by rw [hTe]; exact n0
   have hid := q.idle h0 h8
   have hgg := q.g h8
   have hTD : T.D = D := by rw [e]
   have hTt : T.t = t := by rw [e]
   have hTL : T.L = L := by rw [e]
   rw [hTD, hTt, hTL] at hgg
   rw [hTD, hTt] at hpb
   refine .inl ⟨h8, xs, hist, ?_⟩
   rw [hTD, hTt, hTL, decide_eq_false h0, Bool.or_false]
   refine ⟨⟨hpb, hbl, by rw [hid]; exact hb.s0, by rw [hid]; exact hb.told, hcl, by omega, hb.next, hb.far, hfew _ (by omega), Sm.le_ hb.sm (by omega), hb.n, hb.lim, hb.len, hb.bd, hb.bb, hb.most⟩, hgg, h.off, h.lost, hrow, h.cap, h.yl, h.yb, fun e => by rw [hid]; exact h.fr e, h.nf⟩
 · have h8 : T.e ≠ 8 := by rw [e]; decide
   have hte : T.t.epoch = t.epoch + 1 := by rw [ht]; rfl
   have htn : T.t.epoch.toNat = e0 := by rw [hte, hT2]
   refine .inl ⟨h8, ys, hset hist e0 ys, ?_⟩
   rw [decide_eq_true e, Bool.or_true]
   refine ⟨⟨hpb, hbl, by rw [qo]; exact s, hh.1, hcl, by rw [hte]; omega, by rw [htn]; exact .inl (hfar _ (by omega)), by rw [htn]; exact fun e he => hfar e (by omega), hfew _ (by omega), hsml (hgood n0), by rw [c2]; exact hb.n, hb.lim, h.yl, h.yb, hb.bb, by rw [ht]; exact hb.most⟩, q.g h8, off, lg.lost, hrow, h.cap, h.yl, h.yb, fun _ => ⟨rfl, hne, ⟨_, by rw [qo]; exact lg⟩, by rw [htn]; exact hset_at _ _ _, by rw [htn]; exact hfar _ (by omega)⟩, fun e => by cases e⟩
 · refine .inr ⟨e, ?_⟩
   rcases s with ⟨ht, s⟩ | ⟨⟨r, ht⟩, s⟩
   · refine ⟨xs, hset hist e0 ys, ⟨hpb, hbl, by rw [qo]; exact s, hh.1, hcl, by rw [ht]; omega, ?_, ?_, hfew _ (by omega), hsml (hgood n0), by rw [c2]; exact hb.n, hb.lim, hb.len, hb.bd, hb.bb, by rw [ht]; exact hb.most⟩⟩
     · rw [ht, ← he0, hset_at]
       exact .inr (by rw [← hnl, hys])
     · rw [ht, ← he0]; exact hfar
   · have hte : T.t.epoch = t.epoch + 1 := by rw [ht]; rfl
     have htn : T.t.epoch.toNat = e0 := by rw [hte, hT2]
     exact ⟨ys, hset hist e0 ys, ⟨hpb, hbl, by rw [qo]; exact s, hh.1, hcl, by rw [hte]; omega, by rw [htn]; exact .inl (hfar _ (by omega)), by rw [htn]; exact fun e he => hfar e (by omega), hfew _ (by omega), hsml (hgood n0), by rw [c2]; exact hb.n, hb.lim, h.yl, h.yb, hb.bb, by rw [ht]; exact hb.most⟩⟩
theorem fsec_few {rs : List Rec} (h : ftot rs ≤ 16384) : fsec rs ≤ 64 := by unfold fsec; omega
theorem sm_arm {D : Dk} {k m : Nat} (h : Sm D k m) (n : Int) (K : Nat) (hn : n ≤ 9223372036854775807) (hK : K < 18446744073709551616) : Sm (arm D n K) k m := ⟨h.acts, h.waits, by show n.toNat ≤ _; omega, hK, h.len⟩
theorem sm_on {D : Dk} {k m : Nat} (h : Sm D k m) : Sm (on D) k m := ⟨h.acts, h.waits, h.fuse, h.keep, h.len⟩
theorem Oc.commit {w wr w2 : World} {z : Zf} {p l a a2 : Nat} {L : Lo} {i b : Nat} {v v2 : Zv} {D : Dk} {t : Mt} {xs ys rs : List Rec} {Y : Option Addr} {cy : Nat} {hist : Nat → List Rec} (h : Oc w wr z p l a L i b v D t xs ys true Y cy hist) (hi : i ≤ 31) (hrs : rs.length ≤ 101) (hrb : ∀ r ∈ rs, r.body.length ≤ 4096) (hbl : b + rs.length ≤ 101) {T : Tr} (hT : T = commitT z.c.ms z.c.lim v.x.o D t L rs)
    (q : TP w wr z v (fun j => j = p ∨ ab Y = some j) l a L.e L.s rs T w2 v2 a2) :
    (T.e ≠ 8 ∧ T.e ≠ 0 ∧ Oc w w2 z p l a2 T.L (i + 1) b v2 T.D T.t xs ys true Y cy hist) ∨ (T.e = 8 ∧ ∃ xs2 hist2, Ob w w2 z p (some l) (i + 1) (b + rs.length) v2 T.D T.t xs2 hist2) ∨
    (T.e = 0 ∧ Rrow w2 Y ys ∧ Blk w2 p 42 (pcells z (some l)) ∧ Pg w w2 z v2 T.D T.t l a2 T.L (fun j => j = p ∨ ab Y = some j) ∧ ∃ hist2, ∀ w3 Y2 cy2, Kp nob w2 w3 → Rrow w3 Y2 (ys ++ rs) → ((ys ++ rs).length ≤ cy2 ∧ cy2 ≤ maxLen ∧ (Y2 = none → cy2 = 0)) → (∀ j, ab Y2 = some j → w2.heap.size ≤ j ∧ j < w3.heap.size) → Oc w w3 z p l a2 T.L (i + 1) (b + rs.length) v2 T.D T.t (xs ++ rs) (ys ++ rs) true Y2 cy2 hist2) := by
 have hb := h.o
 have hbb := hb.bb
 have hep := hb.s0.ep
 have hepi := hb.ep
 have hyl := h.yl
 obtain ⟨hyx, hxne, ⟨u, hL⟩, hh1, hh2⟩ := h.fr rfl
 obtain ⟨c1, c2, c3, c4, c5⟩ := commit_st hb.s0 hL h.off (by omega) h.g.pos h.g.top h.g.lg.h32 T hT
 obtain ⟨hbl2, hrow⟩ := h.beside q.k
 have hpb : Pb w w2 z v2 T.D T.t (fun j => j = p) := q.b.less (fun j e => .inl e)
 obtain ⟨e0, he0⟩ : ∃ e0, e0 = t.epoch.toNat := ⟨_, rfl⟩
 have heI : L.e = (e0 : Int) := by rw [hL.e]; omega
 have hgood := (cno (lim := z.c.lim) (t := t) (L := L) (rs := rs)).2
 have hn8 := (cno (lim := z.c.lim) (t := t) (L := L) (rs := rs)).1
 have qo := q.o
 have hfew : ∀ n, 700 * i + 1 + 6 * rs.length ≤ n → v2.x.o.few n := fun n hn => by rw [qo]; exact (c4 _ hb.few).mono hn
 have hsml : ftot rs ≤ 16384 → Sm T.D (400 * (i + 1)) T.D.now.length := fun hg => by
  have h1 := fsec_few hg
  have h2 := c3 _ _ hb.sm
  rw [c2]
  exact Sm.le_ h2 (by omega)
 have hlen := hb.len
 have honc := q.onc
 rw [hL.s] at honc
 have hh : Vault.Told (TH (hset hist e0 (xs ++ rs))) v2.x.sl ∧ v2.x.cl = v.x.cl := told_on heI honc hb.told (.inl (by rw [he0]; exact hh1)) (by omega) (by omega)
 have hcl : v2.x.cl = 0 := hh.2.trans hb.cl
 have hfar : ∀ e, e0 < e → hset hist e0 (xs ++ rs) e = [] := fun e he => by
  rw [hset_ne hist _ (by omega)]
  by_cases h1 : e = e0 + 1
  · rw [h1, he0]; exact hh2
  · exact hb.far e (by omega)
 have hxb : ∀ r ∈ xs ++ rs, r.body.length ≤ 4096 := fun r hr => (List.mem_append.1 hr).elim (hb.bd r) (hrb r)
 rcases c1 with ⟨n0, e⟩ | ⟨n0, e, ht, off, s, lg⟩ | ⟨n0, e, off, f, s⟩
 · have hTe : T.e = (if refT false false rs ≠ 0 then refT false false rs else ccheck z.c.lim t L rs) := by rw [e]
   have h8 : T.e ≠ 8 := by rw [hTe]; exact hn8
   have h0 : T.e ≠ 0 := by rw [hTe]; exact n0
   have hid := q.idle h0 h8
   have hgg := q.g h8
   have hTD : T.D = D := by rw [e]
   have hTt : T.t = t := by rw [e]
   have hTL : T.L = L := by rw [e]
   rw [hTD, hTt, hTL] at hgg
   rw [hTD, hTt] at hpb
   refine .inl ⟨h8, h0, ?_⟩
   rw [hTD, hTt, hTL]
   exact ⟨⟨hpb, hbl2, by rw [hid]; exact hb.s0, by rw [hid]; exact hb.told, hcl, by omega, hb.next, hb.far, hfew _ (by omega), Sm.le_ hb.sm (by omega), hb.n, hb.lim, hb.len, hb.bd, hb.bb, hb.most⟩, hgg, h.off, h.lost, hrow, h.cap, h.yl, h.yb, fun e => by rw [hid]; exact h.fr e, h.nf⟩
 · have h8 : T.e ≠ 8 := by rw [e]; decide
   have hgg := q.g h8
   have hte : T.t.epoch = t.epoch := by rw [ht]; rfl
   have htn : T.t.epoch.toNat = e0 := by rw [hte, he0]
   refine .inr (.inr ⟨e, hrow, hbl2, hgg, hset hist e0 (xs ++ rs), fun w3 Y2 cy2 k3 hr3 hc3 hf3 => ?_⟩)
   have hw := hgg.b.kp.size
   have hne2 : xs ++ rs ≠ [] := fun e => hxne (List.append_eq_nil_iff.1 e).1
   refine ⟨⟨hpb.keep0 k3, hbl2.keep k3 (fun e => e), by rw [qo]; exact s, hh.1, hcl, by rw [hte]; omega, by rw [htn]; exact .inl (hfar _ (by omega)), by rw [htn]; exact fun e he => hfar e (by omega), hfew _ (by omega), hsml (hgood n0).2, by rw [c2]; exact hb.n, hb.lim, by rw [List.length_append]; omega, hxb, by omega, by rw [ht]; exact hb.most⟩, ?_, off, lg.lost, hr3, hc3, by rw [List.length_append, hyx]; omega, by rw [hyx]; exact hxb, fun _ => ⟨by rw [hyx], hne2, ⟨_, by rw [qo]; exact lg⟩, by rw [htn]; exact hset_at _ _ _, by rw [htn]; exact hfar _ (by omega)⟩, fun e => by cases e⟩
   refine ((hgg.less (F := fun j => j = p) (fun j e => .inl e)).keep0 k3).add (fun j => ab Y2 = some j) (fun j e => ?_)
   obtain ⟨f1, f2⟩ := hf3 j e
   have h2 := hgg.lg.b.lt
   have h3 : a2 < w2.heap.size := Blk.lt hgg.ar
   exact ⟨by omega, f2, hgg.b.far f1, by omega, by omega⟩
 · refine .inr (.inl ⟨e, ?_⟩)
   rcases s with ⟨ht, s⟩ | ⟨⟨r, ht⟩, s⟩
   · refine ⟨xs, hset hist e0 (xs ++ rs), ⟨hpb, hbl2, by rw [qo]; exact s, hh.1, hcl, by rw [ht]; omega, by rw [ht, ← he0]; exact .inl (hfar _ (by omega)), by rw [ht, ← he0]; exact fun e he => hfar e (by omega), hfew _ (by omega), hsml (hgood n0).2, by rw [c2]; exact hb.n, hb.lim, by omega, hb.bd, by omega, by rw [ht]; exact hb.most⟩⟩
   · have hte : T.t.epoch = t.epoch := by rw [ht]; rfl
     have htn : T.t.epoch.toNat = e0 := by rw [hte, he0]
     exact ⟨xs ++ rs, hset hist e0 (xs ++ rs), ⟨hpb, hbl2, by rw [qo]; exact s, hh.1, hcl, by rw [hte]; omega, by rw [htn]; exact .inl (hfar _ (by omega)), by rw [htn]; exact fun e he => hfar e (by omega), hfew _ (by omega), hsml (hgood n0).2, by rw [c2]; exact hb.n, hb.lim, by rw [List.length_append]; omega, hxb, by omega, by rw [ht]; exact hb.most⟩⟩
theorem Pg.of_q {w wr w2 : World} {z : Zf} {v v2 : Zv} {D D2 : Dk} {t : Mt} {B : Nat → Prop} {l a : Nat} {L : Lo} (h : Pg w wr z v D t l a L B) (q : Pq w wr z v w2 v2 D2 t (fun j => B j ∨ j = l ∨ j = a)) (hn : D2.now.length = D.now.length) : Pg w w2 z v2 D2 t l a L B :=
 ⟨q.b, h.lg.keep q.k (fun e => (h.b.be l (.inr (.inl rfl))).2.2 e), areaP.keep h.ar q.k (fun e => (h.b.be a (.inr (.inr rfl))).2.2 e), h.la, h.nl, h.na, h.pos, by rw [hn]; exact h.top⟩
theorem Oc.arm_ {w wr w2 : World} {z : Zf} {p l a : Nat} {L : Lo} {i b : Nat} {v : Zv} {D : Dk} {t : Mt} {xs ys : List Rec} {fresh : Bool} {Y : Option Addr} {cy : Nat} {hist : Nat → List Rec} (h : Oc w wr z p l a L i b v D t xs ys fresh Y cy hist) (n : Int) (K : Nat) (hn : n ≤ 9223372036854775807) (hK : K < 18446744073709551616) (hz : Dz wr z.g z.N z.S v.W (arm D n K) w2) :
    ∃ v2, Oc w w2 z p l a L i b v2 (arm D n K) t xs ys fresh Y cy hist ∧ Kp (own z v) wr w2 ∧ ∀ j, own z v2 j → own z v j ∨ wr.heap.size ≤ j := by
 obtain ⟨W2, c2, q⟩ := h.g.b.disk hz
 have hno : ∀ j, (j = p ∨ ab Y = some j) → ¬ own z v j := fun j hj => (h.g.b.be j (.inl hj)).2.2
 refine ⟨⟨v.x, W2, c2⟩, ⟨⟨q.b.less (fun j e => .inl (.inl e)), h.o.bl.keep q.k (hno p (.inl rfl)), h.o.s0.arm_ n K, h.o.told, h.o.cl, h.o.ep, h.o.next, h.o.far, h.o.few, sm_arm h.o.sm n K hn hK, h.o.n, h.o.lim, h.o.len, h.o.bd, h.o.bb, h.o.most⟩, h.g.of_q q rfl, h.off, h.lost, Row.keep h.row q.k (fun j e => hno j (.inr e)), h.cap, h.yl, h.yb, fun e => ?_, h.nf⟩, q.k, q.sub⟩
 obtain ⟨h1, h2, ⟨u, h3⟩, h4⟩ := h.fr e
 exact ⟨h1, h2, ⟨u, h3.arm_ n K⟩, h4⟩
theorem Ob.disk {w wr w2 : World} {z : Zf} {p : Nat} {lo : Option Nat} {i b : Nat} {v : Zv} {D D2 : Dk} {t : Mt} {xs : List Rec} {hist : Nat → List Rec} (h : Ob w wr z p lo i b v D t xs hist) (hz : Dz wr z.g z.N z.S v.W D2 w2) (hs : S0 z.c.ms z.c.lim v.x.o D2 t xs) (hm : Sm D2 (400 * i) D2.now.length) (hn : D2.now.length = D.now.length) :
    ∃ v2, Ob w w2 z p lo i b v2 D2 t xs hist ∧ Kp (own z v) wr w2 ∧ ∀ j, own z v2 j → own z v j ∨ wr.heap.size ≤ j := by
 obtain ⟨W2, c2, q⟩ := h.pb.disk hz
 exact ⟨⟨v.x, W2, c2⟩, ⟨q.b, h.bl.keep q.k (h.pb.be p rfl).2.2, hs, h.told, h.cl, h.ep, h.next, h.far, h.few, hm, by rw [hn]; exact h.n, h.lim, h.len, h.bd, h.bb, h.most⟩, q.k, q.sub⟩
theorem Ob.arm_ {w wr w2 : World} {z : Zf} {p : Nat} {lo : Option Nat} {i b : Nat} {v : Zv} {D : Dk} {t : Mt} {xs : List Rec} {hist : Nat → List Rec} (h : Ob w wr z p lo i b v D t xs hist) (n : Int) (K : Nat) (hn : n ≤ 9223372036854775807) (hK : K < 18446744073709551616) (hz : Dz wr z.g z.N z.S v.W (arm D n K) w2) : ∃ v2, Ob w w2 z p lo i b v2 (arm D n K) t xs hist ∧ Kp (own z v) wr w2 ∧ ∀ j, own z v2 j → own z v j ∨ wr.heap.size ≤ j :=
 h.disk hz (h.s0.arm_ n K) (sm_arm h.sm n K hn hK) rfl
theorem Ob.off_ {w wr w2 : World} {z : Zf} {p : Nat} {lo : Option Nat} {i b : Nat} {v : Zv} {D : Dk} {t : Mt} {xs : List Rec} {hist : Nat → List Rec} (h : Ob w wr z p lo i b v D t xs hist) (K : Nat) (hz : Dz wr z.g z.N z.S v.W (lose D K) w2) : ∃ v2, Ob w w2 z p lo i b v2 (lose D K) t xs hist ∧ Kp (own z v) wr w2 ∧ ∀ j, own z v2 j → own z v j ∨ wr.heap.size ≤ j :=
 h.disk hz (h.s0.off K) (by rw [lose_length D K h.s0.ok]; exact h.sm.lose h.s0.ok K) (lose_length D K h.s0.ok)
theorem Ob.on_ {w wr w2 : World} {z : Zf} {p : Nat} {lo : Option Nat} {i b : Nat} {v : Zv} {D : Dk} {t : Mt} {xs : List Rec} {hist : Nat → List Rec} (h : Ob w wr z p lo i b v D t xs hist) (hz : Dz wr z.g z.N z.S v.W (on D) w2) : ∃ v2, Ob w w2 z p lo i b v2 (on D) t xs hist ∧ Kp (own z v) wr w2 ∧ ∀ j, own z v2 j → own z v j ∨ wr.heap.size ≤ j :=
 h.disk hz h.s0.on_ (sm_on h.sm) rfl
theorem Ob.opened {w wr w2 : World} {z : Zf} {p l a : Nat} {lo : Option Nat} {L : Lo} {i b : Nat} {v v2 : Zv} {D : Dk} {t : Mt} {xs : List Rec} {Z : Option Addr} {cz : Nat} {hist : Nat → List Rec} (h : Ob w wr z p lo i b v D t xs hist) (hoff : D.off = false) (q : Po w wr z v D t p xs w2 l a L v2 Z cz) : Oc w w2 z p l a L i b v2 D t xs xs false Z cz hist := by
 have hw := h.pb.kp.size
 refine ⟨⟨q.g.b.less (fun j e => .inl e), q.pl, by rw [q.o_]; exact h.s0, by rw [q.sl]; exact h.told, by rw [q.cl]; exact h.cl, h.ep, h.next, h.far, by rw [q.o_]; exact h.few, h.sm, h.n, h.lim, h.len, h.bd, h.bb, h.most⟩, ?_, hoff, q.lost, q.row, q.cap, h.len, h.bd, (fun e => by cases e), fun _ => rfl⟩
 refine q.g.add (fun j => ab Z = some j) (fun j e => ?_)
 obtain ⟨h1, h2, h3, h4, h5⟩ := q.zf j e
 exact ⟨by omega, h5, h2, h3, h4⟩
theorem Ob.le_ {w wr : World} {z : Zf} {p : Nat} {lo : Option Nat} {i b c : Nat} {v : Zv} {D : Dk} {t : Mt} {xs : List Rec} {hist : Nat → List Rec} (h : Ob w wr z p lo i b v D t xs hist) (hc : b ≤ c) (hc2 : c ≤ 101) : Ob w wr z p lo i c v D t xs hist :=
 ⟨h.pb, h.bl, h.s0, h.told, h.cl, h.ep, h.next, h.far, h.few, h.sm, h.n, h.lim, by have := h.len; omega, h.bd, by have := h.bb; omega, h.most⟩
theorem Oc.le_ {w wr : World} {z : Zf} {p l a : Nat} {L : Lo} {i b c : Nat} {v : Zv} {D : Dk} {t : Mt} {xs ys : List Rec} {fresh : Bool} {Y : Option Addr} {cy : Nat} {hist : Nat → List Rec} (h : Oc w wr z p l a L i b v D t xs ys fresh Y cy hist) (hc : b ≤ c) (hc2 : c ≤ 101) : Oc w wr z p l a L i c v D t xs ys fresh Y cy hist :=
 ⟨h.o.le_ hc hc2, h.g, h.off, h.lost, h.row, h.cap, by have := h.yl; omega, h.yb, h.fr, h.nf⟩
theorem Oc.tin {w wr : World} {z : Zf} {p l a : Nat} {L : Lo} {i b : Nat} {v : Zv} {D : Dk} {t : Mt} {xs ys : List Rec} {fresh : Bool} {Y : Option Addr} {cy : Nat} {hist : Nat → List Rec} (h : Oc w wr z p l a L i b v D t xs ys fresh Y cy hist) (hi : i ≤ 31) (A : Option Addr) (m d : Nat) (rs : List Rec) (h1 : rs.length = m) (h2 : Rrow wr A rs) (h3 : m ≤ 101) (h4 : ∀ r ∈ rs, r.body.length ≤ 4096) (h5 : A = none → d = 0) (h6 : m ≤ d) (h7 : d ≤ maxLen) : Tin wr z v D t A m d rs (700 * i) (400 * i) :=
 ⟨h1, h2, by omega, h4, h5, h6, h7, h.o.few, by omega, by rw [h.o.cl]; decide, h.o.sm, by have := h.o.n; omega, by rw [h.o.lim]; decide, h.o.s0.ep⟩
end Com
end Go.Proofs.YtigdlnfgdjfdoaaGreat
