/- Lemmas: ComAl RecAl ComEp CommitEpochs. -/
import Derived.Test.YtigdlnfgdjfdoaaGreatZK33
set_option linter.unusedVariables false
set_option linter.unusedSimpArgs false
namespace Go.Proofs.YtigdlnfgdjfdoaaGreat.Com
open Go Go.RowKit Kit
open Rec (Rec good ftot fsec split Rrow rcells exec_recOne)
open Ideal (Ts Thing hashT)
open Disk
open Meter (Mt Mk Mb nxt)
theorem Pg.side {w wr w2 : World} {z : Zf} {v : Zv} {D : Dk} {t : Mt} {B F : Nat → Prop} {l a : Nat} {L : Lo} (h : Pg w wr z v D t l a L B) (k : Kp F wr w2) (hF : ∀ j, F j → B j ∨ wr.heap.size ≤ j) : Pg w w2 z v D t l a L B := by
  have hn : ∀ j, j < wr.heap.size → ¬ B j → ¬ F j := fun j h1 h2 e => (hF j e).elim h2 (fun e => by omega)
  exact ⟨h.b.side k (fun j e => (hF j e).imp .inl id), h.lg.keep k (hn l h.lg.b.lt h.nl), areaP.keep h.ar k (hn a (Blk.lt h.ar) h.na), h.la, h.nl, h.na, h.pos, h.top⟩
theorem open_new [Inhabited Sha.ShaTab] [Inhabited Field.SqTab] {w wr : World} {n lim most : Int} {z : Zf} {v : Zv} {p : Nat} (h : NewP w wr n lim most z v p) :
    Calls Tryz.prog 12 #[.pointer (some ⟨p, 0, none⟩)] wr fun r w' => ∃ l a, r = .returned (.tuple #[.slice none 0 0, .int .i64 0]) ∧ Pg w w' z v (new (clamp n)) (Meter.fresh most) l a (log0 (new (clamp n)) (Meter.fresh most)) (fun j => j = p) ∧ Blk w' p 42 (pcells z (some l)) := by
  refine (popen_any nob (fun l X nx cx e w' => ∃ l0 a, l = some l0 ∧ X = none ∧ nx = 0 ∧ cx = 0 ∧ e = 0 ∧ Pg w w' z v (new (clamp n)) (Meter.fresh most) l0 a (log0 (new (clamp n)) (Meter.fresh most)) (fun j => j = p)) h.p (fun e => e) (fun w1 k => ?_)).mono ?_
  · refine (open_zero (h.b.keep0 k) rfl rfl ⟨Int.le_refl _, (by show (0 : Int) ≤ 9223372036854775807; decide)⟩).mono ?_
    rintro r w' ⟨l, a, rfl, hg, hk⟩
    exact ⟨some l, none, 0, 0, 0, rfl, ⟨l, a, rfl, rfl, rfl, rfl, rfl, hg⟩, hk⟩
  · rintro r w' ⟨l, X, nx, cx, e, w2, rfl, ⟨l0, a, rfl, rfl, rfl, rfl, rfl, hg⟩, k2, hb, _⟩
    exact ⟨l0, a, rfl, hg.side k2 (fun j e => .inl e), hb⟩
def tick : Rec := ⟨7, 0, 0, 0, 0, []⟩
theorem tick_good : good tick = true := by first | rfl | (unfold good; rfl) | (unfold good; simp [tick, Rec.inB])
theorem tick_split : split [tick] = [[tick]] := rfl
theorem tick_sec : secsum [[tick]] = 1 := rfl
theorem tick_T (ms : List UInt8) (o : Ts) (hd : ∃ ts, o = .dream ts) : Calm o (new 20) (Meter.fresh 100) 1 1 (turnT ms 100 o (new 20) (Meter.fresh 100) (log0 (new 20) (Meter.fresh 100)) [tick]) := by
  have hlen : (new 20).now.length = 20 := by simp [new]
  rcases turnT_cases (t := Meter.fresh 100) (L := log0 (new 20) (Meter.fresh 100)) (rs := [tick]) ms 100 hd (new_ok 20) (Int.le_refl _) with ⟨h, _⟩ | ⟨_, h, _⟩ | ⟨_, _, G, h, q, _⟩
  · exact absurd (refT_all (by simp) (fun r hr => by rw [List.mem_singleton.1 hr]; exact tick_good)) h
  · exfalso
    refine h ?_
    unfold tcheck
    rw [if_neg (by simp [Meter.fresh, Meter.lim]), tick_split, tick_sec, hlen, if_neg (by decide)]
  · rw [h]
    have := (q.calm_ (L := log0 (new 20) (Meter.fresh 100)) rfl rfl (Ts.sub_nx _ _) (fun k hk => hk.nx _)).1
    rw [tick_split] at this
    exact this
set_option maxHeartbeats 4000000 in
set_option maxRecDepth 100000 in
theorem alive_yes [Inhabited Sha.ShaTab] [Inhabited Field.SqTab] (w : World) : Calls Tryz.prog 8 #[] w fun e w' => e = .returned (.bool true) ∧ Kp nob w w' := by
  go_enter Tryz.func8, Tryz.ntmps8
  go_wp2_with fail
  refine (place_any 20 100 100 w).mono ?_
  rintro r w1 ⟨z, v, p, rfl, hn⟩
  have HN := Lib.hid hn
  have c0 : w1.cell? ⟨p, 0, none⟩ = some (.pointer (some ⟨z.c.v, 0, none⟩)) := hn.p.cell 0
  have c1 : w1.cell? ⟨p, 1, none⟩ = some (.pointer (some ⟨z.g, 0, none⟩)) := hn.p.cell 1
  have c2 : w1.cell? ⟨p, 2, none⟩ = some (.pointer (some ⟨z.m, 0, none⟩)) := hn.p.cell 2
  clear hn
  go_wp2_with fail
  refine (open_new HN.out).mono ?_
  rintro r w2 ⟨l, a, rfl, hg, hp⟩
  have HG := Lib.hid hg
  have HP := Lib.hid hp
  have c3 : w2.cell? ⟨p, 3, none⟩ = some (.pointer (some ⟨l, 0, none⟩)) := hp.cell 3
  clear hg hp c0 c1 c2
  go_wp2_with (first
    | (refine wpList_gd (by rfl) (exec_recOne (.tmp 48) tick rfl rfl) ?_)
    | fail)
  have hrow := row_new w2 (rcells tick) 67
  obtain ⟨w3, hw3⟩ : ∃ w3, w3 = w2.alloc (.cells (rcells tick).toArray 67) := ⟨_, rfl⟩
  have k3 : Kp nob w2 w3 := by rw [hw3]; exact (Kp.refl nob w2).alloc _
  rw [← hw3] at hrow ⊢
  have HK3 := Lib.hid k3
  have HT := Lib.hid (tick_T z.c.ms v.x.o HN.out.b.dream)
  obtain ⟨T, hT⟩ : ∃ T, T = turnT z.c.ms 100 v.x.o (new 20) (Meter.fresh 100) (log0 (new 20) (Meter.fresh 100)) [tick] := ⟨_, rfl⟩
  rw [← hT] at HT
  have hlim : z.c.lim = 100 := HN.out.lim
  have HTC := Lib.hid (turn_c (HG.out.keep0 k3) (some ⟨w2.heap.size, 0, none⟩) 1 1 [tick] 0 0 ⟨rfl, (by unfold Rrow; simp only [List.flatMap_cons, List.flatMap_nil, List.append_nil]; exact hrow), by decide, (fun r hr => by rw [List.mem_singleton.1 hr]; simp [tick]), (fun e => by cases e), Nat.le_refl _, (by simp [maxLen]), (by rw [HN.out.o]; exact Nat.le_refl _), by decide, (by rw [HN.out.cl]; decide), ⟨Nat.zero_le _, Nat.zero_le _, Nat.zero_le _, by decide, rfl⟩, (by simp [new, clamp]), (by rw [hlim]; decide), Int.le_refl _⟩ T (by rw [hT, hlim]; rfl))
  clear hrow hw3 k3 hT hlim c3
  go_wp2_with fail
  refine HTC.out.mono ?_
  rintro r w4 ⟨rfl, v2, a2, htp⟩
  have hpa : ¬ (own z v p ∨ p = l ∨ p = a) := fun e => by
    have h1 := HG.out.b.be p (.inl rfl)
    rcases e with e | e | e
    · exact h1.2.2 e
    · exact HG.out.nl e.symm
    · exact HG.out.na e.symm
  have hpb := (HP.out.keep HK3.out (fun e => e)).keep htp.k hpa
  have c2 : w4.cell? ⟨p, 2, none⟩ = some (.pointer (some ⟨z.m, 0, none⟩)) := hpb.cell 2
  have c3 : w4.cell? ⟨p, 3, none⟩ = some (.pointer (some ⟨l, 0, none⟩)) := hpb.cell 3
  have hme := htp.b.me.cells
  rw [HT.out.t] at hme
  have m0 : w4.cell? ⟨z.m, 0, none⟩ = some (.int .i64 1) := hme.1
  have m1 : w4.cell? ⟨z.m, 1, none⟩ = some (.int .i64 1) := hme.2.1
  have hE := epoch_any z l a2 T.L w4 (htp.g (by rw [HT.out.e0]; decide)).lg
  rw [HT.out.le] at hE
  have HE := Lib.hid hE
  have HKP := Lib.hid htp.b.kp
  rw [HT.out.e0]
  clear hpa hpb hme htp hE HTC
  go_wp2_with fail
  refine HE.out.mono ?_
  rintro r w5 ⟨rfl, k5⟩
  go_wp2
  go_ret
  exact ⟨rfl, HKP.out.trans k5 (fun _ e => e.elim)⟩
end Go.Proofs.YtigdlnfgdjfdoaaGreat.Com
namespace Go.Proofs.YtigdlnfgdjfdoaaGreat.Rec
open Go Go.RowKit Kit
set_option maxHeartbeats 1000000 in
set_option maxRecDepth 100000 in
theorem fAll (A : Option Addr) (m d : Nat) (rs : List Rec) (w : World) (hm : rs.length = m) (hp : Rrow w A rs) (hd : m ≤ maxLen) :
    Calls Tryz.prog 26 #[.slice A m d] w fun e w' => e = .returned (.bool (rs.all good)) ∧ Kp nob w w' := by
  unfold maxLen at hd
  go_enter Tryz.func26, Tryz.ntmps26
  go_wp2
  go_loopw [7] (fun i wr => ∃ k : Nat, k ≤ m ∧ i = .int .i64 k ∧ (rs.take k).all good = true ∧ Kp nob w wr)
    (fun i _ => m - (intOf i).toNat)
  case atStart => exact ⟨0, Nat.zero_le _, rfl, by simp, Kp.refl _ _⟩
  case round =>
    obtain ⟨k, hk, rfl, ht, kr⟩ := hrel
    by_cases hlt : k < m
    · obtain ⟨bb, oo, rfl, hbb, hc0, hc1, hc2, hc3, hc4, hc5⟩ := (hp.keep0 kr).at_ (i := k) (by omega)
      have hmem : rs[k]'(by omega) ∈ rs := List.getElem_mem _
      have hsn : rs.take (k + 1) = rs.take k ++ [rs[k]'(by omega)] := by rw [List.take_add_one, List.getElem?_eq_getElem (by omega)]; rfl
      obtain ⟨p, hpe⟩ : ∃ p, p = rs[k]'(by omega) := ⟨_, rfl⟩
      rw [← hpe] at hc0 hc1 hc2 hc3 hc4 hc5 hmem hsn
      have H3 := Lib.hid hsn; have H4 := Lib.hid hmem; have H5 := Lib.hid ht; have HKR := Lib.hid kr
      clear hpe hsn hmem ht kr
      go_wp2_with fail
      refine (dGood p _).mono ?_
      rintro e w5 ⟨rfl, k5⟩
      have K5 := Lib.hid ((HKR.out.alloc (.cells #[.int .i64 p.kind, .int .i64 p.queue, .int .i64 p.id, .int .i64 p.num, .int .i64 p.wait, .string (str p.body)] 67)).trans k5 (fun _ e => e.elim))
      clear k5 hc0 hc1 hc2 hc3 hc4 hc5
      cases hg : good p with
      | true =>
        have HG := Lib.hid hg
        clear hg
        go_wp2
        go_roundw
        case rel => exact ⟨k + 1, by omega, by go_num, by rw [H3.out, List.all_append, H5.out]; simp [HG.out], K5.out⟩
        case measure => simp [intOf]; omega
      | false =>
        have HG := Lib.hid hg
        clear hg
        go_wp2
        go_ret
        exact ⟨by rw [show rs.all good = false from List.all_eq_false.2 ⟨p, H4.out, by rw [HG.out]; decide⟩]; try rfl, K5.out⟩
    · obtain rfl : k = m := by omega
      rw [List.take_of_length_le (by omega)] at ht
      have HT := Lib.hid ht; clear ht
      go_wp2
      go_ret
      exact ⟨by rw [HT.out]; try rfl, kr⟩
end Go.Proofs.YtigdlnfgdjfdoaaGreat.Rec
namespace Go.Proofs.YtigdlnfgdjfdoaaGreat.Com
open Go Go.RowKit Kit
open Rec (Rec good ftot fsec split split_flat good_bounds Rrow rcells)
open Ideal (Ts Thing hashT)
open Disk
open Meter (Mt Mk Mb nxt)
theorem secsum_few : ∀ (ls : List (List Rec)), (∀ l ∈ ls, Pks l) → 256 * secsum ls ≤ 878 * ls.flatten.length
  | [], _ => by simp [secsum]
  | l :: ls, h => by
    have h1 := secsum_few ls (fun x hx => h x (by simp [hx]))
    have hp := h l (by simp)
    rw [secsum_cons]
    have h2 : ∀ rs : List Rec, (∀ r ∈ rs, good r = true) → ftot rs ≤ 48 + 575 * rs.length := by
      intro rs
      induction rs with
      | nil => intro _; simp [ftot]
      | cons r rs ih =>
        intro hg
        have a := good_bounds r (hg r (by simp))
        have b := ih (fun x hx => hg x (by simp [hx]))
        have hf : ftot (r :: rs) = 63 + r.body.length + ftot rs := by simp [ftot]; omega
        rw [hf, List.length_cons]; omega
    have h3 := h2 l hp.good
    have h4 : 1 ≤ l.length := by
      have := hp.ne
      cases l with
      | nil => exact absurd rfl this
      | cons a b => simp
    have h5 : (l :: ls).flatten.length = l.length + ls.flatten.length := by simp
    rw [h5]
    unfold fsec
    omega
theorem split_few {rs : List Rec} (hg : ∀ r ∈ rs, good r = true) : 256 * secsum (split rs) ≤ 878 * rs.length := by
  have := secsum_few (split rs) (fun l hl => split_pks _ rs (Nat.le_refl _) hg l hl)
  rwa [split_flat] at this
structure Es [Inhabited Sha.ShaTab] [Inhabited Field.SqTab] (w wr : World) (z : Zf) (p i ep cnt : Nat) (v : Zv) (D : Dk) (t : Mt) (l a : Nat) (L : Lo) : Prop where
  g : Pg w wr z v D t l a L (fun j => j = p)
  pb : Blk wr p 42 (pcells z (some l))
  off : D.off = false
  fuse : D.fuse = 0
  len : D.now.length = 400
  sm : Sm D (202 * i) 400
  few : v.x.o.few (200 * i)
  cl : v.x.cl ≤ 30 * i
  mt : t.count = cnt ∧ t.epoch = (ep : Int) ∧ t.most = 1099511627776
  le : L.e = t.epoch
  lt : L.turned = true
  ll : L.lost = false
  ls : L.s ≤ 30 * i
  lim : z.c.lim = 1099511627776
  bd : 1 ≤ ep ∧ ep ≤ i ∧ cnt ≤ i ∧ i ≤ 31
theorem turn_one [Inhabited Sha.ShaTab] [Inhabited Field.SqTab] {w wr : World} {z : Zf} {p i : Nat} {v : Zv} {D : Dk} {t : Mt} {l a : Nat} {L : Lo} {rs : List Rec} (hg : Pg w wr z v D t l a L (fun j => j = p)) (hpb : Blk wr p 42 (pcells z (some l))) (hoff : D.off = false) (hf : D.fuse = 0) (hlen : D.now.length = 400) (hsm : Sm D (202 * i) 400) (hfew : v.x.o.few (200 * i)) (hcl : v.x.cl ≤ 30 * i) (ht : t.count ≤ i ∧ 0 ≤ t.epoch ∧ t.epoch ≤ i ∧ t.most = 1099511627776) (hll : L.lost = false) (hlim : z.c.lim = 1099511627776) (hi : i ≤ 30)
    (hr : rs.length ≤ 30 ∧ rs ≠ [] ∧ ∀ r ∈ rs, good r = true) {T : Tr} (hT : T = turnT z.c.ms z.c.lim v.x.o D t L rs) :
    T.e = 0 ∧ ∀ w2 v2 a2, TP w wr z v (fun j => j = p) l a (t.epoch + 1) 0 rs T w2 v2 a2 → Es w w2 z p (i + 1) (t.epoch + 1).toNat (t.count + 1) v2 T.D T.t l a2 T.L := by
  have hs := split_few hr.2.2
  rcases turnT_cases (L := L) (rs := rs) z.c.ms z.c.lim hg.b.dream hg.b.cd.ok ht.2.1 with ⟨h, _⟩ | ⟨_, h, _⟩ | ⟨_, _, G, h, q, hq⟩
  · rw [hoff, hll] at h
    exact absurd (refT_all hr.2.1 hr.2.2) h
  · exfalso
    refine h ?_
    unfold tcheck
    rw [if_neg (by rw [hlim]; omega), hlen, if_neg (by omega)]
  · rw [h] at hT
    have hq2 := hq _ _ hsm
    obtain ⟨c, c2, c3, c4⟩ := q.calm_ (L := L) hf hll (Ts.sub_nx _ _) (fun k hk => hk.nx _)
    rw [← hT] at c c2 c3 c4
    have hTD : G.D = T.D := by rw [hT]; rfl
    rw [hTD] at hq2
    refine ⟨c.e0, fun w2 v2 a2 tp => ?_⟩
    have hfl := congrArg List.length (split_flat rs)
    have tpo := tp.o
    refine ⟨tp.g (by rw [c.e0]; decide), hpb.keep tp.k (fun e => ?_), c.off, c.fuse, c.len.trans hlen, Sm.le_ hq2 (by omega), by rw [tpo]; exact (c.few _ hfew).mono (by omega), by have := tp.cl; omega, ?_, by rw [c.le, c.t]; rfl, c.lt, c.ll, by rw [c2]; omega, hlim, by omega⟩
    · have h1 := hg.b.be p (.inl rfl)
      rcases e with e | e | e
      · exact h1.2.2 e
      · exact hg.nl e.symm
      · exact hg.na e.symm
    · rw [c.t]
      refine ⟨rfl, ?_, ht.2.2.2⟩
      show t.epoch + 1 = ((t.epoch + 1).toNat : Int)
      omega
theorem commit_one [Inhabited Sha.ShaTab] [Inhabited Field.SqTab] {w wr : World} {z : Zf} {p i ep cnt : Nat} {v : Zv} {D : Dk} {t : Mt} {l a : Nat} {L : Lo} {r : Rec} (h : Es w wr z p i ep cnt v D t l a L) (hi : i ≤ 30) (hr : good r = true) {T : Tr} (hT : T = commitT z.c.ms z.c.lim v.x.o D t L [r]) :
    (T.e = 7 ∧ ∀ w2 v2 a2, TP w wr z v (fun j => j = p) l a L.e L.s [r] T w2 v2 a2 → Es w w2 z p (i + 1) ep cnt v2 T.D T.t l a2 T.L) ∨ (T.e = 0 ∧ ∀ w2 v2 a2, TP w wr z v (fun j => j = p) l a L.e L.s [r] T w2 v2 a2 → Es w w2 z p (i + 1) ep (cnt + 1) v2 T.D T.t l a2 T.L) := by
  have hgb := good_bounds r hr
  have hft : ftot [r] ≤ 1000 := by simp [ftot]; omega
  have hpk : Pks [r] := ⟨by simp, fun x hx => by rw [List.mem_singleton.1 hx]; exact hr, by omega⟩
  have hno : ∀ w2 v2 a2, TP w wr z v (fun j => j = p) l a L.e L.s [r] T w2 v2 a2 → Blk w2 p 42 (pcells z (some l)) := fun w2 v2 a2 tp => h.pb.keep tp.k (fun e => by
    have h1 := h.g.b.be p (.inl rfl)
    rcases e with e | e | e
    · exact h1.2.2 e
    · exact h.g.nl e.symm
    · exact h.g.na e.symm)
  have hbd := h.bd
  have hle := h.le
  have ht := h.mt
  have hls := h.ls
  rcases commitT_cases (t := t) (L := L) (rs := [r]) z.c.ms z.c.lim h.g.b.dream h.g.b.cd.ok (by omega) h.g.pos h.g.top h.g.lg.h32 with ⟨hx, _⟩ | ⟨_, hx, he⟩ | ⟨_, _, G, he, q, hq⟩
  · rw [h.off, h.ll] at hx
    exact absurd (refT_all (by simp) hpk.good) hx
  · have h7 : ccheck z.c.lim t L [r] = 7 := by
      unfold ccheck at hx ⊢
      have hlt := h.lt
      rw [if_neg (fun e => by rcases e with e | e
                              · rw [hlt] at e; cases e
                              · exact e hle), if_neg (by omega), if_neg (by rw [h.lim]; simp; omega)] at hx ⊢
      split
      · rfl
      · rename_i h0; rw [if_neg h0] at hx; exact absurd rfl hx
    rw [he, h7] at hT
    refine .inl ⟨by rw [hT], fun w2 v2 a2 tp => ?_⟩
    have hg := tp.g (by rw [hT]; exact (by decide : (7 : Int) ≠ 8))
    have hpb := hno w2 v2 a2 tp
    have tpo := tp.o
    have tpc := tp.cl
    rw [hT] at hg tpo ⊢
    have tpo : v2.x.o = v.x.o := tpo
    exact ⟨hg, hpb, h.off, h.fuse, h.len, Sm.le_ h.sm (by omega), by rw [tpo]; exact h.few.mono (by omega), by have := h.cl; simp at tpc; omega, h.mt, h.le, h.lt, h.ll, by have := h.ls; show L.s ≤ _; omega, h.lim, by omega⟩
  · rw [he] at hT
    have hq2 := hq _ _ h.sm
    obtain ⟨c, c2, c3, c4⟩ := q.calm_ (L := L) h.fuse h.ll (.refl _) (fun k hk => hk.mono (by omega))
    have hss : secsum [[r]] ≤ 4 := by simp only [secsum, List.map_cons, List.map_nil, List.sum_cons, List.sum_nil]; unfold fsec; omega
    rw [← hT] at c c2 c3 c4
    have hTD : G.D = T.D := by rw [hT]; rfl
    rw [hTD] at hq2
    refine .inr ⟨c.e0, fun w2 v2 a2 tp => ?_⟩
    have tpo := tp.o
    have tpc := tp.cl
    have hfl : [[r]].flatten.length = 1 := rfl
    rw [hfl] at c c2
    refine ⟨tp.g (by rw [c.e0]; decide), hno w2 v2 a2 tp, c.off, c.fuse, c.len.trans h.len, Sm.le_ hq2 (by omega), by rw [tpo]; exact (c.few _ h.few).mono (by omega), by have := h.cl; simp at tpc; omega, ?_, by rw [c.le, c.t]; rfl, c.lt, c.ll, by rw [c2]; omega, h.lim, by omega⟩
    rw [c.t]
    exact ⟨by show t.count + 1 = _; omega, by show L.e = _; rw [hle]; exact ht.2.1, ht.2.2⟩
end Go.Proofs.YtigdlnfgdjfdoaaGreat.Com
namespace Go.Proofs.YtigdlnfgdjfdoaaGreat.Com
open Go Go.RowKit Kit
open Rec (Rec good ftot fsec split split_flat good_bounds Rrow rcells great_any greatR fAll exec_recOne)
open Ideal (Ts Thing hashT)
open Disk
open Meter (Mt Mk Mb nxt)
theorem great_len {rs : List Rec} {n : Nat} {most : Nat} (hl : rs.length = n) (hg : greatR rs most = false) : n ≤ most ∧ ∀ r ∈ rs, r.body.length ≤ 4096 := by
  unfold greatR at hg
  simp only [Bool.or_eq_false_iff, decide_eq_false_iff_not, List.any_eq_false, decide_eq_true_eq] at hg
  exact ⟨by have := hg.2; omega, fun r hr => by have := hg.1 r hr; omega⟩
theorem Es.keep0 [Inhabited Sha.ShaTab] [Inhabited Field.SqTab] {w wr w2 : World} {z : Zf} {p i ep cnt : Nat} {v : Zv} {D : Dk} {t : Mt} {l a : Nat} {L : Lo} (h : Es w wr z p i ep cnt v D t l a L) (k : Kp nob wr w2) : Es w w2 z p i ep cnt v D t l a L :=
  ⟨h.g.keep0 k, h.pb.keep k (fun e => e), h.off, h.fuse, h.len, h.sm, h.few, h.cl, h.mt, h.le, h.lt, h.ll, h.ls, h.lim, h.bd⟩
theorem Es.looks [Inhabited Sha.ShaTab] [Inhabited Field.SqTab] {w wr : World} {z : Zf} {p i ep cnt : Nat} {v : Zv} {D : Dk} {t : Mt} {l a : Nat} {L : Lo} (h : Es w wr z p i ep cnt v D t l a L) :
    wr.cell? ⟨p, 3, none⟩ = some (.pointer (some ⟨l, 0, none⟩)) ∧ wr.cell? ⟨p, 2, none⟩ = some (.pointer (some ⟨z.m, 0, none⟩)) ∧ wr.cell? ⟨z.m, 0, none⟩ = some (.int .i64 (cnt : Int)) ∧ wr.cell? ⟨z.m, 1, none⟩ = some (.int .i64 (ep : Int)) := by
  have hc := h.g.b.me.cells
  rw [h.mt.1, h.mt.2.1] at hc
  exact ⟨h.pb.cell 3, h.pb.cell 2, hc.1, hc.2.1⟩
set_option maxHeartbeats 4000000 in
set_option maxRecDepth 100000 in
theorem epochs_walk [Inhabited Sha.ShaTab] [Inhabited Field.SqTab] (A : Option Addr) (n c0 : Nat) (rs : List Rec) (X : Option Addr) (m d : Nat) (bs : List Bool) (w : World) (hl : rs.length = n) (hn : A = none → c0 = 0) (hr : Row w A (rs.flatMap rcells)) (hc : n ≤ c0) (hm : c0 ≤ maxLen) (hbl : bs.length = m) (hbr : Row w X (bs.map Value.bool)) (hmd : m ≤ d) (hdm : d ≤ maxLen) :
    Calls Tryz.prog 7 #[.slice A n c0, .slice X m d] w fun e w' => e = .returned (.bool true) ∧ Kp nob w w' := by
  have HR := Lib.hid (show Rrow w A rs from hr)
  have HLN := Lib.hid (And.intro hl (And.intro hn (And.intro hc hm)))
  have HB := Lib.hid (And.intro hbl (And.intro hbr (And.intro hmd hdm)))
  have HAL := Lib.hid (fun w => alive_yes w)
  have hgr := fun w' (k : Kp nob w w') => great_any A n c0 rs 30 w' hl (Row.keep0 hr k) (by unfold maxLen at *; omega)
  have HFA := Lib.hid (fun w' (k : Kp nob w w') => fAll A n c0 rs w' hl (Row.keep0 hr k) (by unfold maxLen at *; omega))
  have hmx : maxLen = 9223372036854775807 := by unfold maxLen; rfl
  have hmb : m ≤ 9223372036854775807 := by omega
  have HMB := Lib.hid hmb
  clear hr hl hn hm hc hbl hbr hmd hdm hmx
  cases hg : greatR rs 30 with
  | true =>
    rw [hg] at hgr
    go_enter Tryz.func7, Tryz.ntmps7
    go_wp2_with fail
    refine (HAL.out _).mono ?_
    rintro e w1 ⟨rfl, k1⟩
    go_wp2_with fail
    refine (hgr w1 k1).mono ?_
    rintro e w2 ⟨rfl, k2⟩
    go_wp2
    go_ret
    exact ⟨rfl, k1.trans k2 (fun _ e => e.elim)⟩
  | false =>
  rw [hg] at hgr
  obtain ⟨h30, hbd⟩ := great_len (most := 30) HLN.out.1 hg
  have HGR := Lib.hid hgr
  have HBD := Lib.hid hbd
  clear hg hgr hbd
  by_cases hm30 : 30 < m
  · have hd1 : decide (30 < m) = true := decide_eq_true hm30
    go_enter Tryz.func7, Tryz.ntmps7
    go_wp2_with fail
    refine (HAL.out _).mono ?_
    rintro e w1 ⟨rfl, k1⟩
    go_wp2_with fail
    refine (HGR.out w1 k1).mono ?_
    rintro e w2 ⟨rfl, k2⟩
    go_wp2
    go_ret
    exact ⟨rfl, k1.trans k2 (fun _ e => e.elim)⟩
  have hd1 : decide ((30 : Int) < (m : Int)) = false := decide_eq_false (by omega)
  by_cases hn0 : n = 0
  · subst hn0
    go_enter Tryz.func7, Tryz.ntmps7
    go_wp2_with fail
    refine (HAL.out _).mono ?_
    rintro e w1 ⟨rfl, k1⟩
    go_wp2_with fail
    refine (HGR.out w1 k1).mono ?_
    rintro e w2 ⟨rfl, k2⟩
    go_wp2
    go_ret
    exact ⟨rfl, k1.trans k2 (fun _ e => e.elim)⟩
  have hd2 : ((n : Int) == 0) = false := by simp; omega
  cases hall : rs.all good with
  | false =>
    rw [hall] at HFA
    go_enter Tryz.func7, Tryz.ntmps7
    go_wp2_with fail
    refine (HAL.out _).mono ?_
    rintro e w1 ⟨rfl, k1⟩
    have HK1 := Lib.hid k1
    go_wp2_with fail
    refine (HGR.out w1 k1).mono ?_
    rintro e w2 ⟨rfl, k2⟩
    have HK2 := Lib.hid (HK1.out.trans k2 (fun _ e => e.elim))
    clear k1 k2
    go_wp2_with fail
    refine (HFA.out w2 HK2.out).mono ?_
    rintro e w3 ⟨rfl, k3⟩
    go_wp2
    go_ret
    exact ⟨rfl, HK2.out.trans k3 (fun _ e => e.elim)⟩
  | true =>
  rw [hall] at HFA
  have hgood : rs.length ≤ 30 ∧ rs ≠ [] ∧ ∀ r ∈ rs, good r = true := ⟨by rw [HLN.out.1]; exact h30, fun e => hn0 (by rw [← HLN.out.1, e]; rfl), fun r hr => List.all_eq_true.1 hall r hr⟩
  have HGD := Lib.hid (And.intro hgood hm30)
  have hnp : 0 < n := by omega
  clear hall hgood hm30 hn0
  go_enter Tryz.func7, Tryz.ntmps7
  go_wp2_with fail
  refine (HAL.out _).mono ?_
  rintro e w1 ⟨rfl, k1⟩
  have HK1 := Lib.hid k1
  clear k1
  go_wp2_with fail
  refine (HGR.out w1 HK1.out).mono ?_
  rintro e w2 ⟨rfl, k2⟩
  have HK2 := Lib.hid (HK1.out.trans k2 (fun _ e => e.elim))
  clear k2
  go_wp2_with fail
  refine (HFA.out w2 HK2.out).mono ?_
  rintro e w3 ⟨rfl, k3⟩
  have HK3 := Lib.hid (HK2.out.trans k3 (fun _ e => e.elim))
  clear k3
  go_wp2_with fail
  refine (place_any 400 1099511627776 1099511627776 w3).mono ?_
  rintro r w4 ⟨z, v, p, rfl, hn⟩
  have HN := Lib.hid hn
  clear hn
  go_wp2_with fail
  refine (open_new HN.out).mono ?_
  rintro r w5 ⟨l, a, rfl, hg, hp⟩
  have HG := Lib.hid hg
  have HP := Lib.hid hp
  have c3 : w5.cell? ⟨p, 3, none⟩ = some (.pointer (some ⟨l, 0, none⟩)) := hp.cell 3
  clear hg hp
  -- rows of the law's own arguments stay, and are none of the place's
  have HRW := Lib.hid (fun w' (k : Kp nob w3 w') => (Row.keep0 HR.out (HK3.out.trans k (fun _ e => e.elim)) : Rrow w' A rs))
  obtain ⟨T, hT⟩ : ∃ T, T = turnT z.c.ms z.c.lim v.x.o (new 400) (Meter.fresh 1099511627776) (log0 (new 400) (Meter.fresh 1099511627776)) rs := ⟨_, rfl⟩
  have hone := turn_one (i := 0) (rs := rs) HG.out HP.out rfl rfl (by simp [new, clamp]) ⟨Nat.zero_le _, Nat.zero_le _, Nat.zero_le _, by decide, by simp [new, clamp]⟩ (by rw [HN.out.o]; exact Nat.le_refl _) (by rw [HN.out.cl]; exact Nat.le_refl _) ⟨Nat.le_refl _, Int.le_refl _, Int.le_refl _, rfl⟩ rfl HN.out.lim (by decide) HGD.out.1 hT
  have HONE := Lib.hid hone
  have HTC := Lib.hid (turn_c HG.out A n c0 rs 0 0 ⟨HLN.out.1, HRW.out _ HG.out.b.kp, (by omega), HBD.out, HLN.out.2.1, HLN.out.2.2.1, HLN.out.2.2.2, (by rw [HN.out.o]; exact Nat.le_refl _), (by decide), (by rw [HN.out.cl]; decide), ⟨Nat.zero_le _, Nat.zero_le _, Nat.zero_le _, by decide, rfl⟩, (by simp [new, clamp]), (by rw [HN.out.lim]; decide), Int.le_refl _⟩ T hT)
  clear hone hT
  go_wp2_with fail
  refine HTC.out.mono ?_
  rintro r w6 ⟨rfl, v6, a6, htp⟩
  have HES := Lib.hid (HONE.out.2 w6 v6 a6 htp)
  rw [HONE.out.1]
  clear htp c3 HTC
  go_wp2
  have hmb : m ≤ 30 := by have := HGD.out.2; omega
  go_loopw [8, 9, 51] (fun ep cnt i wr => ∃ (k epn cn : Nat), k ≤ m ∧ i = .int .i64 k ∧ ep = .int .i64 epn ∧ cnt = .int .i64 cn ∧ ∃ (v2 : Zv) (D2 : Dk) (t2 : Mt) (a2 : Nat) (L2 : Lo), Es w3 wr z p (k + 1) epn cn v2 D2 t2 l a2 L2)
    (fun _ _ i _ => m - (intOf i).toNat)
  case atStart => exact ⟨0, 1, 1, Nat.zero_le _, rfl, rfl, rfl, v6, T.D, T.t, a6, T.L, HES.out⟩
  case round =>
    clear HES HONE
    obtain ⟨k, epn, cn, hk, rfl, rfl, rfl, v2, D2, t2, a2, L2, hes⟩ := hrel
    have HES := Lib.hid hes
    have HRR := Lib.hid (HRW.out _ hes.g.b.kp)
    have HNO : Hid (∀ j, ab A = some j → ¬ own z v2 j) := Lib.hid (fun j e e2 => by
      have h1 := hes.g.b.new j e2
      have h2 : j < w3.heap.size := Row.lt (HRW.out w3 (Kp.refl _ _)) (fun e3 => by
        have h3 := HGD.out.1.2.1
        cases rs with
        | nil => exact h3 rfl
        | cons r rs => simp [rcells] at e3) j e
      omega)
    have hbw : Row wr X (bs.map Value.bool) := HB.out.2.1.keep0 (HK3.out.trans hes.g.b.kp (fun _ e => e.elim))
    have hbds := hes.bd
    have hmt := hes.mt
    have hls := hes.ls
    have hcl := hes.cl
    clear hes
    by_cases hlt : k < m
    · have hkb : k < bs.length := by rw [HB.out.1]; exact hlt
      obtain ⟨xb, xo, rfl, hxb, hxc⟩ := hbw.at_ (i := k) (by simpa using hkb)
      obtain ⟨b0, hb0⟩ : ∃ b0, b0 = bs[k]'hkb := ⟨_, rfl⟩
      have hxc2 : wr.cell? ⟨xb, xo + k, none⟩ = some (.bool b0) := by rw [hb0]; simpa using hxc
      have c3 := (HES.out.pb.cell 3)
      rw [pcells_3] at c3
      have c3 : wr.cell? ⟨p, 3, none⟩ = some (.pointer (some ⟨l, 0, none⟩)) := c3
      have HBD2 := Lib.hid (And.intro hbds (And.intro hmt (And.intro hls hcl)))
      clear hxc hb0 hbw hmt hls hcl
      have hsmx := HES.out.sm
      cases b0 with
      | true =>
        obtain ⟨T, hT⟩ : ∃ T, T = turnT z.c.ms z.c.lim v2.x.o D2 t2 L2 rs := ⟨_, rfl⟩
        have hone := turn_one (i := k + 1) (rs := rs) HES.out.g HES.out.pb HES.out.off HES.out.fuse HES.out.len HES.out.sm HES.out.few HES.out.cl (by have h1 := HBD2.out.2.1; have h2 := HBD2.out.1; omega) HES.out.ll HES.out.lim (by omega) HGD.out.1 hT
        have HT0 := Lib.hid hone.1
        have HTC := Lib.hid (turn_c HES.out.g A n c0 rs (200 * (k + 1)) (202 * (k + 1)) ⟨HLN.out.1, HRR.out, (by omega), HBD.out, HLN.out.2.1, HLN.out.2.2.1, HLN.out.2.2.2, HES.out.few, (by omega), (by have := HES.out.cl; omega), (by rw [HES.out.len]; exact HES.out.sm), (by rw [HES.out.len]; omega), (by rw [HES.out.lim]; decide), (by have := HBD2.out.2.1.2.1; omega)⟩ T hT)
        have HONE := Lib.hid hone.2
        clear hone hT hsmx
        go_wp2_with fail
        refine HTC.out.mono ?_
        rintro r w8 ⟨rfl, v8, a8, htp⟩
        have hes8 := HONE.out w8 v8 a8 htp
        have htn : (t2.epoch + 1).toNat = epn + 1 ∧ t2.count + 1 = cn + 1 := by have := HBD2.out.2.1; omega
        rw [htn.1, htn.2] at hes8
        have HES8 := Lib.hid hes8
        clear hes8 htn c3 hxc2
        obtain ⟨c3, c2, m0, m1⟩ := HES8.out.looks
        have HE := Lib.hid (fun w' (kw : Kp nob w8 w') => epoch_any z l a8 T.L w' (HES8.out.g.lg.keep kw (fun e => e)))
        have hle := HES8.out.le.trans HES8.out.mt.2.1
        rw [hle] at HE
        have HKB := Lib.hid HES8.out.g.b.kp
        have hk2 : k ≤ 30 := by omega
        have ecn : IntKind.i64.wrap ((cn : Int) + 1) = ((cn + 1 : Nat) : Int) := by rw [IntWalk.i64_in _ (by omega)]; omega
        have eep : IntKind.i64.wrap ((epn : Int) + 1) = ((epn + 1 : Nat) : Int) := by rw [IntWalk.i64_in _ (by omega)]; omega
        rw [HT0.out]
        clear hle htp HTC
        go_wp2_with fail
        refine (HE.out _ (Kp.refl _ _)).mono ?_
        rintro r w9 ⟨rfl, k9⟩
        have HES9 := Lib.hid (HES8.out.keep0 k9)
        obtain ⟨d3, d2, n0, n1⟩ := HES9.out.looks
        clear c3 c2 m0 m1 k9
        go_wp2
        go_roundw
        case rel => exact ⟨k + 1, epn + 1, cn + 1, by omega, by go_num, by go_num, by go_num, v8, T.D, T.t, a8, T.L, HES9.out⟩
        case measure => simp [intOf]; omega
      | false =>
        obtain ⟨bA, oA, rfl, hrg⟩ := Rec.Rrow.rng HRR.out (i := 0) (by rw [HLN.out.1]; exact hnp)
        obtain ⟨r0, hr0⟩ : ∃ r0, r0 = rs[0]'(by rw [HLN.out.1]; exact hnp) := ⟨_, rfl⟩
        rw [← hr0, Nat.zero_mul, Nat.add_zero] at hrg
        have hrm : r0 ∈ rs := by rw [hr0]; exact List.getElem_mem _
        have HRG := Lib.hid hrg
        have HRM := Lib.hid hrm
        have hbA : bA < w3.heap.size := Row.lt (HRW.out w3 (Kp.refl _ _)) (fun e3 => by
          have h3 := HGD.out.1.2.1
          cases rs with
          | nil => exact h3 rfl
          | cons r rs => simp [rcells] at e3) bA rfl
        obtain ⟨FF, hFF⟩ : ∃ FF : Nat → Prop, FF = fun j => own z v2 j ∨ j = l ∨ j = a2 := ⟨_, rfl⟩
        have HFF : Hid (¬ FF p ∧ ¬ FF bA) := Lib.hid (by
          have hb := HES.out.g.b
          rw [hFF]
          refine ⟨fun e => ?_, fun e => ?_⟩
          · rcases e with e | e | e
            · exact (hb.be p (.inl rfl)).2.2 e
            · exact HES.out.g.nl e.symm
            · exact HES.out.g.na e.symm
          · rcases e with e | e | e
            · exact HNO.out bA rfl e
            · have := (hb.be l (.inr (.inl rfl))).1; omega
            · have := (hb.be a2 (.inr (.inr rfl))).1; omega)
        have HFE := Lib.hid hFF
        have k16 : Kp nob wr (wr.drew.alloc (.cells (rcells r0).toArray 67)) := ((Kp.refl nob wr).drew).alloc _
        have HES7 := Lib.hid (HES.out.keep0 k16)
        obtain ⟨T, hT⟩ : ∃ T, T = commitT z.c.ms z.c.lim v2.x.o D2 t2 L2 [r0] := ⟨_, rfl⟩
        have HONE := Lib.hid (commit_one HES7.out (by omega) (HGD.out.1.2.2 r0 hrm) hT)
        have HCC := Lib.hid (commit_c HES7.out.g (some ⟨wr.drew.heap.size, 0, none⟩) 1 1 [r0] (200 * (k + 1)) (202 * (k + 1)) ⟨rfl, (by unfold Rrow; simp only [List.flatMap_cons, List.flatMap_nil, List.append_nil]; exact row_new wr.drew (rcells r0) _), (by omega), (fun r hr => by rw [List.mem_singleton.1 hr]; exact HBD.out r0 hrm), (fun e => by cases e), Nat.le_refl _, (by simp [maxLen]), HES.out.few, (by omega), (by have := HES.out.cl; omega), (by rw [HES.out.len]; exact HES.out.sm), (by rw [HES.out.len]; omega), (by rw [HES.out.lim]; decide), (by have := HBD2.out.2.1.2.1; omega)⟩
          (fun j e => by
            cases e
            have h1 : wr.drew.heap.size = wr.heap.size := rfl
            exact ⟨fun e => HES.out.g.b.far (by rw [h1]; exact Nat.le_refl _) e, fun e => by have h2 : a2 < wr.heap.size := Blk.lt HES.out.g.ar; have e : wr.drew.heap.size = a2 := e; omega⟩)
          (by have := HBD2.out.2.1.2.1; omega) (by have := HES.out.ls; omega) T hT)
        have HK16 := Lib.hid k16
        clear hrg hrm hr0 hbA hFF k16 hT hsmx
        go_wp2
        refine reg_begin (fun w' => Kp FF wr w') (by kernel_rfl) ((Kp.refl FF wr).drew) (fun HS => ?_)
        refine reg_take (v := .pointer (some ⟨p, 0, none⟩)) 0 (some 62) rfl rfl (by kernel_rfl) (by kernel_rfl) (by kernel_rfl) (by rfl) HS (fun w' hw => by go_simp) ?_
        simp only [Act.put, List.setIfInBounds_toArray, List.set_cons_zero, List.set_cons_succ]
        refine reg_take (v := .pointer (some ⟨p, 0, none⟩)) 1 (some 63) rfl rfl (by kernel_rfl) (by kernel_rfl) (by kernel_rfl) (by rfl) HS (fun w' hw => by go_simp) ?_
        simp only [Act.put, List.setIfInBounds_toArray, List.set_cons_zero, List.set_cons_succ]
        refine reg_take (v := .pointer (some ⟨p, 3, none⟩)) 2 (some 64) rfl rfl (by kernel_rfl) (by kernel_rfl) (by kernel_rfl) (by rfl) HS (fun w' hw => by go_simp) ?_
        simp only [Act.put, List.setIfInBounds_toArray, List.set_cons_zero, List.set_cons_succ]
        refine reg_take (v := .pointer (some ⟨l, 0, none⟩)) 3 (some 65) rfl rfl (by kernel_rfl) (by kernel_rfl) (by kernel_rfl) (by rfl) HS (fun w' hw => by have c := (HES.out.pb.keep hw HFF.out.1).cell 3; rw [pcells_3] at c; go_simp) ?_
        simp only [Act.put, List.setIfInBounds_toArray, List.set_cons_zero, List.set_cons_succ]
        refine reg_take (v := .slice (some ⟨bA, oA, none⟩) n c0) 4 (some 66) rfl rfl (by kernel_rfl) (by kernel_rfl) (by kernel_rfl) (by rfl) HS (fun w' hw => by go_simp) ?_
        simp only [Act.put, List.setIfInBounds_toArray, List.set_cons_zero, List.set_cons_succ]
        refine reg_take (v := .pointer (some ⟨bA, oA, none⟩)) 5 (some 67) rfl rfl (by kernel_rfl) (by kernel_rfl) (by kernel_rfl) (by rfl) HS (fun w' hw => by go_simp) ?_
        simp only [Act.put, List.setIfInBounds_toArray, List.set_cons_zero, List.set_cons_succ]
        refine reg_load 6 (some 68) 67 (.tmp 67) rfl rfl rfl (by kernel_rfl) (by kernel_rfl) (by kernel_rfl) (by rfl) HS bA oA rfl (rcells r0) _ (fun w' hw => range_keep HRG.out hw HFF.out.2) Rec.rec_under rfl (Rec.rec_size r0) ?_
        simp only [Act.put, List.setIfInBounds_toArray, List.set_cons_zero, List.set_cons_succ]
        refine reg_step (v := .slice (some ⟨wr.drew.heap.size, 0, none⟩) 1 1) (w' := wr.drew.alloc (.cells (rcells r0).toArray 67)) 7 (some 69) rfl rfl (by kernel_rfl) (by rfl) (exec_recOne (.tmp 68) r0 rfl rfl) (HS.alloc _) (fun HS2 => ?_)
        simp only [Act.put, List.setIfInBounds_toArray, List.set_cons_zero, List.set_cons_succ]
        refine reg_call 8 (some 70) rfl rfl (by kernel_rfl) (by rfl) _ _ (exec_func 24 _ _ [.pointer (some ⟨l, 0, none⟩), .slice (some ⟨wr.drew.heap.size, 0, none⟩) 1 1] rfl (by kernel_rfl) rfl) ?_
        refine HCC.out.mono ?_
        rintro r w8 ⟨rfl, v8, a8, htp⟩
        have hS8 : Kp FF wr w8 := by
          rw [HFE.out]
          exact (HK16.out.nob _).trans htp.k (fun i e => .inl e)
        refine ⟨_, rfl, hS8, fun _ => ?_⟩
        simp only [Act.put, List.setIfInBounds_toArray, List.set_cons_zero, List.set_cons_succ]
        refine reg_take (v := .int .i64 T.e) 9 (some 12) rfl rfl (by kernel_rfl) (by kernel_rfl) (by kernel_rfl) (by rfl) hS8 (fun w' hw => by go_simp) ?_
        simp only [Act.put, List.setIfInBounds_toArray, List.set_cons_zero, List.set_cons_succ]
        refine reg_end (by kernel_rfl) ?_
        have HTP := Lib.hid htp
        clear htp hS8 HS HS2 c3 hxc2 HCC
        rcases HONE.out with ⟨h7, hes7⟩ | ⟨h0, hes0⟩
        · have HES8 := Lib.hid (hes7 w8 v8 a8 HTP.out)
          have HE7 := Lib.hid h7
          clear h7 hes7 HONE
          have hk2 : k ≤ 30 := by omega
          rw [HE7.out]
          go_wp2
          go_roundw
          case rel => exact ⟨k + 1, epn, cn, by omega, by go_num, rfl, rfl, v8, T.D, T.t, a8, T.L, HES8.out⟩
          case measure => simp [intOf]; omega
        · have HES8 := Lib.hid (hes0 w8 v8 a8 HTP.out)
          have HT0 := Lib.hid h0
          clear h0 hes0 HONE
          obtain ⟨c3, c2, m0, m1⟩ := HES8.out.looks
          have HE := Lib.hid (fun w' (kw : Kp nob w8 w') => epoch_any z l a8 T.L w' (HES8.out.g.lg.keep kw (fun e => e)))
          have hle := HES8.out.le.trans HES8.out.mt.2.1
          rw [hle] at HE
          have HKB := Lib.hid HES8.out.g.b.kp
          have hk2 : k ≤ 30 := by omega
          have ecn : IntKind.i64.wrap ((cn : Int) + 1) = ((cn + 1 : Nat) : Int) := by rw [IntWalk.i64_in _ (by omega)]; omega
          rw [HT0.out]
          clear hle
          go_wp2_with fail
          refine (HE.out _ (Kp.refl _ _)).mono ?_
          rintro r w9 ⟨rfl, k9⟩
          have HES9 := Lib.hid (HES8.out.keep0 k9)
          obtain ⟨d3, d2, n0, n1⟩ := HES9.out.looks
          clear c3 c2 m0 m1 k9
          go_wp2
          go_roundw
          case rel => exact ⟨k + 1, epn, cn + 1, by omega, by go_num, by go_num, by go_num, v8, T.D, T.t, a8, T.L, HES9.out⟩
          case measure => simp [intOf]; omega
    · obtain rfl : k = m := by omega
      have HKP := Lib.hid (HK3.out.trans HES.out.g.b.kp (fun _ e => e.elim))
      clear hbw hmt hls hcl hbds
      go_wp2
      go_ret
      exact ⟨rfl, HKP.out⟩
end Go.Proofs.YtigdlnfgdjfdoaaGreat.Com
