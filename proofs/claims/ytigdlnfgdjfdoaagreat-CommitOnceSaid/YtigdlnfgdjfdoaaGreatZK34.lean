/- Lemmas: ComAl RecAl ComEp. -/
import Derived.Test.YtigdlnfgdjfdoaaGreatZK33
set_option maxHeartbeats 4000000
set_option maxRecDepth 100000
set_option linter.unusedVariables false
set_option linter.unusedSimpArgs false
namespace Go.Proofs.YtigdlnfgdjfdoaaGreat
namespace Com
open Go Go.RowKit Kit
open Rec (Rec good ftot fsec split Rrow rcells exec_recOne)
open Ideal (Ts Thing hashT)
open Disk
open Meter (Mt Mk Mb nxt)
theorem Pg.side {w wr w2 : World} {z : Zf} {v : Zv} {D : Dk} {t : Mt} {B F : Nat → Prop} {l a : Nat} {L : Lo} (h : Pg w wr z v D t l a L B) (k : Kp F wr w2) (hF : ∀ j, F j → B j ∨ wr.heap.size ≤ j) : Pg w w2 z v D t l a L B := by
 have hn : ∀ j, j < wr.heap.size → ¬ B j → ¬ F j := fun j h1 h2 e => (hF j e).elim h2 (fun e => by omega)
 exact ⟨h.b.side k (fun j e => (hF j e).imp .inl id), h.lg.keep k (hn l h.lg.b.lt h.nl), areaP.keep h.ar k (hn a (Blk.lt h.ar) h.na), h.la, h.nl, h.na, h.pos, h.top⟩
theorem open_new {w wr : World} {n lim most : Int} {z : Zf} {v : Zv} {p : Nat} (h : NewP w wr n lim most z v p) :
    Calls Tryz.prog 12 #[.pointer (some ⟨p, 0, none⟩)] wr fun r w' => ∃ l a, r = .returned (.tuple #[.slice none 0 0, .int .i64 0]) ∧ Pg w w' z v (new (clamp n)) (Meter.fresh most) l a (log0 (new (clamp n)) (Meter.fresh most)) (fun j => j = p) ∧ Blk w' p 42 (pcells z (some l)) := by
 refine (popen_any nob (fun l X nx cx e w' => ∃ l0 a, l = some l0 ∧ X = none ∧ nx = 0 ∧ cx = 0 ∧ e = 0 ∧ Pg w w' z v (new (clamp n)) (Meter.fresh most) l0 a (log0 (new (clamp n)) (Meter.fresh most)) (fun j => j = p)) h.p (fun e => e) (fun w1 k => ?_)).mono ?_
 · refine (open_zero (h.b.keep0 k) rfl rfl ⟨Int.le_refl _, (by show (0 : Int) ≤ 9223372036854775807; decide)⟩).mono ?_
   rintro r w' ⟨l, a, rfl, hg, hk⟩
   exact ⟨some l, none, 0, 0, 0, rfl, ⟨l, a, rfl, rfl, rfl, rfl, rfl, hg⟩, hk⟩
 · rintro r w' ⟨l, X, nx, cx, e, w2, rfl, ⟨l0, a, rfl, rfl, rfl, rfl, rfl, hg⟩, k2, hb, _⟩
   exact ⟨l0, a, rfl, hg.side k2 (fun j e => .inl e), hb⟩
def tick : Rec := ⟨7, 0, 0, 0, 0, []⟩
theorem tick_good : good tick = true := by first | rfl | (unfold good; rfl) | (unfold good; simp [tick, Rec.inB])
theorem tick_split : split [tick] = [[tick]] := rfl
theorem tick_sec : secsum [[tick]] = 1 := rfl
theorem tick_T (ms : List UInt8) (o : Ts) (hd : ∃ ts, o = .dream ts) : Calm o (new 20) (Meter.fresh 100) 1 1 (turnT ms 100 o (new 20) (Meter.fresh 100) (log0 (new 20) (Meter.fresh 100)) [tick]) := by
 have hlen : (new 20).now.length = 20 := by simp [new]
 rcases turnT_cases (t := Meter.fresh 100) (L := log0 (new 20) (Meter.fresh 100)) (rs := [tick]) ms 100 hd (new_ok 20) (Int.le_refl _) with ⟨h, _⟩ | ⟨_, h, _⟩ | ⟨_, _, G, h, q, _⟩
 · exact absurd (refT_all (by simp) (fun r hr => by rw [List.mem_singleton.1 hr]; exact tick_good)) h
 · exfalso
   refine h ?_
   unfold tcheck
   rw [if_neg (by simp [Meter.fresh, Meter.lim]), tick_split, tick_sec, hlen, if_neg (by decide)]
 · rw [h]
   have := (q.calm_ (L := log0 (new 20) (Meter.fresh 100)) rfl rfl (Ts.sub_nx _ _) (fun k hk => hk.nx _)).1
   rw [tick_split] at this
   exact this
theorem alive_yes (w : World) : Calls Tryz.prog 8 #[] w fun e w' => e = .returned (.bool true) ∧ Kp nob w w' := by
 go_enter Tryz.func8, Tryz.ntmps8
 go_wp2_with fail
 refine (place_any 20 100 100 w).mono ?_
 rintro r w1 ⟨z, v, p, rfl, hn⟩
 have HN := Lib.hid hn
 have c0 : w1.cell? ⟨p, 0, none⟩ = some (.pointer (some ⟨z.c.v, 0, none⟩)) := hn.p.cell 0
 have c1 : w1.cell? ⟨p, 1, none⟩ = some (.pointer (some ⟨z.g, 0, none⟩)) := hn.p.cell 1
 have c2 : w1.cell? ⟨p, 2, none⟩ = some (.pointer (some ⟨z.m, 0, none⟩)) := hn.p.cell 2
 clear hn
 go_wp2_with fail
 refine (open_new HN.out).mono ?_
 rintro r w2 ⟨l, a, rfl, hg, hp⟩
 have HG := Lib.hid hg
 have HP := Lib.hid hp
 have c3 : w2.cell? ⟨p, 3, none⟩ = some (.pointer (some ⟨l, 0, none⟩)) := hp.cell 3
 clear hg hp c0 c1 c2
 go_wp2_with (first
  | (refine wpList_gd (by rfl) (exec_recOne (.tmp 48) tick rfl rfl) ?_)
  | fail)
 have hrow := row_new w2 (rcells tick) 67
 obtain ⟨w3, hw3⟩ : ∃ w3, w3 = w2.alloc (.cells (rcells tick).toArray 67) := ⟨_, rfl⟩
 have k3 : Kp nob w2 w3 := by rw [hw3]; exact (Kp.refl nob w2).alloc _
 rw [← hw3] at hrow ⊢
 have HK3 := Lib.hid k3
 have HT := Lib.hid (tick_T z.c.ms v.x.o HN.out.b.dream)
 obtain ⟨T, hT⟩ : ∃ T, T = turnT z.c.ms 100 v.x.o (new 20) (Meter.fresh 100) (log0 (new 20) (Meter.fresh 100)) [tick] := ⟨_, rfl⟩
 rw [← hT] at HT
 have hlim : z.c.lim = 100 := HN.out.lim
 have HTC := Lib.hid (turn_c (HG.out.keep0 k3) (some ⟨w2.heap.size, 0, none⟩) 1 1 [tick] 0 0 ⟨rfl, (by unfold Rrow; simp only [List.flatMap_cons, List.flatMap_nil, List.append_nil]; exact hrow), by decide, (fun r hr => by rw [List.mem_singleton.1 hr]; simp [tick]), (fun e => by cases e), Nat.le_refl _, (by simp [maxLen]), (by rw [HN.out.o]; exact Nat.le_refl _), by decide, (by rw [HN.out.cl]; decide), ⟨Nat.zero_le _, Nat.zero_le _, Nat.zero_le _, by decide, rfl⟩, (by simp [new, clamp]), (by rw [hlim]; decide), Int.le_refl _⟩ T (by rw [hT, hlim]; rfl))
 clear hrow hw3 k3 hT hlim c3
 go_wp2_with fail
 refine HTC.out.mono ?_
 rintro r w4 ⟨rfl, v2, a2, htp⟩
 have hpa : ¬ (own z v p ∨ p = l ∨ p = a) := fun e => by
  have h1 := HG.out.b.be p (.inl rfl)
  rcases e with e | e | e
  · exact h1.2.2 e
  · exact HG.out.nl e.symm
  · exact HG.out.na e.symm
 have hpb := (HP.out.keep HK3.out (fun e => e)).keep htp.k hpa
 have c2 : w4.cell? ⟨p, 2, none⟩ = some (.pointer (some ⟨z.m, 0, none⟩)) := hpb.cell 2
 have c3 : w4.cell? ⟨p, 3, none⟩ = some (.pointer (some ⟨l, 0, none⟩)) := hpb.cell 3
 have hme := htp.b.me.cells
 rw [HT.out.t] at hme
 have m0 : w4.cell? ⟨z.m, 0, none⟩ = some (.int .i64 1) := hme.1
 have m1 : w4.cell? ⟨z.m, 1, none⟩ = some (.int .i64 1) := hme.2.1
 have hE := epoch_any z l a2 T.L w4 (htp.g (by rw [HT.out.e0]; decide)).lg
 rw [HT.out.le] at hE
 have HE := Lib.hid hE
 have HKP := Lib.hid htp.b.kp
 rw [HT.out.e0]
 clear hpa hpb hme htp hE HTC
 go_wp2_with fail
 refine HE.out.mono ?_
 rintro r w5 ⟨rfl, k5⟩
 go_wp2
 go_ret
 exact ⟨rfl, HKP.out.trans k5 (fun _ e => e.elim)⟩
end Com
namespace Rec
open Go Go.RowKit Kit
end Rec
namespace Com
open Go Go.RowKit Kit
open Rec (Rec good ftot fsec split split_flat good_bounds Rrow rcells)
open Ideal (Ts Thing hashT)
open Disk
open Meter (Mt Mk Mb nxt)
theorem secsum_few : ∀ (ls : List (List Rec)), (∀ l ∈ ls, Pks l) → 256 * secsum ls ≤ 878 * ls.flatten.length
 | [], _ => by simp [secsum]
 | l :: ls, h => by
   have h1 := secsum_few ls (fun x hx => h x (by simp [hx]))
   have hp := h l (by simp)
   rw [secsum_cons]
   have h2 : ∀ rs : List Rec, (∀ r ∈ rs, good r = true) → ftot rs ≤ 48 + 575 * rs.length := by
    intro rs
    induction rs with
    | nil => intro _; simp [ftot]
    | cons r rs ih =>
      intro hg
      have a := good_bounds r (hg r (by simp))
      have b := ih (fun x hx => hg x (by simp [hx]))
      have hf : ftot (r :: rs) = 63 + r.body.length + ftot rs := by simp [ftot]; omega
      rw [hf, List.length_cons]; omega
   have h3 := h2 l hp.good
   have h4 : 1 ≤ l.length := by
    have := hp.ne
    cases l with
    | nil => exact absurd rfl this
    | cons a b => simp
   have h5 : (l :: ls).flatten.length = l.length + ls.flatten.length := by simp
   rw [h5]
   unfold fsec
   omega
theorem split_few {rs : List Rec} (hg : ∀ r ∈ rs, good r = true) : 256 * secsum (split rs) ≤ 878 * rs.length := by
 have := secsum_few (split rs) (fun l hl => split_pks _ rs (Nat.le_refl _) hg l hl)
 rwa [split_flat] at this
end Com
end Go.Proofs.YtigdlnfgdjfdoaaGreat
