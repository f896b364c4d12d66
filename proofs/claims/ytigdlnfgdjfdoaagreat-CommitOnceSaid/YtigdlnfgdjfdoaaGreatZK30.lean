/- Lemmas: VauLm ComM SegT ComN. -/
import Derived.Test.YtigdlnfgdjfdoaaGreatZChaJ
import Derived.Test.YtigdlnfgdjfdoaaGreatZK23
import Derived.Test.YtigdlnfgdjfdoaaGreatZK24
import Derived.Test.YtigdlnfgdjfdoaaGreatZK28
set_option maxHeartbeats 4000000
set_option maxRecDepth 100000
set_option linter.unusedVariables false
set_option linter.unusedSimpArgs false
namespace Go.Proofs.YtigdlnfgdjfdoaaGreat
namespace Vault
open Go Go.RowKit Kit
theorem limit_any (v m : Nat) (mk : Value) (ms : List UInt8) (lim : Nat) (ps : List (Value × Value)) (cl : Nat) (w : World) (h : Vb w v m mk ms lim ps cl) :
    Calls Tryz.prog 43 #[.pointer (some ⟨v, 0, none⟩)] w fun e w' => e = .returned (.int .i64 (lim : Nat)) ∧ w = w' := by
 have hc := h.lim_
 clear h
 go_enter Tryz.func43, Tryz.ntmps43
 go_wp2
 go_ret
 exact ⟨rfl, rfl⟩
end Vault
namespace Com
open Go Go.RowKit Kit
open Rec (Rec good ftot fsec split Rrow Sr SrOk recB)
open Ideal (Ts Thing hashT)
open Vault (Vc Vt Vx Vq nonce)
open Disk
open Meter (Mt Mk Mb Mz nxt)
structure Zf where
 c : Vc
 g : Nat
 N : Nat
 S : Nat
 m : Nat
structure Zv where
 x : Vt
 W : Option Addr
 cW : Nat
def own (z : Zf) (v : Zv) : Nat → Prop := fun j => v.x.P j ∨ dF z.g z.N z.S v.W j ∨ j = z.m
structure Pb (w wr : World) (z : Zf) (v : Zv) (D : Dk) (t : Mt) (B : Nat → Prop) : Prop where
 vx : Vx wr z.c v.x
 dream : ∃ ts, v.x.o = .dream ts
 cd : Cd wr z.g z.N z.S v.W v.cW D
 me : Mb wr z.m (some ⟨z.g, 0, none⟩) t
 kp : Kp nob w wr
 new : ∀ j, own z v j → w.heap.size ≤ j
 vd : ∀ j, v.x.P j → ¬ dF z.g z.N z.S v.W j ∧ j ≠ z.m
 dm : ¬ dF z.g z.N z.S v.W z.m
 be : ∀ j, B j → w.heap.size ≤ j ∧ j < wr.heap.size ∧ ¬ own z v j
variable {w wr w2 : World} {z : Zf} {v : Zv} {D D2 : Dk} {t t2 : Mt} {B F : Nat → Prop}
theorem Pb.lt (h : Pb w wr z v D t B) : ∀ j, own z v j → j < wr.heap.size := fun j e => by
 rcases e with e | e | e
 · exact h.vx.lt j e
 · exact h.cd.lt j e
 · rw [e]; exact h.me.b.lt
theorem Pb.keep0 (h : Pb w wr z v D t B) (k : Kp nob wr w2) : Pb w w2 z v D t B :=
 ⟨h.vx.keep0 k, h.dream, h.cd.keep0 k, h.me.keep0 k, h.kp.trans k (fun _ e => e.elim), h.new, h.vd, h.dm, fun j e => by
  obtain ⟨h1, h2, h3⟩ := h.be j e; exact ⟨h1, Nat.lt_of_lt_of_le h2 k.size, h3⟩⟩
theorem Pb.less (h : Pb w wr z v D t B) (hF : ∀ j, F j → B j) : Pb w wr z v D t F := ⟨h.vx, h.dream, h.cd, h.me, h.kp, h.new, h.vd, h.dm, fun j e => h.be j (hF j e)⟩
theorem Pb.add (h : Pb w wr z v D t B) {j : Nat} (h1 : w.heap.size ≤ j) (h2 : j < wr.heap.size) (h3 : ¬ own z v j) : Pb w wr z v D t (fun i => B i ∨ i = j) :=
 ⟨h.vx, h.dream, h.cd, h.me, h.kp, h.new, h.vd, h.dm, fun i e => e.elim (h.be i) (fun e => e ▸ ⟨h1, h2, h3⟩)⟩
theorem Pb.side (h : Pb w wr z v D t B) (k : Kp F wr w2) (hF : ∀ j, F j → B j ∨ wr.heap.size ≤ j) : Pb w w2 z v D t B := by
 have hn : ∀ j, j < wr.heap.size → own z v j → ¬ F j := fun j hj hb e => by
  rcases hF j e with e | e
  · exact (h.be j e).2.2 hb
  · omega
 have hs := k.size
 refine ⟨h.vx.keepD h.dream k (fun i hi e e2 => hn i hi (.inl e2) e), h.dream, h.cd.keep k (fun j e => hn j (h.cd.lt j e) (.inr (.inl e))), h.me.keep k (hn z.m h.me.b.lt (.inr (.inr rfl))), h.kp.since k (fun j e => ?_), h.new, h.vd, h.dm, fun j e => ?_⟩
 · rcases hF j e with e | e
   · exact (h.be j e).1
   · exact Nat.le_trans h.kp.size e
 · obtain ⟨h1, h2, h3⟩ := h.be j e
   exact ⟨h1, Nat.lt_of_lt_of_le h2 hs, h3⟩
structure Pq (w wr : World) (z : Zf) (v : Zv) (w2 : World) (v2 : Zv) (D : Dk) (t : Mt) (B : Nat → Prop) : Prop where
 b : Pb w w2 z v2 D t B
 sub : ∀ j, own z v2 j → own z v j ∨ wr.heap.size ≤ j
 k : Kp (own z v) wr w2
theorem Pb.be_next {v2 : Zv} (h : Pb w wr z v D t B) (hs : ∀ j, own z v2 j → own z v j ∨ wr.heap.size ≤ j) (k : wr.heap.size ≤ w2.heap.size) : ∀ j, B j → w.heap.size ≤ j ∧ j < w2.heap.size ∧ ¬ own z v2 j := fun j e => by
 obtain ⟨h1, h2, h3⟩ := h.be j e
 exact ⟨h1, Nat.lt_of_lt_of_le h2 k, fun e => (hs j e).elim h3 (fun e => by omega)⟩
theorem Pb.vault {x2 : Vt} (h : Pb w wr z v D t B) (q : Vq wr z.c v.x w2 x2) (hd : ∃ ts, x2.o = .dream ts) : Pq w wr z v w2 ⟨x2, v.W, v.cW⟩ D t B := by
 have hs : ∀ j, own z ⟨x2, v.W, v.cW⟩ j → own z v j ∨ wr.heap.size ≤ j := fun j e => by
  rcases e with e | e | e
  · exact (q.P j e).imp .inl id
  · exact .inl (.inr (.inl e))
  · exact .inl (.inr (.inr e))
 have hz := q.kp.size
 have hw := h.kp.size
 refine ⟨⟨q.now, hd, h.cd.keep q.kp (fun j e e2 => (h.vd j e2).1 e), h.me.keep q.kp (fun e => (h.vd _ e).2 rfl), h.kp.since q.kp (fun j e => h.new j (.inl e)), fun j e => ?_, fun j e => ?_, h.dm, h.be_next hs hz⟩, hs, q.kp.mono (fun j _ e => .inl e)⟩
 · rcases hs j e with e | e
   · exact h.new j e
   · omega
 · rcases q.P j e with e | e
   · exact h.vd j e
   · exact ⟨fun e2 => by have := h.cd.lt j e2; omega, fun e2 => by have := h.me.b.lt; omega⟩
theorem Pb.meter (h : Pb w wr z v D t B) (hz : Mz wr z.m z.g z.N z.S v.W t2 D2 w2) : ∃ W2 c2, Pq w wr z v w2 ⟨v.x, W2, c2⟩ D2 t2 B := by
 obtain ⟨W2, c2, hd, hm, k, hn⟩ := hz
 have hdf : ∀ j, dF z.g z.N z.S W2 j → dF z.g z.N z.S v.W j ∨ wr.heap.size ≤ j := Dz.df (w := wr) (w2 := w2) hn
 have hs : ∀ j, own z ⟨v.x, W2, c2⟩ j → own z v j ∨ wr.heap.size ≤ j := fun j e => by
  rcases e with e | e | e
  · exact .inl (.inl e)
  · exact (hdf j e).imp (fun e => .inr (.inl e)) id
  · exact .inl (.inr (.inr e))
 have hk : Kp (own z v) wr w2 := k.mono (fun j _ e => e.elim (fun e => .inr (.inr e)) (fun e => .inr (.inl e)))
 have hw := h.kp.size
 refine ⟨W2, c2, ⟨h.vx.keepD h.dream k (fun j hj e e2 => ?_), h.dream, hd, hm, h.kp.since hk (fun j e => h.new j e), fun j e => ?_, fun j e => ⟨fun e2 => ?_, (h.vd j e).2⟩, fun e => ?_, h.be_next hs k.size⟩, hs, hk⟩
 · rcases e with e | e
   · exact (h.vd j e2).2 e
   · exact (h.vd j e2).1 e
 · rcases hs j e with e | e
   · exact h.new j e
   · omega
 · rcases hdf j e2 with e3 | e3
   · exact (h.vd j e).1 e3
   · have := h.vx.lt j e; omega
 · rcases hdf _ e with e | e
   · exact h.dm e
   · have := h.me.b.lt; omega
theorem Pb.disk (h : Pb w wr z v D t B) (hz : Dz wr z.g z.N z.S v.W D2 w2) : ∃ W2 c2, Pq w wr z v w2 ⟨v.x, W2, c2⟩ D2 t B := by
 obtain ⟨W2, c2, hd, k, hn⟩ := hz
 exact h.meter ⟨W2, c2, hd, h.me.keep k h.dm, k.mono (fun j _ e => .inr e), hn⟩
theorem Pq.old {v2 : Zv} (h : Pq w wr z v w2 v2 D t B) {j : Nat} (h1 : ¬ own z v j) (h2 : j < wr.heap.size) : ¬ own z v2 j := fun e => (h.sub j e).elim h1 (fun e => by omega)
theorem Pb.far (h : Pb w wr z v D t B) {j : Nat} (hj : wr.heap.size ≤ j) : ¬ own z v j := fun e => by have := h.lt j e; omega
def tcells (a : Nat) (e : Int) (s : Nat) (h : List UInt8) : List Value := .pointer (some ⟨a, 0, none⟩) :: .int .i64 e :: .int .i64 (s : Int) :: bvs h
theorem tcells_length (a : Nat) (e : Int) (s : Nat) (h : List UInt8) (hl : h.length = 32) : (tcells a e s h).length = 35 := by simp [tcells, hl]
theorem tcells_one (a : Nat) (e : Int) (s : Nat) (h : List UInt8) : ∀ u ∈ tcells a e s h, u.oneCell' = true := by
 intro u hu
 simp only [tcells, List.mem_cons] at hu
 rcases hu with rfl | rfl | rfl | hu
 · rfl
 · rfl
 · rfl
 · exact bvs_one _ u hu
def lcells (z : Zf) (a : Nat) (L : Lo) : List Value := .pointer (some ⟨z.c.v, 0, none⟩) :: .pointer (some ⟨z.g, 0, none⟩) :: .pointer (some ⟨z.m, 0, none⟩) :: (tcells a L.e L.s L.h ++ [.bool L.turned, .bool L.lost])
theorem lcells_length (z : Zf) (a : Nat) (L : Lo) (hl : L.h.length = 32) : (lcells z a L).length = 40 := by simp [lcells, tcells_length a L.e L.s L.h hl]
structure LgAt (wr : World) (z : Zf) (l a : Nat) (L : Lo) : Prop where
 b : Blk wr l 106 (lcells z a L)
 h32 : L.h.length = 32
variable {l a : Nat} {L : Lo}
theorem LgAt.keep (h : LgAt wr z l a L) (k : Kp F wr w2) (hF : ¬ F l) : LgAt w2 z l a L := ⟨h.b.keep k hF, h.h32⟩
theorem LgAt.cells (h : LgAt wr z l a L) : wr.cell? ⟨l, 0, none⟩ = some (.pointer (some ⟨z.c.v, 0, none⟩)) ∧ wr.cell? ⟨l, 1, none⟩ = some (.pointer (some ⟨z.g, 0, none⟩)) ∧ wr.cell? ⟨l, 2, none⟩ = some (.pointer (some ⟨z.m, 0, none⟩)) ∧
    wr.cell? ⟨l, 3, none⟩ = some (.pointer (some ⟨a, 0, none⟩)) ∧ wr.cell? ⟨l, 4, none⟩ = some (.int .i64 L.e) ∧ wr.cell? ⟨l, 5, none⟩ = some (.int .i64 (L.s : Int)) ∧ wr.cell? ⟨l, 38, none⟩ = some (.bool L.turned) ∧ wr.cell? ⟨l, 39, none⟩ = some (.bool L.lost) := by
 have hb := h.b
 have hl := tcells_length a L.e L.s L.h h.h32
 refine ⟨hb.cell 0, hb.cell 1, hb.cell 2, hb.cell 3, hb.cell 4, hb.cell 5, ?_, ?_⟩
 · rw [hb.cell]
   show (tcells a L.e L.s L.h ++ [.bool L.turned, .bool L.lost])[35]? = _
   rw [List.getElem?_append_right (by omega), hl]; rfl
 · rw [hb.cell]
   show (tcells a L.e L.s L.h ++ [.bool L.turned, .bool L.lost])[36]? = _
   rw [List.getElem?_append_right (by omega), hl]; rfl
structure Pg (w wr : World) (z : Zf) (v : Zv) (D : Dk) (t : Mt) (l a : Nat) (L : Lo) (B : Nat → Prop) : Prop where
 b : Pb w wr z v D t (fun j => B j ∨ j = l ∨ j = a)
 lg : LgAt wr z l a L
 ar : IsA wr a z.g L.A
 la : l ≠ a
 nl : ¬ B l
 na : ¬ B a
 pos : L.A.pos ≤ L.A.top
 top : L.A.top ≤ D.now.length
theorem Pg.keep0 (h : Pg w wr z v D t l a L B) (k : Kp nob wr w2) : Pg w w2 z v D t l a L B :=
 ⟨h.b.keep0 k, h.lg.keep k (fun e => e), areaP.keep h.ar k (fun e => e), h.la, h.nl, h.na, h.pos, h.top⟩
def Onc (e : Int) (s : Nat) (rs : List Rec) (sl : List (Vault.Pl × List UInt8)) (cl : Nat) (sl2 : List (Vault.Pl × List UInt8)) (cl2 : Nat) : Prop :=
 ∀ T, Vault.Fn T → (∀ j r, rs[j]? = some r → T (nonce e ((s + j : Nat) : Int)) (recB r)) → Vault.Told T sl → Vault.Told T sl2 ∧ cl2 = cl
theorem Onc.refl (e : Int) (s : Nat) (rs : List Rec) (sl : List (Vault.Pl × List UInt8)) (cl : Nat) : Onc e s rs sl cl sl cl := fun T _ _ h => ⟨h, rfl⟩
theorem Onc.app {e : Int} {s : Nat} {rs qs : List Rec} {sl sl2 sl3 : List (Vault.Pl × List UInt8)} {cl cl2 cl3 : Nat} (h : Onc e s rs sl cl sl2 cl2) (g : Onc e (s + rs.length) qs sl2 cl2 sl3 cl3) : Onc e s (rs ++ qs) sl cl sl3 cl3 := by
 intro T hT hr hs
 obtain ⟨h1, h2⟩ := h T hT (fun j r hj => hr j r (by rw [List.getElem?_append_left (List.getElem?_eq_some_iff.1 hj).1]; exact hj)) hs
 obtain ⟨g1, g2⟩ := g T hT (fun j r hj => by
  have := hr (rs.length + j) r (by rw [List.getElem?_append_right (by omega)]; simpa using hj)
  rw [show s + rs.length + j = s + (rs.length + j) by omega]; exact this) h1
 exact ⟨g1, g2.trans h2⟩
theorem Onc.pre {e : Int} {s : Nat} {rs : List Rec} {sl sl2 : List (Vault.Pl × List UInt8)} {cl cl2 : Nat} (h : Onc e s rs sl cl sl2 cl2) (qs : List Rec) : Onc e s (rs ++ qs) sl cl sl2 cl2 :=
 fun T hT hr hs => h T hT (fun j r hj => hr j r (by rw [List.getElem?_append_left (List.getElem?_eq_some_iff.1 hj).1]; exact hj)) hs
theorem onc_of {e : Int} {s : Nat} {rs : List Rec} {m : Nat} {sl sl2 : List (Vault.Pl × List UInt8)} {cl cl2 : Nat} (hm : rs.length = m) (h : Vault.Once e (s : Nat) (fun j => rs[j]?.map recB) m sl cl sl2 cl2) : Onc e s rs sl cl sl2 cl2 := by
 intro T hT hr hs
 refine h T hT (fun j hj t ht => ?_) hs
 cases hq : rs[j]? with
 | none => simp only [hq] at ht; cases ht
 | some r =>
   simp only [hq, Option.map_some, Option.some.injEq] at ht
   rw [← ht]
   have := hr j r hq
   rwa [show ((s + j : Nat) : Int) = (s : Nat) + (j : Nat) by omega] at this
theorem Sm.far_ {D : Dk} {k n : Nat} (h : Sm D k n) (hk : k ≤ 90000) : Far D := ⟨by have := h.waits; omega, by have := h.acts; omega, h.fuse, h.keep⟩
end Com
namespace Seg
open Go Go.RowKit Kit
open Rec (Rec good ftot ftot_snoc ftot_take fsec split Rrow Sr SrOk rcells rcells_one rec_info rsl_info recs_und recss_und exec_recOne fit fit_cons room room_cons room_le room_pos total size_any ftot_one split_more split_nil)
theorem total_one (r : Rec) : total [r] = 36 + r.body.length := by simp [total]
theorem roomFor_c (A : Option Addr) (n c : Nat) (rs : List Rec) (w : World) (hl : rs.length = n) (hr : Rrow w A rs) (hT : ftot rs ≤ 1099511627776) (hn : n ≤ 1000000) :
    Calls Tryz.prog 66 #[.slice A n c] w fun e w' => e = .returned (.int .i64 (room rs : Nat)) ∧ Kp nob w w' := by
 have HS := Lib.hid (fun w' => size_c none 0 0 [] w' rfl (Row.nil _ _) (by rw [Rec.ftot_nil]; omega) (by omega))
 rw [Rec.ftot_nil] at HS
 have HR := Lib.hid hr
 have HL := Lib.hid hl
 have HT := Lib.hid hT
 clear hr hl hT
 go_enter Tryz.func66, Tryz.ntmps66
 go_wp2_with (first | (go_at_call 50; refine (HS.out _).mono ?_; rintro r w1 ⟨rfl, k1⟩) | fail)
 have HK1 := Lib.hid k1
 clear k1
 go_loopw [3, 9] (fun sz i wr => ∃ k : Nat, k ≤ n ∧ i = .int .i64 k ∧ sz = .int .i64 (ftot (rs.take k) : Nat) ∧ (0 < k → room rs = k + fit (ftot (rs.take k)) (rs.drop k)) ∧ Kp nob w wr)
  (fun _ i _ => n - (intOf i).toNat)
 case atStart => exact ⟨0, Nat.zero_le _, rfl, rfl, fun h => by omega, HK1.out⟩
 case round =>
  obtain ⟨k, hk, rfl, rfl, hrm, kr⟩ := hrel
  by_cases hlt : k < n
  · have hk2 : k < rs.length := by rw [HL.out]; exact hlt
    obtain ⟨bb, oo, rfl, hbb, hc0, hc1, hc2, hc3, hc4, hc5⟩ := (HR.out.keep0 kr).at_ (i := k) hk2
    have hsn := ftot_snoc rs k hk2
    have htk := ftot_take rs (k + 1)
    have hdr := List.drop_eq_getElem_cons hk2
    have hroom0 : k = 0 → room rs = fit (ftot (rs.take 1)) (rs.drop 1) + 1 := fun _ => by
     cases rs with
     | nil => simp at hk2
     | cons r rs => rw [room_cons]; simp only [List.take_succ_cons, List.take_zero, List.drop_succ_cons, List.drop_zero]; rw [ftot_one]
    obtain ⟨p, hpe⟩ : ∃ p, p = rs[k]'hk2 := ⟨_, rfl⟩
    rw [← hpe] at hc0 hc1 hc2 hc3 hc4 hc5 hsn hdr
    obtain ⟨T, hTe⟩ : ∃ T, T = ftot (rs.take k) := ⟨_, rfl⟩
    rw [← hTe] at hsn hrm ⊢
    have hTT := HT.out
    have hb1 : (T : Int) + (27 + (36 + (p.body.length : Int))) ≤ 1099511627776 := by omega
    have HN : Hid (0 < k → room rs = if 16384 < T + 63 + p.body.length then k else k + (fit (T + 63 + p.body.length) (rs.drop (k + 1)) + 1)) := Lib.hid (fun h => by
     rw [hrm h, hdr, fit_cons]; split <;> omega)
    have H0 := Lib.hid hroom0
    have HSN := Lib.hid hsn
    have HKR := Lib.hid kr
    have HBA := Lib.hid (Blk.new wr 67 (rcells p))
    have hSZ := fun w' (h : Rrow w' (some ⟨wr.heap.size + 1, 0, none⟩) [p]) => size_any (some ⟨wr.heap.size + 1, 0, none⟩) 1 1 [p] w' rfl h (by rw [total_one]; omega) (by simp [maxLen])
    rw [total_one] at hSZ
    have HSZ := Lib.hid hSZ
    clear hpe hTe hsn htk hdr hroom0 hrm kr hTT hSZ
    go_wp2_with (first
     | (refine wpList_gd (by rfl) (exec_recOne (.tmp 15) p rfl rfl) ?_)
     | fail)
    have hrow := row_new (wr.alloc (.cells (rcells p).toArray 67)) (rcells p) 67
    have e1 : (wr.alloc (.cells (rcells p).toArray 67)).heap.size = wr.heap.size + 1 := by simp
    rw [e1] at hrow
    have kA := ((Kp.refl nob wr).alloc (.cells (rcells p).toArray 67)).alloc (.cells (rcells p).toArray 67)
    refine (HSZ.out _ (by unfold Rrow; simp only [List.flatMap_cons, List.flatMap_nil, List.append_nil]; exact hrow)).mono ?_
    rintro r w3 ⟨rfl, k3⟩
    have HK3 := Lib.hid ((HKR.out.trans kA (fun _ e => e.elim)).trans k3 (fun _ e => e.elim))
    clear kA k3 hrow e1
    by_cases hbig : 16384 < T + 63 + p.body.length
    · have hb2 : (16384 : Int) < (T : Int) + (27 + (36 + (p.body.length : Int))) := by omega
      by_cases hk0 : k = 0
      · subst hk0
        have h1 := H0.out rfl
        have HN2 : Hid (0 < 0 + 1 → room rs = 0 + 1 + fit (ftot (rs.take (0 + 1))) (rs.drop (0 + 1))) := Lib.hid (fun _ => by rw [h1, Nat.zero_add]; omega)
        clear h1
        go_wp2
        go_roundw
        case rel => exact ⟨0 + 1, by omega, by go_num, by rw [HSN.out]; go_num, HN2.out, HK3.out⟩
        case measure => simp [intOf]; omega
      · have hkp : 0 < k := by omega
        have hd : decide (0 < k) = true := decide_eq_true hkp
        have h1 := HN.out hkp
        rw [if_pos hbig] at h1
        have H1 := Lib.hid h1
        clear h1
        go_wp2
        go_ret
        exact ⟨by rw [H1.out]; rfl, HK3.out⟩
    · have hb2 : (T : Int) + (27 + (36 + (p.body.length : Int))) ≤ 16384 := by omega
      have HN2 : Hid (0 < k + 1 → room rs = k + 1 + fit (ftot (rs.take (k + 1))) (rs.drop (k + 1))) := Lib.hid (fun _ => by
       by_cases hk0 : k = 0
       · subst hk0
         have h1 := H0.out rfl
         rw [h1, Nat.zero_add]; omega
       · have h1 := HN.out (by omega)
         rw [if_neg hbig, ← HSN.out] at h1
         omega)
      clear hbig
      go_wp2
      go_roundw
      case rel => exact ⟨k + 1, by omega, by go_num, by rw [HSN.out]; go_num, HN2.out, HK3.out⟩
      case measure => simp [intOf]; omega
  · obtain rfl : k = n := by omega
    have HRM : Hid (room rs = k) := Lib.hid (by
     by_cases h0 : 0 < k
     · rw [hrm h0, List.drop_of_length_le (by rw [HL.out]; exact Nat.le_refl _)]; rfl
     · have : rs = [] := List.eq_nil_of_length_eq_zero (by have := HL.out; omega)
       rw [this]; show 0 = k; omega)
    have HKR := Lib.hid kr
    clear hrm kr
    go_wp2
    go_ret
    exact ⟨by rw [HRM.out]; rfl, HKR.out⟩
theorem run_cut3 {P : Program} (t e : TypeId) (z : Nat) (ht : P.underlying t = some (.slice e)) (hz : ∀ w, (sizeOf e).run P w = .ok z w) (A : Option Addr) (n c k : Nat) (hk : k ≤ n) (hc : n ≤ c) (w : World) : (Instr.slice t (.slice A n c) none (some (.int .i64 k)) (some (.int .i64 k))).run P w = .ok (.slice A k k) w := by
 have h1 : (0 : Int) ≤ k ∧ (k : Int) ≤ c := by omega
 have he := hz w
 cases A with
 | none => simp [Instr.slice, run_underlying ht, Instr.sliceBounds, run_sliceBound, he, h1]
 | some a =>
   have h3 : a.add 0 = a := rfl
   simp [Instr.slice, run_underlying ht, Instr.sliceBounds, run_sliceBound, he, h1, h3]
theorem exec_cut3 {P : Program} (t e : TypeId) (z : Nat) (ht : P.underlying t = some (.slice e)) (hz : ∀ w, (sizeOf e).run P w = .ok z w) {w : World} {a : Act} {o : Oper} (x y u : Operand) (ho : o.op = .slice t x none (some y) (some u)) (A : Option Addr) (n c k : Nat) (hx : a.eval x = .slice A n c) (hy : a.eval y = .int .i64 k) (hu : a.eval u = .int .i64 k) (hk : k ≤ n) (hc : n ≤ c) :
    (execOp a.eval o).run P w = .ok (.value (.slice A k k)) w := by
 have hr : (Instr.sliceAt t (.slice A n c) none (some (.int .i64 k)) (some (.int .i64 k))).run P w = .ok (.slice A k k) w := by
  have := run_cut3 t e z ht hz A n c k hk hc w
  unfold Instr.sliceAt
  simpa [run_underlying ht] using this
 unfold execOp
 simp only [ho, hx, hy, hu, Option.map_some, Option.map_none, Sem.run_bind, hr, Result.andThen_ok, Sem.run_pure]
theorem rec_sizeOf (w : World) : (sizeOf 67).run Tryz.prog w = .ok 6 w := by kernel_rfl
theorem eq_nilR (w : World) (A : Option Addr) (n c : Nat) : (binOp .eql 29 (.slice A n c) (.slice none 0 0)).run Tryz.prog w = .ok (.bool A.isNone) w :=
 Lib.run_eql_slice_nil w 29 67 A n c 0 0 recs_und
theorem cloneR (A : Option Addr) (m d : Nat) (rs : List Rec) (w : World) (hm : rs.length = m) (hr : Rrow w A rs) (hm2 : m ≤ 1000000) (hA : A = none → d = 0) (hd : m ≤ d) :
    Calls Tryz.prog 65 #[.slice A m d] w fun e w' => ∃ (C : Option Addr) (cc : Nat), e = .returned (.slice C m cc) ∧ OwnK 6 67 w' C m cc (rs.flatMap rcells) ∧ Kp nob w w' ∧ ∀ j, ab C = some j → w.heap.size ≤ j := by
 have hq := eq_nilR
 cases A with
 | none =>
   obtain rfl := hA rfl
   obtain rfl : m = 0 := by omega
   obtain rfl : rs = [] := List.eq_nil_of_length_eq_zero hm
   go_enter Tryz.func65, Tryz.ntmps65
   go_wp2
   go_ret
   exact ⟨none, 0, rfl, OwnK.nil 6 _ _, Kp.refl _ _, fun j e => by cases e⟩
 | some a =>
   obtain ⟨i0, hi1, hi2, hi3, hi4⟩ := rec_info
   have HR := Lib.hid (Row.keep0 hr ((Kp.refl nob w).alloc (.cells #[] 67)))
   have HL := Lib.hid hm
   have hq1 := hq w (some a) m d
   clear hr hm hq
   go_enter Tryz.func65, Tryz.ntmps65
   go_wp2_with (first
    | (refine wpList_gd (by rfl) (Rec.exec_rec0 rfl) ?_)
    | (refine wpList_appEmpty_gd _ (.tmp 5) (.tmp 6) 29 rfl (by rfl) 6 (by decide) 67 i0 _ 56 recs_und hi1 hi2 hi3 hi4 rfl w.heap.size rfl (by have := ownK_new w 6 0 67 [] rfl (by simp [maxLen]); simpa using this) (some a) m d (rs.flatMap rcells) rfl (fun e => by cases e) (by rw [Rec.rcs_len, HL.out]) HR.out (by omega) (by simp [maxLen]; omega) ?_
       intro C cc w1 ho hk1 ha1)
    | fail)
   have HO := Lib.hid ho
   have HK := Lib.hid (((Kp.refl nob w).alloc (.cells #[] 67)).trans hk1 (fun _ e => e.elim))
   have HA1 := Lib.hid ha1
   clear ho hk1 ha1
   go_wp2
   go_ret
   refine ⟨C, cc, rfl, HO.out, HK.out, fun j e => ?_⟩
   rcases HA1.out with h | h
   · rw [h] at e; cases e; exact Nat.le_refl _
   · rw [h] at e; cases e; simp
def slLen : Value → Nat
 | .slice _ n _ => n
 | _ => 0
structure TS (w : World) (rs : List Rec) (C Y : Option Addr) (j : Nat) (wr : World) (X : Option Addr) (nx cx : Nat) (ps : List Sr) : Prop where
 row : Row wr Y ((rs.drop j).flatMap rcells)
 ya : ab Y = ab C
 yn : Y = none → C = none
 ext : ps.map (·.rs) ++ split (rs.drop j) = split rs
 own : OwnK 1 29 wr X nx cx (ps.map Sr.v)
 few : nx ≤ j
 ok : ∀ p ∈ ps, SrOk wr p ∧ ∀ i, ab p.A = some i → ab X ≠ some i
 xf : ∀ i, ab X = some i → w.heap.size ≤ i ∧ ab C ≠ some i
 pa : ∀ p ∈ ps, ab p.A = ab C
 k : Kp nob w wr
theorem cutK_none {A : Option Addr} {c k z : Nat} (h : cutK A c k z = none) : A = none := by
 unfold cutK at h
 split at h
 · exact h
 · simpa using h
theorem TS.more {w wr w2 w3 : World} {rs : List Rec} {C Y X X2 : Option Addr} {m cc j nx cx cx2 n : Nat} {ps : List Sr} (h : TS w rs C Y j wr X nx cx ps) (hm : rs.length = m) (hj : j < m) (hn : n = room (rs.drop j)) (hC : ∀ i, ab C = some i → i < w2.heap.size) (hcc : m ≤ cc) (hcm : cc ≤ maxLen) (hcn : C = none → cc = 0)
    (k2 : Kp nob wr w2) (ho : OwnK 1 29 w3 X2 (nx + 1) cx2 (ps.map Sr.v ++ [.slice Y n n])) (hg : Kp (rowF X) w2 w3) (hz : ab X2 = ab X ∨ ab X2 = some w2.heap.size) :
    TS w rs C (cutK Y (cc - j) n 6) (j + n) w3 X2 (nx + 1) cx2 (ps ++ [⟨Y, n, n, (rs.drop j).take n⟩]) := by
 have hdl : (rs.drop j).length = m - j := by rw [List.length_drop, hm]
 have hne : rs.drop j ≠ [] := fun e => by rw [e] at hdl; simp at hdl; omega
 have hr1 := room_pos _ hne
 have hr2 := room_le (rs.drop j)
 rw [hdl, ← hn] at hr2
 rw [← hn] at hr1
 have hxC : ∀ i, ab X2 = some i → w.heap.size ≤ i ∧ ab C ≠ some i := fun i e => by
  rcases hz with e2 | e2
  · rw [e2] at e; exact h.xf i e
  · rw [e2] at e; cases e
    exact ⟨by have := h.k.size; have := k2.size; omega, fun e3 => by have := hC _ e3; omega⟩
 have hrow3 : Row w3 Y ((rs.drop j).flatMap rcells) := (h.row.keep0 k2).keep hg (fun i e e2 => (h.xf i e2).2 (by rw [← h.ya]; exact e))
 have a1 : ((rs.drop j).flatMap rcells).drop (n * 6) = (rs.drop (j + n)).flatMap rcells := by
  rw [← List.drop_drop]
  conv => lhs; rw [← List.take_append_drop n (rs.drop j), List.flatMap_append]
  rw [List.drop_left' (by rw [Rec.rcs_len, List.length_take, hdl]; omega)]
 have a2 : ((rs.drop j).flatMap rcells).take (n * 6) = ((rs.drop j).take n).flatMap rcells := by
  conv => lhs; rw [← List.take_append_drop n (rs.drop j), List.flatMap_append]
  rw [List.take_left' (by rw [Rec.rcs_len, List.length_take, hdl]; omega)]
 have hcut : Row w3 (cutK Y (cc - j) n 6) ((rs.drop (j + n)).flatMap rcells) := by
  rw [← a1]
  exact hrow3.cutK (by rw [Rec.rcs_len, hdl]; omega)
 refine ⟨hcut, by rw [ab_cutK]; exact h.ya, fun e => h.yn (cutK_none e), ?_, by rw [List.map_append]; exact ho, by have := h.few; omega, fun p hp => ?_, hxC, fun p hp => ?_, (h.k.trans k2 (fun _ e => e.elim)).since hg (fun i e => (h.xf i e).1)⟩
 · rw [List.map_append, ← h.ext, split_more (rs.drop j) hne, ← hn, List.drop_drop, List.append_assoc]; rfl
 · rcases List.mem_append.1 hp with hp | hp
   · have h1 := h.ok p hp
     refine ⟨(h1.1.keep0 k2).keep hg (fun i e e2 => h1.2 i e e2), fun i e e2 => ?_⟩
     rcases hz with e3 | e3
     · rw [e3] at e2; exact h1.2 i e e2
     · rw [e3] at e2; cases e2
       have := h1.1.lt _ e
       have := k2.size
       omega
   · rcases List.mem_singleton.1 hp with rfl
     refine ⟨⟨by show ((rs.drop j).take n).length = n; rw [List.length_take, hdl]; omega, ?_, Nat.le_refl _, by show n ≤ maxLen; omega, fun e => ?_, fun i e => ?_⟩, fun i e e2 => ?_⟩
     · have h2 := hrow3.take (n * 6)
       rw [a2] at h2
       exact h2
     · exfalso
       have := hcn (h.yn e)
       omega
     · have e : ab Y = some i := e
       rw [h.ya] at e
       have := hC i e
       have := hg.size
       omega
     · have e : ab Y = some i := e
       rw [h.ya] at e
       exact (hxC i e2).2 e
 · rcases List.mem_append.1 hp with hp | hp
   · exact h.pa p hp
   · rw [List.mem_singleton.1 hp]; exact h.ya
def SplitN : Prop := ∀ (A : Option Addr) (m d : Nat) (rs : List Rec) (w : World), rs.length = m → Rrow w A rs → ftot rs ≤ 1099511627776 → m ≤ 1000000 → (A = none → d = 0) → m ≤ d → d ≤ maxLen →
 Calls Tryz.prog 45 #[.slice A m d] w fun e w' => ∃ (X : Option Addr) (nx cx : Nat) (ps : List Sr), e = .returned (.slice X nx cx) ∧ ps.length = nx ∧ nx ≤ m ∧ Row w' X (ps.map Sr.v) ∧ ps.map (·.rs) = split rs ∧ (∀ p ∈ ps, SrOk w' p ∧ ∀ i, ab p.A = some i → w.heap.size ≤ i) ∧ (∀ i, ab X = some i → w.heap.size ≤ i) ∧ Kp nob w w'
theorem split_n : SplitN := by
 intro A m d rs w hm hr hT hm2 hA hd hdm
 have HCL := Lib.hid (cloneR A m d rs w hm hr hm2 hA hd)
 have HL := Lib.hid hm
 have HT := Lib.hid hT
 have HM := Lib.hid hm2
 clear hm hr hT hA hd hdm
 go_enter Tryz.func45, Tryz.ntmps45
 go_wp2_with fail
 refine HCL.out.mono ?_
 rintro r w1 ⟨C, cc, rfl, ho, k1, hC⟩
 have hcap := ho.cap
 have HCN := Lib.hid hC
 have HC := Lib.hid (And.intro (fun i e => ho.lt i e : ∀ i, ab C = some i → i < w1.heap.size) (And.intro hcap.1 (And.intro hcap.2 (OwnZ.none_ ho))))
 have HTS := Lib.hid (show TS w rs C C 0 w1 none 0 0 [] from ⟨ho.row, rfl, fun e => e, rfl, OwnK.nil 1 29 w1, Nat.le_refl _, fun p hp => (by cases hp), fun i e => (by cases e), fun p hp => (by cases hp), k1⟩)
 clear ho k1 hC hcap
 go_wp2
 go_loopw [3, 4] (fun ls rest wr => ∃ (j : Nat) (X Y : Option Addr) (nx cx : Nat) (ps : List Sr), ls = .slice X nx cx ∧ rest = .slice Y (m - j) (cc - j) ∧ j ≤ m ∧ w1.heap.size ≤ wr.heap.size ∧ TS w rs C Y j wr X nx cx ps)
  (fun _ rest _ => slLen rest)
 case atStart => exact ⟨0, none, C, 0, 0, [], rfl, rfl, Nat.zero_le _, Nat.le_refl _, HTS.out⟩
 case round =>
  obtain ⟨j, X, Y, nx, cx, ps, rfl, rfl, hj, kr, hts⟩ := hrel
  have HTS2 := Lib.hid hts
  have HKR := Lib.hid kr
  clear hts kr
  by_cases hlt : j < m
  · have hdl : (rs.drop j).length = m - j := by rw [List.length_drop, HL.out]
    have hft : ftot (rs.drop j) ≤ 1099511627776 := by
     have h1 := Rec.ftot_append (rs.take j) (rs.drop j)
     rw [List.take_append_drop] at h1
     have h2 : 48 ≤ ftot (rs.take j) := by unfold ftot; omega
     have := HT.out
     omega
    have HRF := Lib.hid (roomFor_c Y (m - j) (cc - j) (rs.drop j) wr hdl HTS2.out.row hft (by have := HM.out; omega))
    obtain ⟨n, hn⟩ : ∃ n, n = room (rs.drop j) := ⟨_, rfl⟩
    have hnl : n ≤ m - j := by rw [hn, ← hdl]; exact room_le _
    have hnp : 0 < n := by rw [hn]; exact room_pos _ (fun e => by rw [e] at hdl; simp at hdl; omega)
    rw [← hn] at HRF
    have HN := Lib.hid hn
    clear hdl hft hn
    have hmj : ((m - j : Nat) : Int) = (m : Int) - (j : Int) := by omega
    have hmj2 : 0 < m - j := by omega
    have hd0 : decide (0 < m - j) = true := decide_eq_true hmj2
    have hnx : nx ≤ 1000000 := by have := HTS2.out.few; omega
    obtain ⟨i0, hi1, hi2, hi3, hi4⟩ := rsl_info
    go_wp2_with (first
     | (go_at_call 66; refine HRF.out.mono ?_; rintro r w2 ⟨rfl, k2⟩; have HK2 := Lib.hid k2; have HO2 := Lib.hid (HTS2.out.own.keep k2 (fun _ _ e => e)); clear k2)
     | (refine wpList_gd (by rfl) (exec_cut3 29 67 6 recs_und rec_sizeOf (.tmp 14) (.tmp 15) (.tmp 16) rfl Y (m - j) (cc - j) n rfl rfl rfl hnl (by have := HC.out.2.1; omega)) ?_)
     | (refine wpList_appKO_gd _ (.tmp 13) (.tmp 18) 108 rfl (by rfl) 1 (by decide) 29 i0 _ 24 recss_und hi1 hi2 hi3 hi4 rfl X nx cx (ps.map Sr.v) rfl (HO2.out.alloc _) (some ⟨w2.heap.size, 0, none⟩) 1 1 [.slice Y n n] rfl (fun e => by cases e) rfl (row_new w2 [.slice Y n n] _) (fun u hu => by rcases List.mem_singleton.1 hu with rfl; rfl) (by omega) (by simp [maxLen]; omega) ?_
        intro X2 cx2 w3 ho2 hg2 hz2)
     | (refine wpList_gd (by rfl) (exec_fromK 29 67 6 recs_und rec_sizeOf (.tmp 20) (.tmp 21) rfl Y (m - j) (cc - j) n rfl rfl hnl) ?_)
     | fail)
    have ka : Kp nob wr (w2.alloc (.cells #[.slice Y n n] 29)) := HK2.out.alloc _
    have HNX := Lib.hid (HTS2.out.more HL.out hlt HN.out (fun i e => by have h1 := HC.out.1 i e; have h2 := HKR.out; have h3 := ka.size; omega) HC.out.2.1 HC.out.2.2.1 HC.out.2.2.2 ka ho2 ((Kp.refl _ _).grown hg2 (fun i e => .inl e)) hz2)
    have HKX : Hid (w1.heap.size ≤ w3.heap.size) := Lib.hid (by have h1 := HKR.out; have h2 := ka.size; have h3 := ((Kp.refl (rowF X) _).grown hg2 (fun i e => .inl e)).size; omega)
    have HE : Hid (m - j - n = m - (j + n) ∧ cc - j - n = cc - (j + n)) := Lib.hid (by omega)
    clear ho2 hg2 hz2 ka
    go_wp2_with (first
     | (refine wpList_gd (by rfl) (exec_fromK 29 67 6 recs_und rec_sizeOf (.tmp 20) (.tmp 21) rfl Y (m - j) (cc - j) n rfl rfl hnl) ?_)
     | fail)
    go_roundw
    case rel => exact ⟨j + n, X2, _, nx + 1, cx2, _, rfl, by rw [HE.out.1, HE.out.2], by omega, HKX.out, HNX.out⟩
    case measure => simp [slLen]; omega
  · obtain rfl : j = m := by omega
    have h0 : (rs.drop j) = [] := List.drop_of_length_le (by rw [HL.out]; exact Nat.le_refl _)
    have hex := HTS2.out.ext
    rw [h0, split_nil, List.append_nil] at hex
    have HEX := Lib.hid hex
    have hpl := HTS2.out.own.len
    rw [List.length_map, Nat.mul_one] at hpl
    have HPL := Lib.hid hpl
    have hjj : j - j = 0 := Nat.sub_self j
    rw [hjj]
    clear hex h0 hpl hjj
    go_wp2
    go_ret
    exact ⟨X, nx, cx, ps, rfl, HPL.out, HTS2.out.few, HTS2.out.own.row, HEX.out, fun p hp => ⟨(HTS2.out.ok p hp).1, fun i e => HCN.out i (by rw [← HTS2.out.pa p hp]; exact e)⟩, fun i e => (HTS2.out.xf i e).1, HTS2.out.k⟩
end Seg
namespace Com
open Go Go.RowKit Kit
open Rec (Rec good ftot fsec split Rrow Sr SrOk recB rcells rec_under rec_size cGood rv)
open Ideal (Ts Thing hashT)
open Vault (Vc Vt Vx Vq nonce)
open Disk
open Meter (Mt Mk Mb Mz nxt)
open Seg (sectors_c)
theorem sr_row {w : World} {X : Option Addr} {ps : List Sr} (h : Row w X (ps.map Sr.v)) (k : Nat) (hk : k < ps.length) : ∃ b o, X = some ⟨b, o, none⟩ ∧ b < w.heap.size ∧ w.cell? ⟨b, o + k, none⟩ = some (.slice ps[k].A ps[k].n ps[k].c) := by
 obtain ⟨b, o, h1, h2, h3⟩ := h.at_ (i := k) (by simpa using hk)
 exact ⟨b, o, h1, h2, by simpa [Sr.v] using h3⟩
theorem secsum_take (ls : List (List Rec)) (k : Nat) (hk : k < ls.length) : secsum (ls.take (k + 1)) = secsum (ls.take k) + fsec ls[k] := by
 unfold secsum
 rw [List.take_add_one, List.getElem?_eq_getElem hk, List.map_append, List.sum_append]
 simp
theorem secsum_le (ls : List (List Rec)) (k : Nat) : secsum (ls.take k) ≤ secsum ls := by
 unfold secsum
 conv => rhs; rw [← List.take_append_drop k ls]
 rw [List.map_append, List.sum_append]; omega
theorem sectors_any (X : Option Addr) (n cx : Nat) (ps : List Sr) (w : World) (hn : ps.length = n) (hr : Row w X (ps.map Sr.v)) (hok : ∀ p ∈ ps, SrOk w p) (hb : n ≤ 1000 ∧ ∀ p ∈ ps, p.rs.length ≤ 1000 ∧ ftot p.rs ≤ 16777216) :
    Calls Tryz.prog 46 #[.slice X n cx] w fun e w' => e = .returned (.int .i64 (secsum (ps.map (·.rs)) : Nat)) ∧ Kp nob w w' := by
 have HR := Lib.hid hr
 have HO := Lib.hid hok
 have HN := Lib.hid hn
 have HB := Lib.hid hb
 obtain ⟨ls, hls⟩ : ∃ ls, ls = ps.map (·.rs) := ⟨_, rfl⟩
 rw [← hls]
 have hlen : ls.length = n := by rw [hls, List.length_map, hn]
 have HLS := Lib.hid hls
 have HLN := Lib.hid hlen
 have hbd : ∀ k, k ≤ n → secsum (ls.take k) ≤ k * 65600 := by
  intro k
  induction k with
  | zero => intro _; simp [secsum]
  | succ k ih =>
    intro hk
    rw [secsum_take ls k (by omega)]
    have h1 := ih (by omega)
    have h2 : fsec (ls[k]'(by omega)) ≤ 65600 := by
     have hm : ∀ x ∈ ls, fsec x ≤ 65600 := fun x hx => by
      rw [hls] at hx
      obtain ⟨p, hp, he⟩ := List.mem_map.1 hx
      rw [← he]
      have := (hb.2 p hp).2
      unfold fsec; omega
     exact hm _ (List.getElem_mem _)
    omega
 have HBD := Lib.hid hbd
 clear hr hok hn hls hlen hbd
 go_enter Tryz.func46, Tryz.ntmps46
 go_wp2
 go_loopw [3, 8] (fun t i wr => ∃ k : Nat, k ≤ n ∧ i = .int .i64 k ∧ t = .int .i64 (secsum (ls.take k) : Nat) ∧ Kp nob w wr)
  (fun _ i _ => n - (intOf i).toNat)
 case atStart => exact ⟨0, Nat.zero_le _, rfl, rfl, Kp.refl _ _⟩
 case round =>
  obtain ⟨k, hk, rfl, rfl, kr⟩ := hrel
  by_cases hlt : k < n
  · have hkp : k < ps.length := by rw [HN.out]; exact hlt
    obtain ⟨bb, oo, rfl, hbb, hc0⟩ := sr_row (HR.out.keep0 kr) k hkp
    have hsn := secsum_take ls k (by rw [HLN.out]; exact hlt)
    have hpk : ls[k]'(by rw [HLN.out]; exact hlt) = (ps[k]'hkp).rs := by simp [HLS.out]
    rw [hpk] at hsn
    have h1 := HBD.out k (by omega)
    have h2 := HBD.out (k + 1) (by omega)
    have hmem : ps[k]'hkp ∈ ps := List.getElem_mem _
    have hbo := HB.out
    have hs0 := HO.out _ hmem
    have hso : SrOk wr (ps[k]'hkp) := hs0.keep kr (fun i e e2 => e2)
    have h3 := (hbo.2 _ hmem)
    have HSE := Lib.hid (fun w' (k2 : Kp nob wr w') => sectors_c (ps[k]'hkp).A (ps[k]'hkp).n (ps[k]'hkp).c (ps[k]'hkp).rs w' hso.len (Row.keep0 hso.row k2) (by omega) (by have := hso.len; omega))
    obtain ⟨p, hp⟩ : ∃ p, p = ps[k]'hkp := ⟨_, rfl⟩
    rw [← hp] at hc0 HSE hsn
    obtain ⟨T, hT⟩ : ∃ T, T = secsum (ls.take k) := ⟨_, rfl⟩
    obtain ⟨U, hU⟩ : ∃ U, U = secsum (ls.take (k + 1)) := ⟨_, rfl⟩
    obtain ⟨V, hV⟩ : ∃ V, V = fsec p.rs := ⟨_, rfl⟩
    rw [← hT, ← hU, ← hV] at hsn
    rw [← hT] at h1 ⊢
    rw [← hU] at h2
    rw [← hV] at HSE
    have hn1 := hbo.1
    have e1 : IntKind.i64.wrap ((T : Int) + (V : Int)) = (U : Int) := by rw [IntWalk.i64_in _ (by omega)]; omega
    have HU := Lib.hid hU
    have HKR := Lib.hid kr
    clear hs0 hso hpk hmem hp hT hU hV hsn h1 h2 h3 hbo kr hb
    go_wp2_with (first
     | (go_at_call 51; refine (HSE.out _ (Kp.refl _ _)).mono ?_; rintro e w2 ⟨rfl, k2⟩)
     | fail)
    go_roundw
    case rel => exact ⟨k + 1, by omega, by go_num, by rw [← HU.out], HKR.out.trans k2 (fun _ e => e.elim)⟩
    case measure => simp [intOf]; omega
  · obtain rfl : k = n := by omega
    have HT : Hid (ls.take k = ls) := Lib.hid (List.take_of_length_le (by rw [HLN.out]; exact Nat.le_refl _))
    have HKR := Lib.hid kr
    clear kr
    go_wp2
    go_ret
    exact ⟨by first | rfl | (rw [HT.out]; rfl), HKR.out⟩
theorem epoch_any (z : Zf) (l a : Nat) (L : Lo) (w : World) (h : LgAt w z l a L) : Calls Tryz.prog 27 #[.pointer (some ⟨l, 0, none⟩)] w fun e w' => e = .returned (.int .i64 L.e) ∧ Kp nob w w' := by
 have c4 := h.cells.2.2.2.2.1
 clear h
 go_enter Tryz.func27, Tryz.ntmps27
 go_wp2
 go_ret
 exact ⟨rfl, Kp.refl _ _⟩
theorem refT_all {rs : List Rec} (hne : rs ≠ []) (h : ∀ r ∈ rs, good r = true) : refT false false rs = 0 := by
 unfold refT; rw [if_neg (by decide), if_neg hne, List.all_eq_true.2 h]; rfl
theorem refT_one {rs : List Rec} (hne : rs ≠ []) {k : Nat} (hk : k < rs.length) (h : good rs[k] = false) : refT false false rs = 1 := by
 unfold refT
 rw [if_neg (by decide), if_neg hne]
 have : rs.all good = false := by
  rw [List.all_eq_false]
  exact ⟨_, List.getElem_mem hk, by rw [h]; decide⟩
 rw [this]; rfl
theorem refused_any {w wr : World} {z : Zf} {v : Zv} {D : Dk} {t : Mt} {B : Nat → Prop} {l a : Nat} {L : Lo} (h : Pg w wr z v D t l a L B) (A : Option Addr) (m d : Nat) (rs : List Rec) (hl : rs.length = m) (hr : Rrow wr A rs) (hm : m ≤ 1000000) (hb : ∀ r ∈ rs, r.body.length ≤ 4096) :
    Calls Tryz.prog 41 #[.pointer (some ⟨l, 0, none⟩), .slice A m d] wr fun e w' => e = .returned (.int .i64 (refT D.off L.lost rs)) ∧ Kp nob wr w' := by
 obtain ⟨c0, c1, c2, c3, c4, c5, c6, c7⟩ := h.lg.cells
 obtain ⟨T, hT⟩ : ∃ T, T = (if D.off then Meter.none_ else t) := ⟨_, rfl⟩
 obtain ⟨E, hE⟩ : ∃ E : Int, E = (if D.off then 8 else 0) := ⟨_, rfl⟩
 have hT32 : T.root.length = 32 := by
  rw [hT]; split
  · exact Meter.z32_length
  · exact h.b.me.k.root
 have hg0 := fun w' (k : Kp nob wr w') => Meter.get_any t z.m (some ⟨z.g, 0, none⟩) D.off w' (h.b.me.keep0 k) (Meter.Cd.pow (h.b.cd.keep0 k))
 rw [← hT, ← hE] at hg0
 have HG := Lib.hid hg0
 have HDN := Lib.hid (fun w' (k : Kp nob wr w') => down_any D z.g z.N z.S v.W v.cW w' (h.b.cd.keep0 k))
 have HLG := Lib.hid h.lg
 have HR := Lib.hid hr
 have HL := Lib.hid hl
 have HB := Lib.hid hb
 have HLE := Lib.hid (show (Meter.vcells T).length = (Meter.vcells Meter.none_).toArray.size by rw [List.size_toArray, Meter.vcells_length _ hT32, Meter.vcells_length Meter.none_ Meter.z32_length])
 have HVS := Lib.hid (Meter.val_size T hT32)
 have hz := Meter.zval_run
 clear h hl hr hb c0 c1 c3 c4 c5 c6 c7 hT hT32 hg0
 cases ho : D.off with
 | true =>
   rw [ho, if_pos rfl] at hE
   subst hE
   clear ho HDN
   have HF : Hid (refT true L.lost rs = 8) := Lib.hid (by unfold refT; rw [Bool.true_or, if_pos rfl])
   go_enter Tryz.func41, Tryz.ntmps41
   go_wp2_with (first
    | (go_at_call 54; refine (HG.out _ (Kp.refl _ _)).mono ?_; rintro e w1 ⟨rfl, k1⟩; have HK1 := Lib.hid k1; clear k1)
    | (refine wpList_store_new rfl 49 (.tmp 5) (.tmp 17) rfl _ (Meter.vcells T) rfl rfl HLE.out HVS.out (Meter.vcells_one _) ?_; intro w2 hB2 k2 z2; have HK2 := Lib.hid (HK1.out.trans k2 (fun _ e => e.elim)); clear hB2 k2 z2)
    | fail)
   go_ret
   exact ⟨by rw [HF.out]; rfl, HK2.out⟩
 | false =>
   rw [ho, if_neg (by decide)] at hE
   subst hE
   rw [ho] at HDN
   clear ho
   cases hlo : L.lost with
   | true =>
     have HF : Hid (refT false true rs = 8) := Lib.hid rfl
     have HC7 := Lib.hid hlo
     go_enter Tryz.func41, Tryz.ntmps41
     go_wp2_with (first
      | (go_at_call 54; refine (HG.out _ (Kp.refl _ _)).mono ?_; rintro e w1 ⟨rfl, k1⟩; have HK1 := Lib.hid k1; clear k1)
      | (refine wpList_store_new rfl 49 (.tmp 5) (.tmp 17) rfl _ (Meter.vcells T) rfl rfl HLE.out HVS.out (Meter.vcells_one _) ?_; intro w2 hB2 k2 z2; have HK2 := Lib.hid (HK1.out.trans k2 (fun _ e => e.elim)); have c7 := (HLG.out.keep HK2.out (fun e => e)).cells.2.2.2.2.2.2.2; rw [HC7.out] at c7; clear hB2 k2 z2)
      | fail)
     go_ret
     exact ⟨by rw [HF.out]; rfl, HK2.out⟩
   | false =>
     have HC7 := Lib.hid hlo
     clear hlo
     by_cases hm0 : m = 0
     · subst hm0
       have HF : Hid (refT false false rs = 1) := Lib.hid (by rw [List.eq_nil_of_length_eq_zero HL.out]; rfl)
       go_enter Tryz.func41, Tryz.ntmps41
       go_wp2_with (first
        | (go_at_call 54; refine (HG.out _ (Kp.refl _ _)).mono ?_; rintro e w1 ⟨rfl, k1⟩; have HK1 := Lib.hid k1; clear k1)
        | (refine wpList_store_new rfl 49 (.tmp 5) (.tmp 17) rfl _ (Meter.vcells T) rfl rfl HLE.out HVS.out (Meter.vcells_one _) ?_; intro w2 hB2 k2 z2; have HK2 := Lib.hid (HK1.out.trans k2 (fun _ e => e.elim)); have c7 := (HLG.out.keep HK2.out (fun e => e)).cells.2.2.2.2.2.2.2; have c1 := (HLG.out.keep HK2.out (fun e => e)).cells.2.1; rw [HC7.out] at c7; clear hB2 k2 z2)
        | (go_at_call 55; refine (HDN.out _ HK2.out).mono ?_; rintro e w3 ⟨rfl, rfl⟩)
        | fail)
       go_ret
       exact ⟨by rw [HF.out]; rfl, HK2.out⟩
     · have hm1 : ((m : Int) == 0) = false := by simp; omega
       have hm2 : decide (m = 0) = false := decide_eq_false hm0
       go_enter Tryz.func41, Tryz.ntmps41
       go_wp2_with (first
        | (go_at_call 54; refine (HG.out _ (Kp.refl _ _)).mono ?_; rintro e w1 ⟨rfl, k1⟩; have HK1 := Lib.hid k1; clear k1)
        | (refine wpList_store_new rfl 49 (.tmp 5) (.tmp 17) rfl _ (Meter.vcells T) rfl rfl HLE.out HVS.out (Meter.vcells_one _) ?_; intro w2 hB2 k2 z2; have HK2 := Lib.hid (HK1.out.trans k2 (fun _ e => e.elim)); have c7 := (HLG.out.keep HK2.out (fun e => e)).cells.2.2.2.2.2.2.2; have c1 := (HLG.out.keep HK2.out (fun e => e)).cells.2.1; rw [HC7.out] at c7; clear hB2 k2 z2)
        | (go_at_call 55; refine (HDN.out _ HK2.out).mono ?_; rintro e w3 ⟨rfl, rfl⟩)
        | fail)
       clear c7 c1
       go_loopw [40] (fun i wr2 => ∃ k : Nat, k ≤ m ∧ i = .int .i64 k ∧ (∀ r ∈ rs.take k, good r = true) ∧ Kp nob wr wr2)
        (fun i _ => m - (intOf i).toNat)
       case atStart => exact ⟨0, Nat.zero_le _, rfl, by simp, HK2.out⟩
       case round =>
        obtain ⟨k, hk, rfl, hgd, kr⟩ := hrel
        have HKR := Lib.hid kr
        by_cases hlt : k < m
        · have hkp : k < rs.length := by rw [HL.out]; exact hlt
          obtain ⟨bb, oo, rfl, hrg⟩ := Rec.Rrow.rng (HR.out.keep0 kr) hkp
          obtain ⟨r, hre⟩ : ∃ r, r = rs[k]'hkp := ⟨_, rfl⟩
          rw [← hre] at hrg
          have HRG := Lib.hid hrg
          have HRE := Lib.hid hre
          have HGD := Lib.hid hgd
          have HCG := Lib.hid (fun w' => cGood r w' (by have := HB.out r (by rw [hre]; exact List.getElem_mem _); omega))
          clear hre hrg hgd kr
          cases hg : good r with
          | true =>
            rw [hg] at HCG
            have HG2 : Hid (∀ x ∈ rs.take (k + 1), good x = true) := Lib.hid (fun x hx => by
             rw [List.take_add_one, List.getElem?_eq_getElem hkp, Option.toList_some] at hx
             rcases List.mem_append.1 hx with hx | hx
             · exact HGD.out x hx
             · rw [List.mem_singleton.1 hx, ← HRE.out]; exact hg)
            clear hg
            go_wp2_with (first
             | (refine wpList_load_mid rfl 67 (.tmp 42) rfl bb (oo + k * 6) rfl (rcells r) _ HRG.out rec_under rfl (rec_size r) ?_)
             | (refine wpList_store_new rfl 67 (.tmp 8) (.tmp 43) rfl _ (rcells r) rfl rfl rfl (rec_size r) (Rec.rcells_one r) ?_; intro w4 hB4 k4 z4; have HB4 := Lib.hid hB4; have HK4 := Lib.hid (HKR.out.trans k4 (fun _ e => e.elim)); clear hB4 k4 z4)
             | (refine wpList_load_blk rfl 67 (.tmp 8) rfl _ _ _ HB4.out rfl _ rec_under rfl (rec_size r) ?_)
             | (go_at_call 63; refine (HCG.out _).mono ?_; rintro e w5 ⟨rfl, k5⟩; have HK5 := Lib.hid (HK4.out.trans k5 (fun _ e => e.elim)); clear k5)
             | fail)
            go_roundw
            case rel => exact ⟨k + 1, by omega, by go_num, HG2.out, HK5.out⟩
            case measure => simp [intOf]; omega
          | false =>
            rw [hg] at HCG
            have HF : Hid (refT false false rs = 1) := Lib.hid (refT_one (fun e => hm0 (by rw [← HL.out, e]; rfl)) hkp (by rw [← HRE.out]; exact hg))
            clear hg
            go_wp2_with (first
             | (refine wpList_load_mid rfl 67 (.tmp 42) rfl bb (oo + k * 6) rfl (rcells r) _ HRG.out rec_under rfl (rec_size r) ?_)
             | (refine wpList_store_new rfl 67 (.tmp 8) (.tmp 43) rfl _ (rcells r) rfl rfl rfl (rec_size r) (Rec.rcells_one r) ?_; intro w4 hB4 k4 z4; have HB4 := Lib.hid hB4; have HK4 := Lib.hid (HKR.out.trans k4 (fun _ e => e.elim)); clear hB4 k4 z4)
             | (refine wpList_load_blk rfl 67 (.tmp 8) rfl _ _ _ HB4.out rfl _ rec_under rfl (rec_size r) ?_)
             | (go_at_call 63; refine (HCG.out _).mono ?_; rintro e w5 ⟨rfl, k5⟩; have HK5 := Lib.hid (HK4.out.trans k5 (fun _ e => e.elim)); clear k5)
             | fail)
            go_ret
            exact ⟨by rw [HF.out]; rfl, HK5.out⟩
        · obtain rfl : k = m := by omega
          have HF : Hid (refT false false rs = 0) := Lib.hid (refT_all (fun e => hm0 (by rw [← HL.out, e]; rfl)) (by rw [List.take_of_length_le (by rw [HL.out]; exact Nat.le_refl _)] at hgd; exact hgd))
          clear hgd kr
          go_wp2
          go_ret
          exact ⟨by rw [HF.out]; rfl, HKR.out⟩
end Com
end Go.Proofs.YtigdlnfgdjfdoaaGreat
