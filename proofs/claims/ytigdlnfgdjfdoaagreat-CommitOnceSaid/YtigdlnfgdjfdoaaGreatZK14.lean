/- Lemmas: SegPk Tell SegC SegPs SegPu. -/
import Derived.Test.YtigdlnfgdjfdoaaGreatZK13
set_option maxHeartbeats 4000000
set_option maxRecDepth 100000
set_option linter.unusedVariables false
set_option linter.unusedSimpArgs false
namespace Go.Proofs.YtigdlnfgdjfdoaaGreat
namespace Seg
open Go Go.RowKit Kit
open Rec (Rec good ftot recB recB_length good_bounds)
open Ideal (Ts Thing sealT derT hashT leafT rootT)
open Vault (nonce pur)
def qn : ByteArray := ⟨#[113, 117, 101, 117, 101]⟩
def keyT (ms : List UInt8) (q : Int) : Thing := derT ms (pur qn [q])
def besT (at' : List UInt8) (i n : Nat) : List UInt8 := at' ++ num8 i ++ num8 n
def stT (ms : List UInt8) (e s : Int) (at' : List UInt8) (n : Nat) (o : Ts) (i : Nat) (r : Rec) : Thing := sealT (o.val (keyT ms r.queue) 32) (nonce e (s + i)) (besT at' i n) (recB r)
def st1 (ms : List UInt8) (e s : Int) (at' : List UInt8) (n : Nat) (q : Ts × List (Int × List UInt8)) (r : Rec) : Ts × List (Int × List UInt8) :=
 ((q.1.nx (keyT ms r.queue)).nx (stT ms e s at' n q.1 q.2.length r), q.2 ++ [(r.queue, (q.1.nx (keyT ms r.queue)).val (stT ms e s at' n q.1 q.2.length r) ((recB r).length + 16))])
def stA (ms : List UInt8) (e s : Int) (at' : List UInt8) (n : Nat) (o : Ts) (rs : List Rec) : Ts × List (Int × List UInt8) := rs.foldl (st1 ms e s at' n) (o, [])
theorem stA_nil (ms : List UInt8) (e s : Int) (at' : List UInt8) (n : Nat) (o : Ts) : stA ms e s at' n o [] = (o, []) := rfl
theorem stA_snoc (ms : List UInt8) (e s : Int) (at' : List UInt8) (n : Nat) (o : Ts) (rs : List Rec) (k : Nat) (h : k < rs.length) : stA ms e s at' n o (rs.take (k + 1)) = st1 ms e s at' n (stA ms e s at' n o (rs.take k)) rs[k] := by
 unfold stA
 rw [List.take_add_one, List.getElem?_eq_getElem h, List.foldl_append]
 rfl
theorem fold_len (ms : List UInt8) (e s : Int) (at' : List UInt8) (n : Nat) : ∀ (rs : List Rec) (q : Ts × List (Int × List UInt8)), (rs.foldl (st1 ms e s at' n) q).2.length = q.2.length + rs.length
 | [], q => rfl
 | r :: rs, q => by rw [List.foldl_cons, fold_len ms e s at' n rs, List.length_cons]; simp only [st1, List.length_append, List.length_cons, List.length_nil]; omega
theorem stA_length (ms : List UInt8) (e s : Int) (at' : List UInt8) (n : Nat) (o : Ts) (rs : List Rec) : (stA ms e s at' n o rs).2.length = rs.length := by
 unfold stA; rw [fold_len]; simp
theorem fold_sub (ms : List UInt8) (e s : Int) (at' : List UInt8) (n : Nat) : ∀ (rs : List Rec) (q : Ts × List (Int × List UInt8)), q.1.sub (rs.foldl (st1 ms e s at' n) q).1
 | [], q => .refl _
 | r :: rs, q => ((q.1.sub_nx _).trans (Ts.sub_nx _ _)).trans (fold_sub ms e s at' n rs (st1 ms e s at' n q r))
theorem stA_from (ms : List UInt8) (e s : Int) (at' : List UInt8) (n : Nat) (o : Ts) (rs : List Rec) : o.sub (stA ms e s at' n o rs).1 := fold_sub ms e s at' n rs (o, [])
theorem stA_sub (ms : List UInt8) (e s : Int) (at' : List UInt8) (n : Nat) (o : Ts) (rs : List Rec) (k : Nat) : (stA ms e s at' n o (rs.take k)).1.sub (stA ms e s at' n o rs).1 := by
 have h : stA ms e s at' n o rs = (rs.drop k).foldl (st1 ms e s at' n) (stA ms e s at' n o (rs.take k)) := by
  unfold stA; rw [← List.foldl_append, List.take_append_drop]
 rw [h]; exact fold_sub ms e s at' n _ _
theorem fold_few (ms : List UInt8) (e s : Int) (at' : List UInt8) (n : Nat) : ∀ (rs : List Rec) (q : Ts × List (Int × List UInt8)) (k : Nat), q.1.few k → (rs.foldl (st1 ms e s at' n) q).1.few (k + 2 * rs.length)
 | [], q, k, h => h
 | r :: rs, q, k, h => (fold_few ms e s at' n rs (st1 ms e s at' n q r) (k + 2) ((h.nx _).nx _)).mono (by rw [List.length_cons]; omega)
theorem stA_few (ms : List UInt8) (e s : Int) (at' : List UInt8) (n : Nat) (o : Ts) (rs : List Rec) (k : Nat) (h : o.few k) : (stA ms e s at' n o rs).1.few (k + 2 * rs.length) := fold_few ms e s at' n rs (o, []) k h
def lf1 (q : Ts × List (List UInt8)) (b : List UInt8) : Ts × List (List UInt8) := (q.1.nx (leafT b), q.2 ++ [q.1.val (leafT b) 32])
def lfA (o : Ts) (bs : List (List UInt8)) : Ts × List (List UInt8) := bs.foldl lf1 (o, [])
theorem lfA_nil (o : Ts) : lfA o [] = (o, []) := rfl
theorem lfA_snoc (o : Ts) (bs : List (List UInt8)) (k : Nat) (h : k < bs.length) : lfA o (bs.take (k + 1)) = lf1 (lfA o (bs.take k)) bs[k] := by
 unfold lfA
 rw [List.take_add_one, List.getElem?_eq_getElem h, List.foldl_append]
 rfl
theorem lfold_len : ∀ (bs : List (List UInt8)) (q : Ts × List (List UInt8)), (bs.foldl lf1 q).2.length = q.2.length + bs.length
 | [], q => rfl
 | b :: bs, q => by rw [List.foldl_cons, lfold_len bs, List.length_cons]; simp only [lf1, List.length_append, List.length_cons, List.length_nil]; omega
theorem lfA_length (o : Ts) (bs : List (List UInt8)) : (lfA o bs).2.length = bs.length := by unfold lfA; rw [lfold_len]; simp
theorem lfold_sub : ∀ (bs : List (List UInt8)) (q : Ts × List (List UInt8)), q.1.sub (bs.foldl lf1 q).1
 | [], q => .refl _
 | b :: bs, q => (q.1.sub_nx _).trans (lfold_sub bs (lf1 q b))
theorem lfA_from (o : Ts) (bs : List (List UInt8)) : o.sub (lfA o bs).1 := lfold_sub bs (o, [])
theorem lfold_few : ∀ (bs : List (List UInt8)) (q : Ts × List (List UInt8)) (k : Nat), q.1.few k → (bs.foldl lf1 q).1.few (k + bs.length)
 | [], q, k, h => h
 | b :: bs, q, k, h => (lfold_few bs (lf1 q b) (k + 1) (h.nx _)).mono (by rw [List.length_cons]; omega)
theorem lfA_few (o : Ts) (bs : List (List UInt8)) (k : Nat) (h : o.few k) : (lfA o bs).1.few (k + bs.length) := lfold_few bs (o, []) k h
theorem lfold_32 : ∀ (bs : List (List UInt8)) (q : Ts × List (List UInt8)), q.1.long → (∀ d ∈ q.2, d.length = 32) → ∀ d ∈ (bs.foldl lf1 q).2, d.length = 32
 | [], q, h, hd => hd
 | b :: bs, q, h, hd => lfold_32 bs (lf1 q b) (h.nx _) (fun d hm => by
   rcases List.mem_append.1 hm with hm | hm
   · exact hd d hm
   · rw [List.mem_singleton.1 hm]; exact h.len _ (.inl rfl))
theorem lfA_32 (o : Ts) (bs : List (List UInt8)) (h : o.long) : ∀ d ∈ (lfA o bs).2, d.length = 32 := lfold_32 bs (o, []) h (fun d hm => by cases hm)
def rtA (o : Ts) (bs : List (List UInt8)) : List UInt8 × Ts := rootT (lfA o bs).1 (lfA o bs).2
theorem rtA_eq (o : Ts) (bs : List (List UInt8)) : rtA o bs = rootT (lfA o bs).1 (lfA o bs).2 := rfl
theorem rtA_sub (o : Ts) (bs : List (List UInt8)) : o.sub (rtA o bs).2 := (lfA_from o bs).trans (Ideal.rootT_sub _ _)
theorem rtA_few (o : Ts) (bs : List (List UInt8)) (k : Nat) (h : o.few k) : (rtA o bs).2.few (k + 2 * bs.length + 1) := by
 have := Ideal.rootT_few _ (lfA o bs).2 _ (lfA_few o bs k h)
 rw [lfA_length] at this
 exact this.mono (by omega)
theorem rtA_length (o : Ts) (bs : List (List UInt8)) (h : o.long) : (rtA o bs).1.length = 32 := Ideal.rootT_length _ _ (h.sub (lfA_from o bs)) (lfA_32 o bs h)
attribute [irreducible] rtA
def parB (ps : List (Int × List UInt8)) : List UInt8 := ps.flatMap fun p => num8 p.1 ++ textB (str p.2)
theorem parB_snoc (ps : List (Int × List UInt8)) (k : Nat) (h : k < ps.length) : parB (ps.take (k + 1)) = parB (ps.take k) ++ num8 ps[k].1 ++ textB (str ps[k].2) := by
 unfold parB
 rw [List.take_add_one, List.getElem?_eq_getElem h, List.flatMap_append]
 simp [List.append_assoc]
theorem parB_append (a b : List (Int × List UInt8)) : parB (a ++ b) = parB a ++ parB b := by simp [parB]
def frB (T : Nat) (ps : List (Int × List UInt8)) (root : List UInt8) : List UInt8 := num8 T ++ num8 ps.length ++ parB ps ++ root
def hdA (o : Ts) (at' : List UInt8) (T : Nat) (ps : List (Int × List UInt8)) : Packed :=
 ⟨(rtA o (ps.map (·.2))).2.nx (hashT (at' ++ frB T ps (rtA o (ps.map (·.2))).1)), frB T ps (rtA o (ps.map (·.2))).1, (rtA o (ps.map (·.2))).2.val (hashT (at' ++ frB T ps (rtA o (ps.map (·.2))).1)) 32, 0⟩
theorem hdA_o (o : Ts) (at' : List UInt8) (T : Nat) (ps : List (Int × List UInt8)) : (hdA o at' T ps).o = (rtA o (ps.map (·.2))).2.nx (hashT (at' ++ frB T ps (rtA o (ps.map (·.2))).1)) := rfl
theorem hdA_b (o : Ts) (at' : List UInt8) (T : Nat) (ps : List (Int × List UInt8)) : (hdA o at' T ps).b = frB T ps (rtA o (ps.map (·.2))).1 := rfl
theorem hdA_h (o : Ts) (at' : List UInt8) (T : Nat) (ps : List (Int × List UInt8)) : (hdA o at' T ps).h = (rtA o (ps.map (·.2))).2.val (hashT (at' ++ frB T ps (rtA o (ps.map (·.2))).1)) 32 := rfl
theorem hdA_e (o : Ts) (at' : List UInt8) (T : Nat) (ps : List (Int × List UInt8)) : (hdA o at' T ps).e = 0 := rfl
attribute [irreducible] hdA
def bad (lim : Nat) (e s : Int) : Nat → Nat → List Rec → Nat
 | _, _, [] => 0
 | i, size, r :: rs => if perr1 lim e s i size r = 0 then bad lim e s (i + 1) (size + 63 + r.body.length) rs + 1 else 0
theorem bad_cons (lim : Nat) (e s : Int) (i size : Nat) (r : Rec) (rs : List Rec) : bad lim e s i size (r :: rs) = if perr1 lim e s i size r = 0 then bad lim e s (i + 1) (size + 63 + r.body.length) rs + 1 else 0 := rfl
def end1 (ms : List UInt8) (o : Ts) (size : Nat) (r : Rec) : Ts := if good r = true ∧ size + 63 + r.body.length ≤ 16384 then o.nx (keyT ms r.queue) else o
def lft (ms : List UInt8) (e s : Int) (at' : List UInt8) (o : Ts) (rs : List Rec) (k : Nat) : Ts :=
 if h : k < rs.length then end1 ms (stA ms e s at' rs.length o (rs.take k)).1 (ftot (rs.take k)) rs[k] else o
theorem lft_at (ms : List UInt8) (e s : Int) (at' : List UInt8) (o : Ts) (rs : List Rec) (k : Nat) (h : k < rs.length) : lft ms e s at' o rs k = end1 ms (stA ms e s at' rs.length o (rs.take k)).1 (ftot (rs.take k)) rs[k] := dif_pos h
def pk (o : Ts) (ms : List UInt8) (lim : Nat) (e s : Int) (at' : List UInt8) (rs : List Rec) : Packed :=
 if rs = [] then ⟨o, [], at', 1⟩
 else if perrs lim e s 0 48 rs = 0 then hdA (stA ms e s at' rs.length o rs).1 at' (ftot rs) (stA ms e s at' rs.length o rs).2
 else ⟨lft ms e s at' o rs (bad lim e s 0 48 rs), [], Ideal.z32, perrs lim e s 0 48 rs⟩
theorem pk_nil (o : Ts) (ms : List UInt8) (lim : Nat) (e s : Int) (at' : List UInt8) : pk o ms lim e s at' [] = ⟨o, [], at', 1⟩ := if_pos rfl
theorem pk_yes (o : Ts) (ms : List UInt8) (lim : Nat) (e s : Int) (at' : List UInt8) (rs : List Rec) (hn : rs ≠ []) (h : perrs lim e s 0 48 rs = 0) : pk o ms lim e s at' rs = hdA (stA ms e s at' rs.length o rs).1 at' (ftot rs) (stA ms e s at' rs.length o rs).2 := by
 rw [pk, if_neg hn, if_pos h]
theorem pk_no (o : Ts) (ms : List UInt8) (lim : Nat) (e s : Int) (at' : List UInt8) (rs : List Rec) (hn : rs ≠ []) (h : perrs lim e s 0 48 rs ≠ 0) : pk o ms lim e s at' rs = ⟨lft ms e s at' o rs (bad lim e s 0 48 rs), [], Ideal.z32, perrs lim e s 0 48 rs⟩ := by
 rw [pk, if_neg hn, if_neg h]
attribute [irreducible] pk stA lfA parB
end Seg
namespace Vault
open Go Go.RowKit Kit
def Fn (T : List UInt8 → List UInt8 → Prop) : Prop := ∀ n a b, T n a → T n b → a = b
def Told (T : List UInt8 → List UInt8 → Prop) (sl : List (Pl × List UInt8)) : Prop := ∀ q t, last sl q = some t → T (q.1.drop 32) t
theorem pl_drop (k n : List UInt8) (hk : k.length = 32) (hn : n.length = 12) : (pl k n hk hn).1.drop 32 = n := by
 show (k ++ n).drop 32 = n
 rw [List.drop_left' hk]
theorem Told.upd {T : List UInt8 → List UInt8 → Prop} {sl : List (Pl × List UInt8)} (h : Told T sl) (k n t : List UInt8) (hk : k.length = 32) (hn : n.length = 12) (ht : T n t) : Told T (Vault.upd sl (pl k n hk hn) t) := by
 intro q u hu
 rw [last_upd] at hu
 by_cases e : pl k n hk hn = q
 · rw [if_pos e] at hu
   rw [← Option.some.inj hu, ← e, pl_drop]; exact ht
 · rw [if_neg e] at hu
   exact h q u hu
theorem Told.clash {T : List UInt8 → List UInt8 → Prop} (hf : Fn T) {sl : List (Pl × List UInt8)} (h : Told T sl) (k n t : List UInt8) (hk : k.length = 32) (hn : n.length = 12) (ht : T n t) : Vault.clash dift sl (pl k n hk hn) t = 0 := by
 unfold Vault.clash
 cases hl : last sl (pl k n hk hn) with
 | none => rfl
 | some u =>
   have h1 := h _ u hl
   rw [pl_drop] at h1
   have := hf n u t h1 ht
   simp [dift, this]
theorem told_nil (T : List UInt8 → List UInt8 → Prop) : Told T [] := fun q t h => by cases h
def Once (e s : Int) (txt : Nat → Option (List UInt8)) (k : Nat) (sl : List (Pl × List UInt8)) (cl : Nat) (sl2 : List (Pl × List UInt8)) (cl2 : Nat) : Prop :=
 ∀ T, Fn T → (∀ j, j < k → ∀ t, txt j = some t → T (nonce e (s + (j : Nat))) t) → Told T sl → Told T sl2 ∧ cl2 = cl
theorem Once.start (e s : Int) (txt : Nat → Option (List UInt8)) (sl : List (Pl × List UInt8)) (cl : Nat) : Once e s txt 0 sl cl sl cl := fun T _ _ h => ⟨h, rfl⟩
theorem Once.more {e s : Int} {txt : Nat → Option (List UInt8)} {k : Nat} {sl sl2 : List (Pl × List UInt8)} {cl cl2 : Nat} (h : Once e s txt k sl cl sl2 cl2) (key t : List UInt8) (hk : key.length = 32) (hn : (nonce e (s + (k : Nat))).length = 12) (ht : txt k = some t) :
    Once e s txt (k + 1) sl cl (Vault.upd sl2 (pl key (nonce e (s + (k : Nat))) hk hn) t) (cl2 + Vault.clash dift sl2 (pl key (nonce e (s + (k : Nat))) hk hn) t) := by
 intro T hf hT hs
 obtain ⟨h1, h2⟩ := h T hf (fun j hj => hT j (by omega)) hs
 have h3 := hT k (by omega) t ht
 exact ⟨h1.upd key _ t hk hn h3, by rw [h1.clash hf key _ t hk hn h3, h2]; rfl⟩
theorem Once.all {e s : Int} {txt : Nat → Option (List UInt8)} {k m : Nat} {sl sl2 : List (Pl × List UInt8)} {cl cl2 : Nat} (h : Once e s txt k sl cl sl2 cl2) (hm : k ≤ m) : Once e s txt m sl cl sl2 cl2 :=
 fun T hf hT hs => h T hf (fun j hj => hT j (by omega)) hs
end Vault
namespace Seg
open Go Go.RowKit Kit
open Rec (Rec good ftot fsec split Rrow Sr SrOk recB)
open Ideal (Ts Thing Arg Args Ans)
open Vault (Vc Vt Vx Vq)
def SizeC : Prop := ∀ (A : Option Addr) (m d : Nat) (rs : List Rec) (w : World), rs.length = m → Rrow w A rs → ftot rs ≤ 1099511627776 → m ≤ 1000000 →
 Calls Tryz.prog 50 #[.slice A m d] w fun e w' => e = .returned (.int .i64 (ftot rs : Nat)) ∧ Kp nob w w'
def SectorsC : Prop := ∀ (A : Option Addr) (m d : Nat) (rs : List Rec) (w : World), rs.length = m → Rrow w A rs → ftot rs ≤ 1099511627776 → m ≤ 1000000 →
 Calls Tryz.prog 51 #[.slice A m d] w fun e w' => e = .returned (.int .i64 (fsec rs : Nat)) ∧ Kp nob w w'
def LengthC : Prop := ∀ (A : Option Addr) (n c : Nat) (l : List UInt8) (w : World), l.length = n → Row w A (bvs l) → n ≤ 1048576 → (A = none → c = 0) → n ≤ c → c ≤ maxLen →
 Calls Tryz.prog 86 #[.slice A n c] w fun e w' => e = .returned (.int .i64 (lenF l : Nat)) ∧ Kp nob w w'
def PackF : Type := Ts → List UInt8 → Nat → Int → Int → List UInt8 → List Rec → Packed
def PackC (pk : PackF) : Prop := ∀ (c : Vc) (x : Vt) (e s : Int) (at' : List UInt8) (A : Option Addr) (m d : Nat) (rs : List Rec) (w : World), Vx w c x → at'.length = 32 → rs.length = m → Rrow w A rs → (rs = [] ∨ ∀ i, ab A = some i → ¬ x.P i) →
 m ≤ 1000 → (∀ r ∈ rs, r.body.length ≤ 4096) → x.o.few 80000 → x.o.long → x.cl ≤ 1000000 → (-9223372036854775808 ≤ e ∧ e ≤ 9223372036854775807) → (-9223372036854775808 ≤ s ∧ s ≤ 9223372036854775807) → c.lim ≤ 9223372036854775807 →
 Calls Tryz.prog 79 #[.pointer (some ⟨c.v, 0, none⟩), .int .i64 e, .int .i64 s, .agg (bvs at').toArray, .slice A m d] w fun r w' => ∃ (F2 P2 : Nat → Prop) (sl2 : List (Vault.Pl × List UInt8)) (cl2 : Nat) (X : Option Addr) (cX : Nat),
  r = .returned (.tuple #[.slice X (pk x.o c.ms c.lim e s at' rs).b.length cX, .agg (bvs (pk x.o c.ms c.lim e s at' rs).h).toArray, .int .i64 (pk x.o c.ms c.lim e s at' rs).e]) ∧
   Vq w c x w' ⟨F2, P2, (pk x.o c.ms c.lim e s at' rs).o, sl2, cl2⟩ ∧ (cl2 ≤ x.cl + m ∧ Vault.Once e s (fun j => rs[j]?.map recB) m x.sl x.cl sl2 cl2) ∧ Ans w w' P2 X cX (pk x.o c.ms c.lim e s at' rs).b
structure PackS (pk : PackF) : Prop where
 err : ∀ o ms lim e s at' rs, (pk o ms lim e s at' rs).e = perr lim e s rs
 begins : ∀ o ms lim e s at' rs, o.long → (pk o ms lim e s at' rs).e = 0 → ∃ rest, (pk o ms lim e s at' rs).b = num8 (ftot rs : Nat) ++ rest ∧ ftot rs = 8 + rest.length
 few : ∀ o ms lim e s at' rs n, Ts.few o n → rs.length ≤ 1000 → (pk o ms lim e s at' rs).o.few (n + 10000)
 long : ∀ o ms lim e s at' rs, Ts.long o → (pk o ms lim e s at' rs).o.long
 h32 : ∀ o ms lim e s at' rs, Ts.long o → at'.length = 32 → (pk o ms lim e s at' rs).h.length = 32
end Seg
namespace Seg
open Go Go.RowKit Kit
open Rec (Rec good ftot recB recB_length good_bounds)
open Ideal (Ts Thing sealT derT hashT leafT rootT)
open Vault (nonce pur)
theorem textB_length (l : List UInt8) (h : l.length < 16777216) : (textB (str l)).length = 3 + l.length := by
 unfold textB; rw [str_size, if_pos h, sl_str, List.length_append, le_length]
theorem fold_parts (ms : List UInt8) (e s : Int) (at' : List UInt8) (n : Nat) : ∀ (rs : List Rec) (q : Ts × List (Int × List UInt8)), q.1.long → (∀ r ∈ rs, good r = true) → (parB (rs.foldl (st1 ms e s at' n) q).2).length = (parB q.2).length + (ftot rs - 48)
 | [], q, h, hb => by simp [Rec.ftot_nil]
 | r :: rs, q, h, hb => by
   have h1 : (recB r).length = 36 + r.body.length := recB_length r (by have := good_bounds r (hb r (List.mem_cons_self)); omega)
   have hl := ((h.nx (keyT ms r.queue)).seal_ (q.1.val (keyT ms r.queue) 32) (nonce e (s + (q.2.length : Nat))) (besT at' q.2.length n) (recB r))
   have hf : ftot (r :: rs) = 63 + r.body.length + ftot rs := by simp [ftot]; omega
   have hg : 48 ≤ ftot rs := by unfold ftot; omega
   rw [List.foldl_cons, fold_parts ms e s at' n rs _ ((h.nx _).nx _) (fun x hx => hb x (by simp [hx])), hf]
   have : (parB (st1 ms e s at' n q r).2).length = (parB q.2).length + (63 + r.body.length) := by
    have hb1 := good_bounds r (hb r (List.mem_cons_self))
    unfold st1
    rw [parB_append, List.length_append]
    unfold parB
    simp only [List.flatMap_cons, List.flatMap_nil, List.append_nil, List.length_append, num8_length]
    unfold stT
    rw [textB_length _ (by rw [hl]; omega), hl, h1]; omega
   rw [this]; omega
theorem stA_parts (ms : List UInt8) (e s : Int) (at' : List UInt8) (n : Nat) (o : Ts) (rs : List Rec) (h : o.long) (hb : ∀ r ∈ rs, good r = true) : (parB (stA ms e s at' n o rs).2).length = ftot rs - 48 := by
 have := fold_parts ms e s at' n rs (o, []) h hb
 unfold stA
 rw [this]; unfold parB; simp
theorem lft_few (ms : List UInt8) (e s : Int) (at' : List UInt8) (o : Ts) (rs : List Rec) (k n : Nat) (h : o.few n) (hm : rs.length ≤ 1000) : (lft ms e s at' o rs k).few (n + 10000) := by
 unfold lft
 split
 · unfold end1
   have h1 := stA_few ms e s at' rs.length o (rs.take k) n h
   have h2 : (rs.take k).length ≤ rs.length := by rw [List.length_take]; omega
   split
   · exact (h1.nx _).mono (by omega)
   · exact h1.mono (by omega)
 · exact h.mono (by omega)
theorem lft_long (ms : List UInt8) (e s : Int) (at' : List UInt8) (o : Ts) (rs : List Rec) (k : Nat) (h : o.long) : (lft ms e s at' o rs k).long := by
 unfold lft
 split
 · unfold end1
   have h1 := h.sub (stA_from ms e s at' rs.length o (rs.take k))
   split
   · exact h1.nx _
   · exact h1
 · exact h
theorem pk_shape : PackS pk := by
 refine ⟨?err, ?begins, ?few, ?long, ?h32⟩
 case err =>
  intro o ms lim e s at' rs
  by_cases hn : rs = []
  · subst hn; rw [pk_nil]; rfl
  by_cases h : perrs lim e s 0 48 rs = 0
  · rw [pk_yes _ _ _ _ _ _ _ hn h, hdA_e, perr, if_neg hn, h]
  · rw [pk_no _ _ _ _ _ _ _ hn h, perr, if_neg hn]
 case begins =>
  intro o ms lim e s at' rs hl he
  by_cases hn : rs = []
  · subst hn; rw [pk_nil] at he; have he : (1 : Int) = 0 := he; omega
  by_cases h : perrs lim e s 0 48 rs = 0
  · have hp : perr lim e s rs = 0 := by rw [perr, if_neg hn]; exact h
    obtain ⟨_, hg, hft, _⟩ := perr_ok hp
    rw [pk_yes _ _ _ _ _ _ _ hn h, hdA_b]
    unfold frB
    refine ⟨num8 ((stA ms e s at' rs.length o rs).2.length : Nat) ++ parB (stA ms e s at' rs.length o rs).2 ++ (rtA (stA ms e s at' rs.length o rs).1 ((stA ms e s at' rs.length o rs).2.map (·.2))).1, by simp [List.append_assoc], ?_⟩
    have h1 := stA_parts ms e s at' rs.length o rs hl hg
    have h2 := rtA_length (stA ms e s at' rs.length o rs).1 ((stA ms e s at' rs.length o rs).2.map (·.2)) (hl.sub (stA_from ms e s at' rs.length o rs))
    have h3 : 48 ≤ ftot rs := by unfold ftot; omega
    simp only [List.length_append, num8_length, h1, h2]
    omega
  · rw [pk_no _ _ _ _ _ _ _ hn h] at he
    exact absurd he h
 case few =>
  intro o ms lim e s at' rs n hf hm
  by_cases hn : rs = []
  · subst hn; rw [pk_nil]; exact hf.mono (by omega)
  by_cases h : perrs lim e s 0 48 rs = 0
  · rw [pk_yes _ _ _ _ _ _ _ hn h, hdA_o]
    have h1 := rtA_few _ ((stA ms e s at' rs.length o rs).2.map (·.2)) _ (stA_few ms e s at' rs.length o rs n hf)
    rw [List.length_map, stA_length] at h1
    exact (h1.nx _).mono (by omega)
  · rw [pk_no _ _ _ _ _ _ _ hn h]
    exact lft_few ms e s at' o rs _ n hf hm
 case long =>
  intro o ms lim e s at' rs hl
  by_cases hn : rs = []
  · subst hn; rw [pk_nil]; exact hl
  by_cases h : perrs lim e s 0 48 rs = 0
  · rw [pk_yes _ _ _ _ _ _ _ hn h, hdA_o]
    exact (hl.sub ((stA_from ms e s at' rs.length o rs).trans (rtA_sub _ _))).nx _
  · rw [pk_no _ _ _ _ _ _ _ hn h]
    exact lft_long ms e s at' o rs _ hl
 case h32 =>
  intro o ms lim e s at' rs hl ha
  by_cases hn : rs = []
  · subst hn; rw [pk_nil]; exact ha
  by_cases h : perrs lim e s 0 48 rs = 0
  · rw [pk_yes _ _ _ _ _ _ _ hn h, hdA_h]
    exact (hl.sub ((stA_from ms e s at' rs.length o rs).trans (rtA_sub _ _))).len _ (.inl rfl)
  · rw [pk_no _ _ _ _ _ _ _ hn h]
    simp [Ideal.z32]
theorem fold_get (ms : List UInt8) (e s : Int) (at' : List UInt8) (n : Nat) : ∀ (rs : List Rec) (q : Ts × List (Int × List UInt8)) (i : Nat), i < q.2.length → (rs.foldl (st1 ms e s at' n) q).2[i]? = q.2[i]?
 | [], q, i, h => rfl
 | r :: rs, q, i, h => by
   rw [List.foldl_cons, fold_get ms e s at' n rs _ i (by simp only [st1, List.length_append]; omega)]
   unfold st1
   exact List.getElem?_append_left h
theorem stA_get (ms : List UInt8) (e s : Int) (at' : List UInt8) (n : Nat) (o : Ts) (rs : List Rec) (k i : Nat) (h : i < (stA ms e s at' n o (rs.take k)).2.length) : (stA ms e s at' n o rs).2[i]? = (stA ms e s at' n o (rs.take k)).2[i]? := by
 have h2 : stA ms e s at' n o rs = (rs.drop k).foldl (st1 ms e s at' n) (stA ms e s at' n o (rs.take k)) := by
  unfold stA; rw [← List.foldl_append, List.take_append_drop]
 rw [h2]; exact fold_get ms e s at' n _ _ i h
theorem stA_known (ms : List UInt8) (e s : Int) (at' : List UInt8) (n : Nat) (o p : Ts) (rs : List Rec) (k : Nat) (hk : k < rs.length) (h : (stA ms e s at' n o rs).1.sub p) :
    p.nx (keyT ms rs[k].queue) = p ∧ p.has (sealT (p.val (keyT ms rs[k].queue) 32) (nonce e (s + (k : Nat))) (besT at' k n) (recB rs[k])) ∧
    (stA ms e s at' n o rs).2[k]? = some (rs[k].queue, p.val (sealT (p.val (keyT ms rs[k].queue) 32) (nonce e (s + (k : Nat))) (besT at' k n) (recB rs[k])) ((recB rs[k]).length + 16)) := by
 have hlen : (stA ms e s at' n o (rs.take k)).2.length = k := by rw [stA_length, List.length_take]; omega
 have hsn := stA_snoc ms e s at' n o rs k hk
 have hsub := (stA_sub ms e s at' n o rs (k + 1)).trans h
 obtain ⟨q, hq⟩ : ∃ q, q = stA ms e s at' n o (rs.take k) := ⟨_, rfl⟩
 rw [← hq] at hsn hlen
 have h1 : (stA ms e s at' n o (rs.take (k + 1))).1 = (q.1.nx (keyT ms rs[k].queue)).nx (stT ms e s at' n q.1 k rs[k]) := by rw [hsn]; unfold st1; rw [hlen]
 have h2 : (stA ms e s at' n o (rs.take (k + 1))).2 = q.2 ++ [(rs[k].queue, (q.1.nx (keyT ms rs[k].queue)).val (stT ms e s at' n q.1 k rs[k]) ((recB rs[k]).length + 16))] := by rw [hsn]; unfold st1; rw [hlen]
 rw [h1] at hsub
 have ha := Ts.again ((Ts.sub_nx _ _).trans hsub : (q.1.nx (keyT ms rs[k].queue)).sub p) 32
 have hb := Ts.again hsub ((recB rs[k]).length + 16)
 have ht : stT ms e s at' n q.1 k rs[k] = sealT (p.val (keyT ms rs[k].queue) 32) (nonce e (s + (k : Nat))) (besT at' k n) (recB rs[k]) := by unfold stT; rw [ha.1]
 refine ⟨ha.2, ?_, ?_⟩
 · rw [← ht]; exact (Ts.has_nx _ _).sub hsub
 · have hl2 : k < (stA ms e s at' n o (rs.take (k + 1))).2.length := by rw [h2, List.length_append, hlen]; simp
   rw [stA_get ms e s at' n o rs (k + 1) k hl2, h2, List.getElem?_append_right (by omega), hlen, Nat.sub_self, ← ht, ← hb.1]
   rfl
theorem lfold_again : ∀ (bs : List (List UInt8)) (a : Ts × List (List UInt8)) (p : Ts) (ls : List (List UInt8)), (bs.foldl lf1 a).1.sub p → a.2 = ls → bs.foldl lf1 (p, ls) = (p, (bs.foldl lf1 a).2)
 | [], a, p, ls, h, h2 => by rw [← h2]; rfl
 | b :: bs, a, p, ls, h, h2 => by
   have hs : (a.1.nx (leafT b)).sub p := (lfold_sub bs (lf1 a b)).trans h
   have ha := Ts.again hs 32
   rw [List.foldl_cons, List.foldl_cons]
   have e1 : lf1 (p, ls) b = (p, ls ++ [a.1.val (leafT b) 32]) := by unfold lf1; rw [ha.2, ha.1]
   rw [e1]
   exact lfold_again bs (lf1 a b) p _ h (by unfold lf1; rw [h2])
theorem rtA_again (o p : Ts) (bs : List (List UInt8)) (h : (rtA o bs).2.sub p) : rtA p bs = ((rtA o bs).1, p) := by
 rw [rtA_eq] at h
 have hs : (lfA o bs).1.sub p := (Ideal.rootT_sub _ _).trans h
 have h1 : lfA p bs = (p, (lfA o bs).2) := by
  unfold lfA at hs ⊢
  exact lfold_again bs (o, []) p [] hs rfl
 rw [rtA_eq, rtA_eq, h1]
 exact Ideal.rootT_again _ _ p h
end Seg
end Go.Proofs.YtigdlnfgdjfdoaaGreat
