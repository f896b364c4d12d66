/- Lemmas: ComH DiskS ChaS ChaP MtS ComD ChaQ. -/
import Derived.Test.YtigdlnfgdjfdoaaGreatZK02
set_option maxHeartbeats 4000000
set_option maxRecDepth 100000
set_option linter.unusedVariables false
set_option linter.unusedSimpArgs false
namespace Go.Proofs.YtigdlnfgdjfdoaaGreat
namespace Com
open Go Go.RowKit Kit
open Ideal (Ts Thing hashT out tok tok_inj num num_le num_inj mk_old out_old)
theorem val_one {ts : List Thing} (hf : ts.length < 1000000) {t u : Thing} (ht : t ∈ ts) (hu : u ∈ ts) {n m : Nat} (h : out ts t n = out ts u m) : t = u := by
 rw [out_old _ _ _ ht, out_old _ _ _ hu] at h
 have l1 := num_le ts t
 have l2 := num_le ts u
 exact num_inj ts (tok_inj (by omega) (by omega) h).2 ht
theorem hash_one {ts : List Thing} (hf : ts.length < 1000000) {a b : List UInt8} (ha : hashT a ∈ ts) (hb : hashT b ∈ ts) {n m : Nat} (h : out ts (hashT a) n = out ts (hashT b) m) : a = b := by
 have h2 := val_one hf ha hb h
 have h3 := congrArg Thing.d h2
 have h4 := congrArg Thing.a h2
 have h5 := congrArg Thing.b h2
 have h6 := congrArg Thing.c h2
 simp only [hashT] at h3 h4 h5 h6
 first | exact h3 | exact h4 | exact h5 | exact h6
inductive Hs (o : Ts) (h0 : List UInt8) : List (List UInt8) → List UInt8 → Prop
 | nil : Hs o h0 [] h0
 | snoc {fs : List (List UInt8)} {a f : List UInt8} (h : Hs o h0 fs a) (hf : 48 ≤ f.length) (hm : o.has (hashT (a ++ f))) : Hs o h0 (fs ++ [f]) (o.val (hashT (a ++ f)) 32)
theorem Hs.len {o : Ts} {h0 : List UInt8} {fs : List (List UInt8)} {a : List UInt8} (h : Hs o h0 fs a) (hl : o.long) (h32 : h0.length = 32) : a.length = 32 := by
 cases h with
 | nil => exact h32
 | snoc _ _ _ => exact hl.len _ (.inl rfl)
theorem Hs.cases_ {o : Ts} {h0 : List UInt8} {fs : List (List UInt8)} {b : List UInt8} (h : Hs o h0 fs b) : (fs = [] ∧ b = h0) ∨ ∃ gs a f, fs = gs ++ [f] ∧ Hs o h0 gs a ∧ 48 ≤ f.length ∧ o.has (hashT (a ++ f)) ∧ b = o.val (hashT (a ++ f)) 32 := by
 cases h with
 | nil => exact .inl ⟨rfl, rfl⟩
 | snoc h hf hm => exact .inr ⟨_, _, _, rfl, h, hf, hm, rfl⟩
theorem Hs.one {ts : List Thing} (hf : ts.length < 1000000) {st h0 : List UInt8} (hst : st.length < 80) (hm : hashT st ∈ ts) (h0e : h0 = out ts (hashT st) 32) {fs gs : List (List UInt8)} {a b : List UInt8} (h : Hs (.dream ts) h0 fs a) (g : Hs (.dream ts) h0 gs b) (e : a = b) : fs = gs := by
 have h32 : h0.length = 32 := by rw [h0e]; exact Ideal.out_length _ _ _ (by decide)
 induction h generalizing gs b with
 | nil =>
   rcases g.cases_ with ⟨rfl, _⟩ | ⟨gs, a, f, rfl, g2, gf, gm, rfl⟩
   · rfl
   · exfalso
     have e2 := hash_one hf hm gm (h0e.symm.trans e)
     have := congrArg List.length e2
     have := g2.len trivial h32
     rw [List.length_append] at *
     omega
 | @snoc fs a f h1 hf1 hm1 ih =>
   rcases g.cases_ with ⟨rfl, rfl⟩ | ⟨gs, a2, f2, rfl, g2, gf, gm, rfl⟩
   · exfalso
     have e2 := hash_one hf hm1 hm (e.trans h0e)
     have := congrArg List.length e2
     have := h1.len trivial h32
     rw [List.length_append] at *
     omega
   · have e2 := hash_one hf hm1 gm e
     obtain ⟨ea, ef⟩ := List.append_inj e2 (by rw [h1.len trivial h32, g2.len trivial h32])
     rw [ih g2 ea, ef]
end Com
namespace Disk
def full (b : List UInt8) : List UInt8 := b ++ List.replicate (256 - b.length) 0
theorem full_length (b : List UInt8) (h : b.length ≤ 256) : (full b).length = 256 := by rw [full, List.length_append, List.length_replicate]; omega
structure Dk where
 now : List (List UInt8)
 safe : List (List UInt8)
 waits : List (Nat × List UInt8)
 off : Bool
 acts : Nat
 fuse : Nat
 keep : Nat
structure Ok (d : Dk) : Prop where
 safe : d.safe.length = d.now.length
 now : ∀ s ∈ d.now, s.length = 256
 safe2 : ∀ s ∈ d.safe, s.length = 256
 waits : ∀ x ∈ d.waits, x.1 < d.now.length ∧ x.2.length = 256
def new (n : Nat) : Dk := ⟨List.replicate n (full []), List.replicate n (full []), [], false, 0, 0, 0⟩
theorem new_ok (n : Nat) : Ok (new n) := ⟨by simp [new], fun s h => by rw [List.eq_of_mem_replicate h]; exact full_length [] (by decide), fun s h => by rw [List.eq_of_mem_replicate h]; exact full_length [] (by decide), fun x h => by cases h⟩
def kept (keep i : Nat) : Bool := decide (keep / 2 ^ (i % 64) % 2 = 1)
def over (keep : Nat) : Nat → List (Nat × List UInt8) → List (List UInt8) → List (List UInt8)
 | _, [], s => s
 | i, x :: xs, s => over keep (i + 1) xs (if kept keep i then s.set x.1 x.2 else s)
theorem over_length (keep : Nat) : ∀ (xs : List (Nat × List UInt8)) (i : Nat) (s : List (List UInt8)), (over keep i xs s).length = s.length
 | [], _, _ => rfl
 | x :: xs, i, s => by rw [over, over_length keep xs]; split <;> simp
theorem over_snoc (keep : Nat) (y : Nat × List UInt8) : ∀ (xs : List (Nat × List UInt8)) (i : Nat) (s : List (List UInt8)), over keep i (xs ++ [y]) s = if kept keep (i + xs.length) then (over keep i xs s).set y.1 y.2 else over keep i xs s
 | [], i, s => by simp [over]
 | x :: xs, i, s => by
   rw [List.cons_append, over, over, over_snoc keep y xs]
   rw [show i + 1 + xs.length = i + (x :: xs).length by simp; omega]
theorem over_at (keep p : Nat) : ∀ (xs : List (Nat × List UInt8)) (i : Nat) (s : List (List UInt8)) (v : List UInt8), (over keep i xs s)[p]? = some v → s[p]? = some v ∨ (p, v) ∈ xs
 | [], _, _, _, h => .inl h
 | x :: xs, i, s, v, h => by
   rw [over] at h
   rcases over_at keep p xs _ _ _ h with h1 | h1
   · split at h1
     · rw [List.getElem?_set] at h1
       split at h1
       · rename_i he
         split at h1
         · right; rw [← he]; rw [← Option.some.inj h1]; simp
         · cases h1
       · exact .inl h1
     · exact .inl h1
   · exact .inr (List.mem_cons_of_mem _ h1)
theorem over_far (keep p : Nat) : ∀ (xs : List (Nat × List UInt8)) (i : Nat) (s : List (List UInt8)), (∀ x ∈ xs, x.1 ≠ p) → (over keep i xs s)[p]? = s[p]?
 | [], _, _, _ => rfl
 | x :: xs, i, s, h => by
   rw [over, over_far keep p xs _ _ (fun y hy => h y (List.mem_cons_of_mem _ hy))]
   split
   · rw [List.getElem?_set, if_neg (h x (by simp))]
   · rfl
theorem over_mem (keep : Nat) : ∀ (xs : List (Nat × List UInt8)) (i : Nat) (s : List (List UInt8)) (v : List UInt8), v ∈ over keep i xs s → v ∈ s ∨ ∃ x ∈ xs, x.2 = v := fun xs i s v h => by
 obtain ⟨p, hp, rfl⟩ := List.mem_iff_getElem.1 h
 rcases over_at keep p xs i s _ (List.getElem?_eq_getElem hp) with h1 | h1
 · exact .inl (List.mem_of_getElem? h1)
 · exact .inr ⟨_, h1, rfl⟩
def lose (d : Dk) (keep : Nat) : Dk := if d.off then d else ⟨over keep 0 d.waits d.safe, over keep 0 d.waits d.safe, [], true, d.acts, 0, d.keep⟩
theorem lose_off (d : Dk) (keep : Nat) (h : d.off = true) : lose d keep = d := by rw [lose, if_pos h]
theorem lose_on (d : Dk) (keep : Nat) (h : d.off = false) : lose d keep = ⟨over keep 0 d.waits d.safe, over keep 0 d.waits d.safe, [], true, d.acts, 0, d.keep⟩ := by rw [lose, h]; rfl
theorem lose_ok (d : Dk) (keep : Nat) (h : Ok d) : Ok (lose d keep) := by
 cases ho : d.off with
 | true => rw [lose_off d keep ho]; exact h
 | false =>
   rw [lose_on d keep ho]
   have hm : ∀ s ∈ over keep 0 d.waits d.safe, s.length = 256 := fun s hs => by
    rcases over_mem keep _ _ _ _ hs with h1 | ⟨x, hx, rfl⟩
    · exact h.safe2 s h1
    · exact (h.waits x hx).2
   exact ⟨rfl, hm, hm, fun x hx => by cases hx⟩
theorem lose_length (d : Dk) (keep : Nat) (h : Ok d) : (lose d keep).now.length = d.now.length := by
 cases ho : d.off with
 | true => rw [lose_off d keep ho]
 | false => rw [lose_on d keep ho]; simp only [over_length, h.safe]
def act (d : Dk) : Dk × Bool := if d.off then (d, false) else ({ d with acts := d.acts + 1, fuse := d.fuse - 1 }, decide (d.fuse = 1))
structure Errs where
 ok : Int
 down : Int
 arg : Int
 long : Int
def E8 : Errs := ⟨0, 8, 1, 3⟩
def wrote (d : Dk) (i : Nat) (b : List UInt8) : Dk := { d with now := d.now.set i (full b), waits := d.waits ++ [(i, full b)] }
def write (E : Errs) (d : Dk) (i : Int) (b : List UInt8) : Dk × Int :=
 if d.off then (d, E.down) else if i < 0 ∨ (d.now.length : Int) ≤ i then (d, E.arg) else if 256 < b.length then (d, E.long)
 else if (act d).2 then (lose (wrote (act d).1 i.toNat b) d.keep, E.down) else (wrote (act d).1 i.toNat b, E.ok)
def sync (E : Errs) (d : Dk) : Dk × Int :=
 if d.off then (d, E.down) else if (act d).2 then (lose (act d).1 d.keep, E.down) else ({ (act d).1 with safe := d.now, waits := [] }, E.ok)
def arm (d : Dk) (n : Int) (keep : Nat) : Dk := { d with fuse := n.toNat, keep := keep }
def on (d : Dk) : Dk := { d with off := false }
theorem act_off (d : Dk) (h : d.off = true) : act d = (d, false) := by rw [act, if_pos h]
theorem act_on (d : Dk) (h : d.off = false) : act d = ({ d with acts := d.acts + 1, fuse := d.fuse - 1 }, decide (d.fuse = 1)) := by rw [act, h]; rfl
theorem act_ok (d : Dk) (h : Ok d) : Ok (act d).1 := by
 cases ho : d.off with
 | true => rw [act_off d ho]; exact h
 | false => rw [act_on d ho]; exact ⟨h.safe, h.now, h.safe2, h.waits⟩
theorem set_all {l : List (List UInt8)} {i : Nat} {s : List UInt8} (h : ∀ x ∈ l, x.length = 256) (hs : s.length = 256) : ∀ x ∈ l.set i s, x.length = 256 := fun x hx => by
 rcases List.mem_or_eq_of_mem_set hx with h1 | h1
 · exact h x h1
 · rw [h1]; exact hs
theorem wrote_ok (d : Dk) (i : Nat) (b : List UInt8) (h : Ok d) (hi : i < d.now.length) (hb : b.length ≤ 256) : Ok (wrote d i b) := by
 refine ⟨by simp [wrote, h.safe], set_all h.now (full_length b hb), h.safe2, fun x hx => ?_⟩
 simp only [wrote, List.length_set]
 rcases List.mem_append.1 hx with h1 | h1
 · exact h.waits x h1
 · rw [List.mem_singleton.1 h1]; exact ⟨hi, full_length b hb⟩
theorem write_ok (E : Errs) (d : Dk) (i : Int) (b : List UInt8) (h : Ok d) : Ok (write E d i b).1 := by
 unfold write
 split
 · exact h
 · split
   · exact h
   · split
     · exact h
     · rename_i h1 h2 h3
       have hw := wrote_ok (act d).1 i.toNat b (act_ok d h) (by rw [act_on d (by simpa using h1)]; simp only; omega) (by omega)
       split
       · exact lose_ok _ _ hw
       · exact hw
theorem sync_ok (E : Errs) (d : Dk) (h : Ok d) : Ok (sync E d).1 := by
 unfold sync
 split
 · exact h
 · rename_i h1
   split
   · exact lose_ok _ _ (act_ok d h)
   · rw [act_on d (by simpa using h1)]
     exact ⟨rfl, h.now, h.now, fun x hx => by cases hx⟩
theorem lose_is_off (d : Dk) (keep : Nat) : (lose d keep).off = true := by
 cases ho : d.off with
 | true => rw [lose_off d keep ho]; exact ho
 | false => rw [lose_on d keep ho]
def add (m : Nat → List (List UInt8)) (p : Nat) (s : List UInt8) : Nat → List (List UInt8) := fun q => if q = p then m q ++ [s] else m q
open Go Go.RowKit Kit
def numOf (q : Int × (List UInt8 × Bool)) : Int := q.1
theorem numOf_eq (q : Int × (List UInt8 × Bool)) : numOf q = q.1 := rfl
theorem cases_of (q : Int × (List UInt8 × Bool)) (b : List UInt8 × Bool) (l h : Int) : numOf (if q.1 < l ∨ h < q.1 then ((0 : Int), b) else q) = 0 ∨ l ≤ numOf (if q.1 < l ∨ h < q.1 then ((0 : Int), b) else q) ∧ numOf (if q.1 < l ∨ h < q.1 then ((0 : Int), b) else q) ≤ h := by
 split
 · exact .inl rfl
 · rw [numOf_eq]; exact .inr (by omega)
def fnum (s : List UInt8) : Int := numOf (sIn (s, false) 48 16384)
theorem fnum_cases (s : List UInt8) : fnum s = 0 ∨ 48 ≤ fnum s ∧ fnum s ≤ 16384 := cases_of (sNum (s, false)) bust 48 16384
theorem fnum_eq (s : List UInt8) : fnum s = (sIn (s, false) 48 16384).1 := numOf_eq (sIn (s, false) 48 16384)
attribute [irreducible] fnum
def flen (s : List UInt8) : Nat := if (s.length : Int) < fnum s then 0 else (fnum s).toNat
theorem flen_int (s : List UInt8) : (flen s : Int) = if (s.length : Int) < fnum s then 0 else fnum s := by
 unfold flen
 have := fnum_cases s
 split
 · rfl
 · omega
theorem flen_cases (s : List UInt8) : flen s = 0 ∨ 48 ≤ flen s ∧ flen s ≤ 16384 ∧ flen s ≤ s.length := by
 have h1 := fnum_cases s
 have h2 := flen_int s
 split at h2
 · exact .inl (by omega)
 · rcases h1 with h1 | h1
   · exact .inl (by omega)
   · exact .inr (by omega)
theorem flen_le (s : List UInt8) : flen s ≤ s.length := by rcases flen_cases s with h | h <;> omega
structure Ar where
 top : Nat
 pos : Nat
def aHalf (n : Nat) (odd : Bool) : Ar := if odd then ⟨2 * (n / 2), n / 2⟩ else ⟨n / 2, 0⟩
theorem aHalf_ok (n : Nat) (odd : Bool) : (aHalf n odd).pos ≤ (aHalf n odd).top ∧ (aHalf n odd).top ≤ n := by unfold aHalf; split <;> constructor <;> simp <;> omega
def aAdds (d : Dk) (p : Nat) (s : List UInt8) : Dk × Nat × Int :=
 if s.length = 0 then (d, p, 0) else if (write E8 d p (s.take 256)).2 = 0 then aAdds (write E8 d p (s.take 256)).1 (p + 1) (s.drop 256) else ((write E8 d p (s.take 256)).1, p, (write E8 d p (s.take 256)).2)
termination_by s.length
decreasing_by simp only [List.length_drop]; omega
theorem aAdds_nil (d : Dk) (p : Nat) (s : List UInt8) (h : s.length = 0) : aAdds d p s = (d, p, 0) := by rw [aAdds, if_pos h]
theorem aAdds_go (d : Dk) (p : Nat) (s : List UInt8) (h : 0 < s.length) (h2 : (write E8 d p (s.take 256)).2 = 0) : aAdds d p s = aAdds (write E8 d p (s.take 256)).1 (p + 1) (s.drop 256) := by rw [aAdds, if_neg (by omega), if_pos h2]
theorem aAdds_stop (d : Dk) (p : Nat) (s : List UInt8) (h : 0 < s.length) (h2 : (write E8 d p (s.take 256)).2 ≠ 0) : aAdds d p s = ((write E8 d p (s.take 256)).1, p, (write E8 d p (s.take 256)).2) := by rw [aAdds, if_neg (by omega), if_neg h2]
def aAdd (d : Dk) (a : Ar) (s : List UInt8) : Dk × Ar × Int :=
 if s.length = 0 ∨ flen s ≠ s.length then (d, a, 1) else if d.off then (d, a, 8) else if 256 * (a.top - a.pos) < s.length then (d, a, 7)
 else if (aAdds d a.pos s).2.2 = 0 then ((aAdds d a.pos s).1, { a with pos := (aAdds d a.pos s).2.1 }, 0) else ((aAdds d a.pos s).1, a, (aAdds d a.pos s).2.2)
def aLook (ls : List (List UInt8)) (e p : Nat) : Nat → Nat → List UInt8 → Option (Nat × List UInt8)
 | 0, _, _ => none
 | f + 1, i, s => if p + i < e then (if 0 < flen (s ++ ls.getD (p + i) []) then some (i, (s ++ ls.getD (p + i) []).take (flen (s ++ ls.getD (p + i) []))) else aLook ls e p f (i + 1) (s ++ ls.getD (p + i) [])) else none
def aNext (d : Dk) (a : Ar) : Ar × List UInt8 × Int :=
 if d.off then (a, [], 8) else match aLook d.now a.top a.pos 64 0 [] with
  | some x => ({ a with pos := a.pos + x.1 + 1 }, x.2, 0)
  | none => (a, [], 0)
theorem fnum_app (n : Int) (W : List UInt8) (h : 48 ≤ n ∧ n ≤ 16384) : fnum (num8 n ++ W) = n := by
 rw [fnum_eq]
 have e : sNum (num8 n ++ W, false) = (n, (W, false)) := by
  unfold sNum
  rw [sTake_app (num8 n) W 8 (by simp)]
  simp only
  rw [num8_forth n (by omega)]
 unfold sIn
 rw [e]
 simp only
 rw [if_neg (by omega)]
theorem fnum_num (W : List UInt8) (h : 48 ≤ fnum W) : ∃ V, W = num8 (fnum W) ++ V := by
 have h0 := fnum_cases W
 rw [fnum_eq] at *
 unfold sIn at *
 by_cases hc : (sNum (W, false)).1 < 48 ∨ 16384 < (sNum (W, false)).1
 · rw [if_pos hc] at h; exact absurd h (by decide)
 · rw [if_neg hc] at h ⊢
   by_cases hl : 8 ≤ W.length
   · refine ⟨W.drop 8, ?_⟩
     have e : sTake (W, false) 8 = ((W.take 8, true), (W.drop 8, false)) := by
      have := sTake_app (W.take 8) (W.drop 8) 8 (by simp; omega)
      rwa [List.take_append_drop] at this
     unfold sNum at h ⊢
     rw [e] at h ⊢
     simp only at h ⊢
     rw [num8_back (W.take 8) (by simp; omega), List.take_append_drop]
   · exfalso
     unfold sNum at h
     rw [sTake_no (W, false) 8 (.inl (by simp; omega))] at h
     have e : wrap64 (lowN ([] : List UInt8) : Nat) = 0 := by simp [lowN, wrap64]
     change (48 : Int) ≤ wrap64 (lowN ([] : List UInt8) : Nat) at h
     omega
theorem fnum_more (a W : List UInt8) (h : 8 ≤ a.length) : fnum (a ++ W) = fnum a := by
 rw [fnum_eq, fnum_eq]
 have e : ∀ X : List UInt8, (sNum (a ++ X, false)).1 = wrap64 (lowN (a.take 8) : Nat) := fun X => by
  unfold sNum
  have := sTake_app (a.take 8) (a.drop 8 ++ X) 8 (by simp; omega)
  rw [← List.append_assoc, List.take_append_drop] at this
  rw [this]
 have e0 := e W
 have e1 := e []
 rw [List.append_nil] at e1
 unfold sIn
 rw [e0, e1]
 split
 · rfl
 · rw [e0, e1]
theorem flen_part (s : List UInt8) (k : Nat) (hs : flen s = s.length) (h1 : 8 ≤ k) (h2 : k < s.length) : flen (s.take k) = 0 := by
 have e := fnum_more (s.take k) (s.drop k) (by simp; omega)
 rw [List.take_append_drop] at e
 have h := flen_int s
 rw [hs] at h
 unfold flen
 rw [← e, if_pos]
 split at h
 · omega
 · rw [← h]; simp; omega
theorem flen_app (s W : List UInt8) (hs : flen s = s.length) (h : 8 ≤ s.length) : flen (s ++ W) = s.length := by
 have h0 := flen_int s
 rw [hs] at h0
 unfold flen
 rw [fnum_more s W h]
 split at h0
 · omega
 · rw [if_neg (by simp; omega)]; omega
theorem flen_48 (s : List UInt8) (hs : flen s = s.length) (h : s.length ≠ 0) : 48 ≤ s.length ∧ s.length ≤ 16384 := by
 rcases flen_cases s with h1 | h1 <;> omega
def secs (s : List UInt8) : List (List UInt8) := if s.length = 0 then [] else full (s.take 256) :: secs (s.drop 256)
termination_by s.length
decreasing_by simp only [List.length_drop]; omega
theorem secs_nil (s : List UInt8) (h : s.length = 0) : secs s = [] := by rw [secs, if_pos h]
theorem secs_go (s : List UInt8) (h : 0 < s.length) : secs s = full (s.take 256) :: secs (s.drop 256) := by rw [secs, if_neg (by omega)]
theorem secs_length (n : Nat) : ∀ s : List UInt8, s.length = n → (secs s).length = (s.length + 255) / 256 := by
 induction n using Nat.strongRecOn with
 | ind n ih =>
   intro s hs
   by_cases h : s.length = 0
   · rw [secs_nil s h, h]; rfl
   · rw [secs_go s (by omega), List.length_cons, ih (s.drop 256).length (by simp; omega) (s.drop 256) rfl, List.length_drop]
     omega
theorem secs_len (s : List UInt8) : (secs s).length = (s.length + 255) / 256 := secs_length _ s rfl
theorem secs_take (n : Nat) : ∀ s : List UInt8, s.length = n → ∀ k, 256 * k ≤ s.length → ((secs s).take k).flatten = s.take (256 * k) := by
 induction n using Nat.strongRecOn with
 | ind n ih =>
   intro s hs k hk
   cases k with
   | zero => simp
   | succ k =>
     rw [secs_go s (by omega), List.take_succ_cons, List.flatten_cons, ih (s.drop 256).length (by simp; omega) (s.drop 256) rfl k (by simp; omega)]
     have hf : full (s.take 256) = s.take 256 := by unfold full; simp; omega
     rw [hf, show 256 * (k + 1) = 256 + 256 * k by omega, List.take_add]
theorem secs_all (n : Nat) : ∀ s : List UInt8, s.length = n → ∃ z, (secs s).flatten = s ++ z := by
 induction n using Nat.strongRecOn with
 | ind n ih =>
   intro s hs
   by_cases h : s.length = 0
   · exact ⟨[], by rw [secs_nil s h, List.length_eq_zero_iff.1 h]; rfl⟩
   · obtain ⟨z, hz⟩ := ih (s.drop 256).length (by simp; omega) (s.drop 256) rfl
     rw [secs_go s (by omega), List.flatten_cons, hz]
     by_cases h2 : 256 ≤ s.length
     · refine ⟨z, ?_⟩
       have hf : full (s.take 256) = s.take 256 := by unfold full; simp; omega
       rw [hf, ← List.append_assoc, List.take_append_drop]
     · refine ⟨List.replicate (256 - s.length) 0 ++ z, ?_⟩
       rw [List.take_of_length_le (by omega), List.drop_of_length_le (by omega), full]
       simp
def At (ls : List (List UInt8)) (p : Nat) (xs : List (List UInt8)) : Prop := ∀ i, i < xs.length → ls[p + i]? = xs[i]?
theorem At.ext {ls l2 : List (List UInt8)} {p : Nat} {xs : List (List UInt8)} (h : At ls p xs) (e : ∀ i, p ≤ i → i < p + xs.length → l2[i]? = ls[i]?) : At l2 p xs :=
 fun i hi => by rw [e _ (by omega) (by omega)]; exact h i hi
theorem look_yes (ls : List (List UInt8)) (e p : Nat) (s : List UInt8) (hs : flen s = s.length) (h0 : s.length ≠ 0) (hA : At ls p (secs s)) (he : p + (secs s).length ≤ e) :
    aLook ls e p 64 0 [] = some ((secs s).length - 1, s) := by
 have h48 := flen_48 s hs h0
 have hn := secs_len s
 have go : ∀ f i : Nat, i < (secs s).length → (secs s).length ≤ f + i → aLook ls e p f i (s.take (256 * i)) = some ((secs s).length - 1, s) := by
  intro f
  induction f with
  | zero => intro i h1 h2; omega
  | succ f ih =>
    intro i h1 h2
    rw [aLook, if_pos (by omega)]
    have hat : ls.getD (p + i) [] = (secs s)[i] := by rw [List.getD_eq_getElem?_getD, hA i h1, List.getElem?_eq_getElem h1]; rfl
    rw [hat]
    have hpre : ((secs s).take i).flatten = s.take (256 * i) := secs_take _ s rfl i (by omega)
    have hj : s.take (256 * i) ++ (secs s)[i] = ((secs s).take (i + 1)).flatten := by
     rw [List.take_succ_eq_append_getElem h1, List.flatten_append, hpre]; simp
    rw [hj]
    by_cases hl : i + 1 = (secs s).length
    · obtain ⟨z, hz⟩ := secs_all _ s rfl
      rw [hl, List.take_length, hz, flen_app s z hs (by omega), if_pos (by omega), show i = (secs s).length - 1 by omega]
      simp
    · rw [secs_take _ s rfl (i + 1) (by omega), flen_part s (256 * (i + 1)) hs (by omega) (by omega), if_neg (by omega)]
      exact ih (i + 1) (by omega) (by omega)
 have := go 64 0 (by omega) (by omega)
 simpa using this
theorem next_yes (d : Dk) (a : Ar) (s : List UInt8) (ho : d.off = false) (hs : flen s = s.length) (h0 : s.length ≠ 0) (hA : At d.now a.pos (secs s)) (he : a.pos + (secs s).length ≤ a.top) :
    aNext d a = ({ a with pos := a.pos + (secs s).length }, s, 0) := by
 have hn := secs_len s
 unfold aNext
 rw [if_neg (by simp [ho]), look_yes d.now a.top a.pos s hs h0 hA he]
 simp only
 rw [show a.pos + ((secs s).length - 1) + 1 = a.pos + (secs s).length by omega]
theorem fnum_zero (n : Nat) : fnum (List.replicate n 0) = 0 := by
 rcases fnum_cases (List.replicate n 0) with h | h
 · exact h
 · exfalso
   obtain ⟨V, hV⟩ := fnum_num _ h.1
   have e := num8_forth (fnum (List.replicate n (0 : UInt8))) (by omega)
   have hall : ∀ x ∈ num8 (fnum (List.replicate n (0 : UInt8))), x = 0 := fun x hx => by
    have : x ∈ List.replicate n (0 : UInt8) := by rw [hV]; exact List.mem_append_left _ hx
    exact List.eq_of_mem_replicate this
   have hr : num8 (fnum (List.replicate n (0 : UInt8))) = List.replicate 8 0 := List.eq_replicate_iff.2 ⟨by simp, hall⟩
   rw [hr] at e
   have e0 : wrap64 (lowN (List.replicate 8 (0 : UInt8)) : Nat) = 0 := by simp [List.replicate, lowN, wrap64]
   omega
theorem flen_zero (n : Nat) : flen (List.replicate n 0) = 0 := by
 unfold flen; rw [fnum_zero]; split <;> rfl
structure Put (d : Dk) (p : Nat) (xs : List (List UInt8)) (d2 : Dk) : Prop where
 off : d2.off = false
 fuse : d2.fuse = 0
 acts : d2.acts = d.acts + xs.length
 size : d2.now.length = d.now.length
 there : At d2.now p xs
 else_ : ∀ i, i < p ∨ p + xs.length ≤ i → d2.now[i]? = d.now[i]?
 safe : d2.safe = d.safe
 waits : ∀ x ∈ d2.waits, x ∈ d.waits ∨ p ≤ x.1 ∧ x.1 < p + xs.length
theorem write_one_ (d : Dk) (p : Nat) (b : List UInt8) (ho : d.off = false) (hf : d.fuse = 0) (hp : p < d.now.length) (hb : b.length ≤ 256) :
    write E8 d p b = (wrote { d with acts := d.acts + 1, fuse := 0 } p b, 0) := by
 unfold write
 rw [if_neg (by simp [ho]), if_neg (by omega), if_neg (by omega), act_on d ho, hf]
 rfl
theorem adds_yes (n : Nat) : ∀ (s : List UInt8) (d : Dk) (p : Nat), s.length = n → d.off = false → d.fuse = 0 → p + (secs s).length ≤ d.now.length →
    ∃ d2, aAdds d p s = (d2, p + (secs s).length, 0) ∧ Put d p (secs s) d2 := by
 induction n using Nat.strongRecOn with
 | ind n ih =>
   intro s d p hs ho hf hp
   by_cases h : s.length = 0
   · rw [aAdds_nil d p s h, secs_nil s h]
     exact ⟨d, rfl, ho, hf, rfl, rfl, fun i hi => by simp at hi, fun _ _ => rfl, rfl, fun x hx => .inl hx⟩
   · have hgo := secs_go s (by omega)
     have hlen : (secs s).length = (secs (s.drop 256)).length + 1 := by rw [hgo]; simp
     have hw := write_one_ d p (s.take 256) ho hf (by omega) (by simp; omega)
     rw [aAdds_go d p s (by omega) (by rw [hw]), hw]
     obtain ⟨d2, e2, P⟩ := ih (s.drop 256).length (by simp; omega) (s.drop 256) (wrote { d with acts := d.acts + 1, fuse := 0 } p (s.take 256)) (p + 1) rfl ho rfl (by simp only [wrote, List.length_set]; omega)
     refine ⟨d2, by rw [e2, hlen, show p + 1 + (secs (s.drop 256)).length = p + ((secs (s.drop 256)).length + 1) by omega], ?_⟩
     refine ⟨P.off, P.fuse, ?_, ?_, ?_, ?_, P.safe, ?_⟩
     · rw [P.acts, hlen]; simp only [wrote]; omega
     · rw [P.size]; simp only [wrote, List.length_set]
     · intro i hi
       cases i with
       | zero =>
         rw [P.else_ (p + 0) (.inl (by omega))]
         simp only [wrote, Nat.add_zero]
         rw [List.getElem?_set_self (by omega), hgo]
         rfl
       | succ i =>
         rw [show p + (i + 1) = p + 1 + i by omega, P.there i (by omega), hgo]
         rfl
     · intro i hi
       rw [P.else_ i (by omega)]
       simp only [wrote]
       rw [List.getElem?_set_ne (by omega)]
     · intro x hx
       rcases P.waits x hx with h1 | h1
       · simp only [wrote] at h1
         rcases List.mem_append.1 h1 with h2 | h2
         · exact .inl h2
         · rw [List.mem_singleton.1 h2]; exact .inr ⟨by simp, by simp; omega⟩
       · exact .inr ⟨by omega, by omega⟩
theorem add_yes (d : Dk) (a : Ar) (s : List UInt8) (hs : flen s = s.length) (h0 : s.length ≠ 0) (ho : d.off = false) (hf : d.fuse = 0) (ha : a.pos + (secs s).length ≤ a.top) (ht : a.top ≤ d.now.length) :
    ∃ d2, aAdd d a s = (d2, { a with pos := a.pos + (secs s).length }, 0) ∧ Put d a.pos (secs s) d2 := by
 obtain ⟨d2, e2, P⟩ := adds_yes s.length s d a.pos rfl ho hf (by omega)
 have hn := secs_len s
 refine ⟨d2, ?_, P⟩
 unfold aAdd
 rw [if_neg (by simp [hs]; intro h; exact h0 (by rw [h]; rfl)), if_neg (by simp [ho]), if_neg (by omega), e2]
 simp
inductive Fr (ls : List (List UInt8)) : Nat → List (List UInt8) → Nat → Prop where
 | nil (p : Nat) : Fr ls p [] p
 | cons {p q : Nat} {s : List UInt8} {fs : List (List UInt8)} (hs : flen s = s.length) (h0 : s.length ≠ 0) (hA : At ls p (secs s)) (h : Fr ls (p + (secs s).length) fs q) : Fr ls p (s :: fs) q
theorem Fr.le {ls : List (List UInt8)} {p q : Nat} {fs : List (List UInt8)} (h : Fr ls p fs q) : p ≤ q := by
 induction h with
 | nil => exact Nat.le_refl _
 | cons _ _ _ _ ih => omega
theorem Fr.ext {ls l2 : List (List UInt8)} {p q : Nat} {fs : List (List UInt8)} (h : Fr ls p fs q) (e : ∀ i, p ≤ i → i < q → l2[i]? = ls[i]?) : Fr l2 p fs q := by
 induction h with
 | nil p => exact .nil p
 | cons hs h0 hA h ih =>
   have hle := h.le
   exact .cons hs h0 (hA.ext fun i h1 h2 => e i h1 (by omega)) (ih fun i h1 h2 => e i (by omega) h2)
theorem sync_yes (d : Dk) (ho : d.off = false) (hf : d.fuse = 0) : sync E8 d = ({ d with acts := d.acts + 1, fuse := 0, safe := d.now, waits := [] }, 0) := by
 unfold sync
 rw [if_neg (by simp [ho]), act_on d ho, hf]
 rfl
theorem read_on {d : Dk} {p q top : Nat} {s : List UInt8} {fs : List (List UInt8)} (ho : d.off = false) (h : Fr d.now p (s :: fs) q) (hq : q ≤ top) :
    aNext d ⟨top, p⟩ = (⟨top, p + (secs s).length⟩, s, 0) ∧ Fr d.now (p + (secs s).length) fs q := by
 cases h with
 | cons hs h0 hA h =>
   have := h.le
   exact ⟨next_yes d ⟨top, p⟩ s ho hs h0 hA (by show p + (secs s).length ≤ top; omega), h⟩
end Disk
namespace Meter
open Go Disk
structure Mt where
 count : Nat
 epoch : Int
 root : List UInt8
 most : Nat
def z32 : List UInt8 := List.replicate 32 0
theorem z32_length : z32.length = 32 := List.length_replicate
def lim (n : Int) : Nat := min n.toNat 1099511627776
theorem lim_le (n : Int) : lim n ≤ 1099511627776 := Nat.min_le_right _ _
def fresh (n : Int) : Mt := ⟨0, 0, z32, lim n⟩
structure Mk (t : Mt) : Prop where
 root : t.root.length = 32
 le : t.count ≤ t.most
 most : t.most ≤ 1099511627776
theorem fresh_ok (n : Int) : Mk (fresh n) := ⟨z32_length, Nat.zero_le _, lim_le n⟩
def Mt.on (t : Mt) (e : Int) (r : List UInt8) : Mt := ⟨t.count + 1, e, r, t.most⟩
theorem Mk.on {t : Mt} (h : Mk t) (e : Int) (r : List UInt8) (hr : r.length = 32) (hc : t.count < t.most) : Mk (t.on e r) := ⟨hr, hc, h.most⟩
def why (t : Mt) (off : Bool) (e : Int) : Int := if off then 8 else if e < t.epoch then 1 else if t.most ≤ t.count then 10 else 0
theorem why_off (t : Mt) (e : Int) : why t true e = 8 := rfl
theorem why_arg (t : Mt) (e : Int) (h : e < t.epoch) : why t false e = 1 := by rw [why, if_neg (by decide), if_pos h]
theorem why_spent (t : Mt) (e : Int) (h : ¬ e < t.epoch) (h2 : t.most ≤ t.count) : why t false e = 10 := by rw [why, if_neg (by decide), if_neg h, if_pos h2]
theorem why_no (t : Mt) (e : Int) (h : ¬ e < t.epoch) (h2 : ¬ t.most ≤ t.count) : why t false e = 0 := by rw [why, if_neg (by decide), if_neg h, if_neg h2]
theorem why_0 {t : Mt} {off : Bool} {e : Int} (h : why t off e = 0) : off = false ∧ ¬ e < t.epoch ∧ ¬ t.most ≤ t.count := by
 unfold why at h
 cases off with
 | true => simp at h
 | false =>
   rw [if_neg (by decide)] at h
   split at h
   · cases h
   · split at h
     · cases h
     · exact ⟨rfl, by assumption, by assumption⟩
def high (k : Nat) : Bool := decide (9223372036854775808 ≤ k)
def nxt (t : Mt) (D : Dk) (e : Int) (r : List UInt8) : Mt × Dk × Int :=
 if why t D.off e = 0 then (if (act D).2 then (if high D.keep then t.on e r else t, lose (act D).1 D.keep, 8) else (t.on e r, (act D).1, 0)) else (t, D, why t D.off e)
theorem nxt_no {t : Mt} {D : Dk} {e : Int} {r : List UInt8} (h : why t D.off e ≠ 0) : nxt t D e r = (t, D, why t D.off e) := by rw [nxt, if_neg h]
theorem nxt_on {t : Mt} {D : Dk} {e : Int} {r : List UInt8} (h : why t D.off e = 0) (ha : (act D).2 = false) : nxt t D e r = (t.on e r, (act D).1, 0) := by rw [nxt, if_pos h, ha]; rfl
theorem nxt_hi {t : Mt} {D : Dk} {e : Int} {r : List UInt8} (h : why t D.off e = 0) (ha : (act D).2 = true) (hk : high D.keep = true) : nxt t D e r = (t.on e r, lose (act D).1 D.keep, 8) := by rw [nxt, if_pos h, ha, hk]; rfl
theorem nxt_lo {t : Mt} {D : Dk} {e : Int} {r : List UInt8} (h : why t D.off e = 0) (ha : (act D).2 = true) (hk : high D.keep = false) : nxt t D e r = (t, lose (act D).1 D.keep, 8) := by rw [nxt, if_pos h, ha, hk]; rfl
end Meter
namespace Com
open Go Go.RowKit Kit
open Disk
structure Held (d : Dk) (R : Nat → Prop) (ls : List (List UInt8)) : Prop where
 now : ∀ i, R i → d.now[i]? = ls[i]?
 safe : ∀ i, R i → d.safe[i]? = ls[i]?
 waits : ∀ x ∈ d.waits, ¬ R x.1
theorem Held.less {d : Dk} {R S : Nat → Prop} {ls : List (List UInt8)} (h : Held d R ls) (hs : ∀ i, S i → R i) : Held d S ls :=
 ⟨fun i e => h.now i (hs i e), fun i e => h.safe i (hs i e), fun x hx e => h.waits x hx (hs _ e)⟩
theorem Held.lose {d : Dk} {R : Nat → Prop} {ls : List (List UInt8)} (h : Held d R ls) (keep : Nat) : Held (Disk.lose d keep) R ls := by
 cases ho : d.off with
 | true => rw [lose_off d keep ho]; exact h
 | false =>
   rw [lose_on d keep ho]
   have hm : ∀ i, R i → (over keep 0 d.waits d.safe)[i]? = ls[i]? := fun i e => by
    rw [over_far keep i _ _ _ (fun x hx hi => h.waits x hx (hi ▸ e))]; exact h.safe i e
   exact ⟨hm, hm, fun x hx => by cases hx⟩
theorem Held.act {d : Dk} {R : Nat → Prop} {ls : List (List UInt8)} (h : Held d R ls) : Held (Disk.act d).1 R ls := by
 cases ho : d.off with
 | true => rw [act_off d ho]; exact h
 | false => rw [act_on d ho]; exact ⟨h.now, h.safe, h.waits⟩
theorem Held.on {d : Dk} {R : Nat → Prop} {ls : List (List UInt8)} (h : Held d R ls) : Held (Disk.on d) R ls := ⟨h.now, h.safe, h.waits⟩
theorem Held.arm {d : Dk} {R : Nat → Prop} {ls : List (List UInt8)} (h : Held d R ls) (n : Int) (keep : Nat) : Held (Disk.arm d n keep) R ls := ⟨h.now, h.safe, h.waits⟩
theorem Held.wrote {d : Dk} {R : Nat → Prop} {ls : List (List UInt8)} (h : Held d R ls) (i : Nat) (b : List UInt8) (hi : ¬ R i) : Held (Disk.wrote d i b) R ls := by
 refine ⟨fun k e => ?_, h.safe, fun x hx => ?_⟩
 · simp only [Disk.wrote]
   rw [List.getElem?_set_ne (by intro e2; subst e2; exact hi e)]
   exact h.now k e
 · simp only [Disk.wrote] at hx
   rcases List.mem_append.1 hx with hx | hx
   · exact h.waits x hx
   · rw [List.mem_singleton.1 hx]; exact hi
theorem Held.write {d : Dk} {R : Nat → Prop} {ls : List (List UInt8)} (h : Held d R ls) (i : Nat) (b : List UInt8) (hi : ¬ R i) : Held (Disk.write E8 d i b).1 R ls := by
 unfold Disk.write
 split
 · exact h
 · split
   · exact h
   · split
     · exact h
     · rw [Int.toNat_natCast]
       split
       · exact (h.act.wrote i b hi).lose _
       · exact h.act.wrote i b hi
theorem Held.sync {d : Dk} {R : Nat → Prop} {ls : List (List UInt8)} (h : Held d R ls) : Held (Disk.sync E8 d).1 R ls := by
 unfold Disk.sync
 split
 · exact h
 · split
   · exact h.act.lose _
   · exact ⟨h.act.now, h.now, fun x hx => by cases hx⟩
theorem Held.nxt {d : Dk} {R : Nat → Prop} {ls : List (List UInt8)} (h : Held d R ls) (t : Meter.Mt) (e : Int) (r : List UInt8) : Held (Meter.nxt t d e r).2.1 R ls := by
 unfold Meter.nxt
 split
 · split
   · exact h.act.lose _
   · exact h.act
 · exact h
theorem Held.adds {R : Nat → Prop} {ls : List (List UInt8)} (n : Nat) : ∀ (s : List UInt8) (d : Dk) (p : Nat), s.length = n → Held d R ls → (∀ i, p ≤ i → i < p + (secs s).length → ¬ R i) → Held (aAdds d p s).1 R ls := by
 induction n using Nat.strongRecOn with
 | ind n ih =>
   intro s d p hs h hR
   by_cases h0 : s.length = 0
   · rw [aAdds_nil d p s h0]; exact h
   · have hlen : (secs s).length = (secs (s.drop 256)).length + 1 := by rw [secs_go s (by omega)]; simp
     have hw := h.write p (s.take 256) (hR p (Nat.le_refl _) (by omega))
     by_cases h2 : (Disk.write E8 d p (s.take 256)).2 = 0
     · rw [aAdds_go d p s (by omega) h2]
       exact ih (s.drop 256).length (by simp; omega) (s.drop 256) _ (p + 1) rfl hw (fun i h3 h4 => hR i (by omega) (by omega))
     · rw [aAdds_stop d p s (by omega) h2]; exact hw
theorem Held.add {R : Nat → Prop} {ls : List (List UInt8)} {d : Dk} (h : Held d R ls) (a : Ar) (s : List UInt8) (hp : a.pos ≤ a.top) (hR : ∀ i, a.pos ≤ i → i < a.top → ¬ R i) : Held (aAdd d a s).1 R ls := by
 unfold aAdd
 have hn := secs_len s
 split
 · exact h
 · split
   · exact h
   · split
     · exact h
     · have h1 := h.adds s.length s d a.pos rfl (fun i h1 h2 => hR i h1 (by omega))
       split
       · exact h1
       · exact h1
theorem held_synced (d : Dk) (hw : d.waits = []) (hs : d.safe = d.now) : Held d (fun _ => True) d.now :=
 ⟨fun _ _ => rfl, fun _ _ => by rw [hs], fun x hx => by rw [hw] at hx; cases hx⟩
structure PutF (d : Dk) (p : Nat) (xs : List (List UInt8)) (d2 : Dk) : Prop where
 off : d2.off = false
 size : d2.now.length = d.now.length
 keep : d2.keep = d.keep
 there : At d2.now p xs
 else_ : ∀ i, i < p ∨ p + xs.length ≤ i → d2.now[i]? = d.now[i]?
theorem adds_any (n : Nat) : ∀ (s : List UInt8) (d : Dk) (p : Nat), s.length = n → d.off = false → p + (secs s).length ≤ d.now.length →
    (∃ d2, aAdds d p s = (d2, p + (secs s).length, 0) ∧ PutF d p (secs s) d2) ∨ ∃ d2 q, aAdds d p s = (d2, q, 8) ∧ d2.off = true := by
 induction n using Nat.strongRecOn with
 | ind n ih =>
   intro s d p hs ho hp
   by_cases h : s.length = 0
   · refine .inl ⟨d, ?_, ho, rfl, rfl, ?_, fun _ _ => rfl⟩
     · rw [aAdds_nil d p s h, secs_nil s h]; rfl
     · rw [secs_nil s h]; intro i hi; simp at hi
   · have hgo := secs_go s (by omega)
     have hlen : (secs s).length = (secs (s.drop 256)).length + 1 := by rw [hgo]; simp
     have hw : write E8 d p (s.take 256) = if (act d).2 then (lose (wrote (act d).1 p (s.take 256)) d.keep, 8) else (wrote (act d).1 p (s.take 256), 0) := by
      unfold write
      rw [if_neg (by simp [ho]), if_neg (by omega), if_neg (by simp; omega), Int.toNat_natCast]
      rfl
     cases ha : (act d).2 with
     | true =>
       rw [ha, if_pos rfl] at hw
       refine .inr ⟨_, p, by rw [aAdds_stop d p s (by omega) (by rw [hw]; exact (by decide : (8 : Int) ≠ 0)), hw], lose_is_off _ _⟩
     | false =>
       rw [ha, if_neg (by decide)] at hw
       rw [aAdds_go d p s (by omega) (by rw [hw]), hw]
       have hd : (act d).1 = { d with acts := d.acts + 1, fuse := d.fuse - 1 } := by rw [act_on d ho]
       rcases ih (s.drop 256).length (by simp; omega) (s.drop 256) (wrote (act d).1 p (s.take 256)) (p + 1) rfl (by rw [hd]; exact ho) (by rw [hd]; simp only [wrote, List.length_set]; omega) with ⟨d2, e2, P⟩ | ⟨d2, q, e2, P⟩
       · refine .inl ⟨d2, by rw [e2, hlen, show p + 1 + (secs (s.drop 256)).length = p + ((secs (s.drop 256)).length + 1) by omega], P.off, ?_, ?_, ?_, ?_⟩
         · rw [P.size, hd]; simp only [wrote, List.length_set]
         · rw [P.keep, hd]; rfl
         · intro i hi
           cases i with
           | zero =>
             rw [P.else_ (p + 0) (.inl (by omega)), hd]
             simp only [wrote, Nat.add_zero]
             rw [List.getElem?_set_self (by omega), hgo]
             rfl
           | succ i =>
             rw [show p + (i + 1) = p + 1 + i by omega, P.there i (by omega), hgo]
             rfl
         · intro i hi
           rw [P.else_ i (by omega), hd]
           simp only [wrote]
           rw [List.getElem?_set_ne (by omega)]
       · exact .inr ⟨d2, q, e2, P⟩
theorem add_any (d : Dk) (a : Ar) (s : List UInt8) (hs : flen s = s.length) (h0 : s.length ≠ 0) (ho : d.off = false) (ha : a.pos + (secs s).length ≤ a.top) (ht : a.top ≤ d.now.length) :
    (∃ d2, aAdd d a s = (d2, { a with pos := a.pos + (secs s).length }, 0) ∧ PutF d a.pos (secs s) d2) ∨ ∃ d2, aAdd d a s = (d2, a, 8) ∧ d2.off = true := by
 have hn := secs_len s
 unfold aAdd
 rw [if_neg (by simp [hs]; intro h; exact h0 (by rw [h]; rfl)), if_neg (by simp [ho]), if_neg (by omega)]
 rcases adds_any s.length s d a.pos rfl ho (by omega) with ⟨d2, e2, P⟩ | ⟨d2, q, e2, P⟩
 · rw [e2]; exact .inl ⟨d2, by simp, P⟩
 · rw [e2]; exact .inr ⟨d2, by simp, P⟩
theorem sync_any (d : Dk) (ho : d.off = false) : (∃ d2, sync E8 d = (d2, 0) ∧ d2.off = false ∧ d2.now = d.now ∧ d2.safe = d.now ∧ d2.waits = [] ∧ d2.keep = d.keep) ∨ ∃ d2, sync E8 d = (d2, 8) ∧ d2.off = true := by
 unfold sync
 rw [if_neg (by simp [ho])]
 cases ha : (act d).2 with
 | true => rw [if_pos rfl]; exact .inr ⟨_, rfl, lose_is_off _ _⟩
 | false =>
   rw [if_neg (by decide), act_on d ho]
   exact .inl ⟨_, rfl, ho, rfl, rfl, rfl, rfl⟩
theorem next_any_ (t : Meter.Mt) (d : Dk) (e : Int) (r : List UInt8) (ho : d.off = false) (he : t.epoch ≤ e) (hc : t.count < t.most) (hw : d.waits = []) (hs : d.safe = d.now) :
    ∃ t2 d2 z, Meter.nxt t d e r = (t2, d2, z) ∧ d2.now = d.now ∧ d2.safe = d.now ∧ d2.waits = [] ∧ (z = 0 ∧ t2 = t.on e r ∧ d2.off = false ∨ z = 8 ∧ (t2 = t.on e r ∨ t2 = t) ∧ d2.off = true) := by
 have hy : Meter.why t d.off e = 0 := by rw [ho]; exact Meter.why_no t e (by omega) (by omega)
 have hd : (act d).1 = { d with acts := d.acts + 1, fuse := d.fuse - 1 } := by rw [act_on d ho]
 have hl : ∀ k, lose (act d).1 k = ⟨d.now, d.now, [], true, d.acts + 1, 0, d.keep⟩ := fun k => by
  rw [hd, lose_on _ k (show ({ d with acts := d.acts + 1, fuse := d.fuse - 1 } : Dk).off = false from ho)]; simp only [hw, hs, over]
 cases ha : (act d).2 with
 | false =>
   refine ⟨_, _, _, Meter.nxt_on hy ha, ?_, ?_, ?_, .inl ⟨rfl, rfl, ?_⟩⟩
   all_goals (rw [hd]; try (first | exact hs | exact hw | exact ho))
 | true =>
   cases hk : Meter.high d.keep with
   | true => exact ⟨_, _, _, Meter.nxt_hi hy ha hk, by rw [hl], by rw [hl], by rw [hl], .inr ⟨rfl, .inl rfl, by rw [hl]⟩⟩
   | false => exact ⟨_, _, _, Meter.nxt_lo hy ha hk, by rw [hl], by rw [hl], by rw [hl], .inr ⟨rfl, .inr rfl, by rw [hl]⟩⟩
end Com
namespace Disk
open Go Go.RowKit Kit
theorem flen_def (s : List UInt8) : flen s = if (s.length : Int) < fnum s then 0 else (fnum s).toNat := rfl
attribute [local irreducible] flen
end Disk
end Go.Proofs.YtigdlnfgdjfdoaaGreat
