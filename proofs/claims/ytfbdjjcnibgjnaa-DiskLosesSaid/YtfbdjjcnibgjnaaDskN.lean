/- Two disks to which the same is done, and one that is left alone. -/
import Derived.Test.YtfbdjjcnibgjnaaDskM
import Derived.Test.YtfbdjjcnibgjnaaRegM
namespace Go.Proofs.Ytfbdjjcnibgjnaa.Disk
set_option linter.unusedVariables false
set_option linter.unusedSimpArgs false
open Go Go.RowKit Kit

/-- A disk's place. -/
structure Pd where
  g : Nat
  N : Nat
  S : Nat
  W : Option Addr
  c : Nat
def Pd.F (p : Pd) : Nat → Prop := dF p.g p.N p.S p.W
def Pd.v (p : Pd) : Value := .pointer (some ⟨p.g, 0, none⟩)
def Pd.is (p : Pd) (w : World) (D : Dk) : Prop := Cd w p.g p.N p.S p.W p.c D
/-- Three disks, apart, in blocks that are new since w. -/
structure Tw (w wr : World) (a b s : Pd) (Da Db Ds : Dk) : Prop where
  da : a.is wr Da
  db : b.is wr Db
  ds : s.is wr Ds
  ab : ∀ k, a.F k → ¬ b.F k
  as_ : ∀ k, a.F k → ¬ s.F k
  bs : ∀ k, b.F k → ¬ s.F k
  fa : ∀ k, a.F k → w.heap.size ≤ k
  fb : ∀ k, b.F k → w.heap.size ≤ k
  fs : ∀ k, s.F k → w.heap.size ≤ k
  k : Kp nob w wr
theorem Tw.keep0 {w wr w2 : World} {a b s : Pd} {Da Db Ds : Dk} (h : Tw w wr a b s Da Db Ds) (k : Kp nob wr w2) : Tw w w2 a b s Da Db Ds :=
  ⟨h.da.keep0 k, h.db.keep0 k, h.ds.keep0 k, h.ab, h.as_, h.bs, h.fa, h.fb, h.fs, h.k.trans k (fun _ e => e.elim)⟩
theorem Tw.swap {w wr : World} {a b s : Pd} {Da Db Ds : Dk} (h : Tw w wr a b s Da Db Ds) : Tw w wr b a s Db Da Ds :=
  ⟨h.db, h.da, h.ds, fun k e e2 => h.ab k e2 e, h.bs, h.as_, h.fb, h.fa, h.fs, h.k⟩
/-- Something is done to the first. -/
theorem Tw.turn {w wr w2 : World} {a b s : Pd} {Da Db Ds D2 : Dk} (h : Tw w wr a b s Da Db Ds) (hz : Dz wr a.g a.N a.S a.W D2 w2) : ∃ W2 c2, Tw w w2 ⟨a.g, a.N, a.S, W2, c2⟩ b s D2 Db Ds := by
  obtain ⟨W2, c2, h1, h2, h3⟩ := hz
  have hb := h.db.lt; have hs := h.ds.lt
  have hF : ∀ k, Pd.F ⟨a.g, a.N, a.S, W2, c2⟩ k → a.F k ∨ wr.heap.size ≤ k := fun k e => Dz.df (w := wr) (w2 := w2) h3 k e
  refine ⟨W2, c2, h1, h.db.keep h2 (fun k e e2 => h.ab k e2 e), h.ds.keep h2 (fun k e e2 => h.as_ k e2 e), ?_, ?_, h.bs, ?_, h.fb, h.fs, h.k.since h2 h.fa⟩
  · intro k e e2
    rcases hF k e with h4 | h4
    · exact h.ab k h4 e2
    · have := hb k e2; omega
  · intro k e e2
    rcases hF k e with h4 | h4
    · exact h.as_ k h4 e2
    · have := hs k e2; omega
  · intro k e
    rcases hF k e with h4 | h4
    · exact h.fa k h4
    · exact Nat.le_trans h.k.size h4
/-- Something is done to the second. -/
theorem Tw.turn2 {w wr w2 : World} {a b s : Pd} {Da Db Ds D2 : Dk} (h : Tw w wr a b s Da Db Ds) (hz : Dz wr b.g b.N b.S b.W D2 w2) : ∃ W2 c2, Tw w w2 a ⟨b.g, b.N, b.S, W2, c2⟩ s Da D2 Ds := by
  obtain ⟨W2, c2, h2⟩ := h.swap.turn hz
  exact ⟨W2, c2, h2.swap⟩
theorem Tw.first {w w1 w2 w3 w4 : World} {ga Na Sa gb Nb Sb gs Ns Ss : Nat} {D : Dk} (k1 : Kp nob w w1) (ha : Cd w2 ga Na Sa none 0 D) (ka : Kp nob w1 w2) (na : ∀ k, dF ga Na Sa none k → w1.heap.size ≤ k) (hb : Cd w3 gb Nb Sb none 0 D) (kb : Kp nob w2 w3) (nb : ∀ k, dF gb Nb Sb none k → w2.heap.size ≤ k)
    (hs : Cd w4 gs Ns Ss none 0 D) (ks : Kp nob w3 w4) (ns : ∀ k, dF gs Ns Ss none k → w3.heap.size ≤ k) : Tw w w4 ⟨ga, Na, Sa, none, 0⟩ ⟨gb, Nb, Sb, none, 0⟩ ⟨gs, Ns, Ss, none, 0⟩ D D D := by
  have h1 := k1.size; have h2 := ka.size; have h3 := kb.size
  refine ⟨(ha.keep0 kb).keep0 ks, hb.keep0 ks, hs, fun k e e2 => ?_, fun k e e2 => ?_, fun k e e2 => ?_, fun k e => Nat.le_trans h1 (na k e), fun k e => ?_, fun k e => ?_, ((k1.trans ka (fun _ e => e.elim)).trans kb (fun _ e => e.elim)).trans ks (fun _ e => e.elim)⟩
  · have := ha.lt k e; have := nb k e2; omega
  · have := ha.lt k e; have := ns k e2; omega
  · have := hb.lt k e; have := ns k e2; omega
  · have := nb k e; omega
  · have := ns k e; omega
theorem one_z {w w2 : World} {g N S : Nat} {W : Option Addr} {c : Nat} {D2 : Dk} (h : Cd w2 g N S W c D2) (k : Kp (oneB g) w w2) : Dz w g N S W D2 w2 := ⟨W, c, h, k.mono (fun i _ e => .inl e), fun _ e => .inl e⟩
/-- A call's block that is made now lies in none of them. -/
theorem Tw.far {w wr : World} {a b s : Pd} {Da Db Ds : Dk} (h : Tw w wr a b s Da Db Ds) (g : Nat) (hg : wr.heap.size ≤ g) : ¬ a.F g ∧ ¬ b.F g :=
  ⟨fun e => by have := h.da.lt g e; omega, fun e => by have := h.db.lt g e; omega⟩

theorem new_length' (m : Nat) : (new m).now.length = m := List.length_replicate
theorem make_big (n : Nat) (hn : n ≤ 1048576) (w : World) : (Instr.makeSlice 32 (.int .i64 (n : Int)) (.int .i64 (n : Int))).run Try.prog w = .ok (.slice (some ⟨w.heap.size, 0, none⟩) n n) (w.alloc (.cells (bvs (List.replicate n 0)).toArray 5)) := by
  rw [← made_zero]
  exact run_make_row' 32 5 (.int .u8 0) 1 u8s_under u8s_info rfl .i64 .i64 n (by omega) (by omega) w
theorem image_new (m : Nat) : image (new m) = List.replicate (m * 256) 0 := by
  show (List.replicate m z256).flatten = _
  induction m with
  | zero => rw [Nat.zero_mul]; rfl
  | succ m ih => rw [List.replicate_succ, List.flatten_cons, ih, z256, List.replicate_append_replicate, Nat.succ_mul, Nat.add_comm]
/-- What a call of the script leaves of a disk. -/
def stepT (D : Dk) (x : Cc) : Dk :=
  if x.kind = 0 then (write E8 D x.i x.l).1 else if x.kind = 2 then (sync E8 D).1 else if x.kind = 3 then lose D x.K else if x.kind = 4 then on D else if x.kind = 5 then arm D x.i x.K else if x.kind = 6 then (forge E8 D x.i x.l).1 else D
theorem st0 (D : Dk) (x : Cc) (h : x.kind = 0) : stepT D x = (write E8 D x.i x.l).1 := by rw [stepT, if_pos h]
theorem st2 (D : Dk) (x : Cc) (h : x.kind = 2) : stepT D x = (sync E8 D).1 := by rw [stepT, if_neg (by omega), if_pos h]
theorem st3 (D : Dk) (x : Cc) (h : x.kind = 3) : stepT D x = lose D x.K := by rw [stepT, if_neg (by omega), if_neg (by omega), if_pos h]
theorem st4 (D : Dk) (x : Cc) (h : x.kind = 4) : stepT D x = on D := by rw [stepT, if_neg (by omega), if_neg (by omega), if_neg (by omega), if_pos h]
theorem st5 (D : Dk) (x : Cc) (h : x.kind = 5) : stepT D x = arm D x.i x.K := by rw [stepT, if_neg (by omega), if_neg (by omega), if_neg (by omega), if_neg (by omega), if_pos h]
theorem st6 (D : Dk) (x : Cc) (h : x.kind = 6) : stepT D x = (forge E8 D x.i x.l).1 := by rw [stepT, if_neg (by omega), if_neg (by omega), if_neg (by omega), if_neg (by omega), if_neg (by omega), if_pos h]
theorem st7 (D : Dk) (x : Cc) (h : x.kind ≠ 0 ∧ x.kind ≠ 2 ∧ x.kind ≠ 3 ∧ x.kind ≠ 4 ∧ x.kind ≠ 5 ∧ x.kind ≠ 6) : stepT D x = D := by rw [stepT, if_neg h.1, if_neg h.2.1, if_neg h.2.2.1, if_neg h.2.2.2.1, if_neg h.2.2.2.2.1, if_neg h.2.2.2.2.2]

theorem Sm.step {D : Dk} {k m : Nat} {x : Cc} (h : Sm D k m) (hok : Ok D) (hK : x.K < 18446744073709551616) (hi : x.i ≤ 9223372036854775807) : Sm (stepT D x) (k + 1) m := by
  unfold stepT
  split
  · exact h.write hok _ _
  · split
    · exact h.sync hok
    · split
      · exact (h.lose hok _).up
      · split
        · exact ⟨h.up.acts, h.up.waits, h.fuse, h.keep, h.len⟩
        · split
          · exact ⟨h.up.acts, h.up.waits, by show x.i.toNat ≤ _; omega, hK, h.len⟩
          · split
            · exact (h.forge _ _).up
            · exact h.up
end Go.Proofs.Ytfbdjjcnibgjnaa.Disk
