import PyProof.Rows.All
import Wide.All
import OpenK.AllK
import Wide.FinOn
import HandS.ForSpec
import HandS.Comp
import HandS.TryMany
import HandS.Small
import KE.GoesComp
import KE.GoesRaise
import Open.SpecLaws
import KE.OsGo
import KE.KStateDown
import KE.BitLaws
import HandS.Dict
import HandS.Iter
import HandS.More
import HandS.WideBits
import HandS.Defaults
import HandS.Evl
import HandS.Head0
import HandS.Head1
import HandS.Head2
import HandS.Head3
import HandS.Head4
import HandS.HeadHook1
import HandS.HeadHook2
import HandS.HeadHook3
import KE.DataMinMax
import HandS.SortKw
import HandS.Walk
import KE.KEqDeep
import VbemazSpec
import PyVbemaz
import PySem.Challenge.RW_packedreadings_s01_answers
set_option maxRecDepth 100000
/-! The mathematics: the specification's own functions, plain Lean. -/
namespace PR
open Vbemaz
theorem width_log : ∀ (k n : Nat), n < 2 ^ k → Vbemaz.width k n = if n = 0 then 0 else n.log2 + 1
  | 0, n, h => by
    have : n = 0 := by simpa using h
    subst this; rfl
  | k + 1, n, h => by
    unfold Vbemaz.width
    by_cases h0 : n = 0
    · rw [if_pos h0, if_pos h0]
    · rw [if_neg h0, if_neg h0, width_log k (n / 2) (by rw [Nat.pow_succ] at h; omega)]
      rw [Nat.log2_def n]
      by_cases h1 : n / 2 = 0
      · rw [if_pos h1, if_neg (by omega)]
      · rw [if_neg h1, if_pos (by omega)]; omega
theorem fixed_len : ∀ (k n : Nat), (fixed k n).length = k
  | 0, _ => rfl
  | k + 1, n => by unfold fixed; rw [List.length_append, fixed_len k]; rfl
/-- the bits by place -/
theorem fixed_range : ∀ (k n : Nat), fixed k n = (List.range k).map fun i => (n / 2 ^ (k - 1 - i)) % 2 == 1
  | 0, _ => rfl
  | k + 1, n => by
    unfold fixed
    rw [fixed_range k (n / 2), List.range_succ, List.map_append]
    congr 1
    · apply List.map_congr_left
      intro i hi
      have hi : i < k := List.mem_range.mp hi
      have e : k + 1 - 1 - i = (k - 1 - i) + 1 := by omega
      rw [e, Nat.pow_succ, Nat.mul_comm, Nat.div_div_eq_div_mul]
    · simp
theorem digits_log {n : Nat} (h : n < 2 ^ 64) : digits n = if n = 0 then 0 else n.log2 + 1 := width_log 64 n h
theorem digits_pos {n : Nat} (h : n < 2 ^ 64) (h0 : 0 < n) : 0 < digits n := by
  rw [digits_log h, if_neg (by omega)]; omega
theorem digits_le {n k : Nat} (h : n < 2 ^ 64) (hk : n < 2 ^ k) : digits n ≤ k := by
  rw [digits_log h]
  by_cases h0 : n = 0
  · rw [if_pos h0]; omega
  · rw [if_neg h0]
    have := (Nat.log2_lt h0).mpr hk
    omega
theorem zig_le {v : Int} {m : Nat} (h : v.natAbs ≤ m) : zigzag v ≤ 2 * m := by
  unfold zigzag; split <;> omega
theorem zig_int (v : Int) : ((zigzag v : Nat) : Int) = if v < 0 then -2 * v - 1 else 2 * v := by
  unfold zigzag; split <;> omega
theorem valueOf_snoc (l : Bits) (x : Bool) : valueOf (l ++ [x]) = 2 * valueOf l + (if x = true then 1 else 0) := by
  unfold valueOf
  rw [List.foldl_append]
  rfl
/-- the byte of the eight bits from s on -/
def byteAt (b : Bits) (s : Nat) : Nat := valueOf ((List.range 8).map fun k => b.getD (s + k) false)
theorem getD_drop (b : Bits) (s k : Nat) : (b.drop s).getD k false = b.getD (s + k) false := by
  simp [List.getD_eq_getElem?_getD]
theorem take_pad : ∀ (n : Nat) (b : Bits), b.take n ++ List.replicate (n - (b.take n).length) false = (List.range n).map fun k => b.getD k false
  | 0, b => by simp
  | n + 1, [] => by
    apply List.ext_getElem?
    intro i
    by_cases h : i < n + 1 <;> simp [h, List.getElem?_replicate]
  | n + 1, x :: b => by
    have ih := take_pad n b
    rw [List.take_succ_cons, List.cons_append, List.range_succ_eq_map, List.map_cons, List.map_map]
    show x :: _ = x :: _
    congr 1
    rw [List.length_cons, Nat.add_sub_add_right, ih]
    rfl
theorem bytesOf_range : ∀ (k : Nat) (b : Bits), b.length < k → bytesOf k b = (List.range ((b.length + 7) / 8)).map fun i => byteAt b (8 * i)
  | 0, b, h => by omega
  | k + 1, b, h => by
    unfold bytesOf
    cases b with
    | nil => rfl
    | cons x r =>
      rw [if_neg (by simp)]
      have e : ((x :: r).length + 7) / 8 = (((x :: r).drop 8).length + 7) / 8 + 1 := by
        rw [List.length_drop]
        simp only [List.length_cons]
        omega
      rw [bytesOf_range k _ (by rw [List.length_drop]; simp only [List.length_cons] at h ⊢; omega), e, List.range_succ_eq_map, List.map_cons, List.map_map]
      congr 1
      · unfold byteAt
        rw [take_pad]
        simp
      · apply List.map_congr_left
        intro i _
        show byteAt _ _ = byteAt _ (8 * (i + 1))
        unfold byteAt
        congr 1
        apply List.map_congr_left
        intro j _
        rw [getD_drop]
        congr 1
        omega
theorem toBytes_range (b : Bits) : toBytes b = (List.range ((b.length + 7) / 8)).map fun i => byteAt b (8 * i) := bytesOf_range _ b (by omega)
theorem gamma_len {n : Nat} (h : n < 2 ^ 64) : (gamma n).length ≤ 128 := by
  unfold gamma
  have := digits_le h h
  rw [List.length_append, List.length_replicate, fixed_len]
  omega
end PR
set_option Elab.async false
set_option linter.all false
set_option maxRecDepth 100000
set_option maxHeartbeats 4000000
namespace PR
open PySem PySem.Spec PyProof.Rows L2
/-! ### a raise out of a list comprehension, over the hand layer -/
/-- the context of a block whose raises are taken by xe -/
abbrev blkX (X : Cx) (s : Shared) (H : Hp) (sc : Scope) (ce : Env) (fp : List Addr) (xe : Value → Shared → Prop) : Cx := { X.blk s H sc ce fp with xe := xe }
theorem inv_blkX {X : Cx} {s0 s : Shared} {H0 H : Hp} {sc : Scope} {ce : Env} {fp : List Addr} {xe : Value → Shared → Prop} {pn : List (Addr × Obj)} {σ : L2.St} (I : Inv (X.blk s0 H0 sc ce fp) pn σ H s) : Inv (blkX X s0 H0 sc ce fp xe) pn σ H s :=
  ⟨⟨I.ok.mod, I.ok.kind, I.ok.glob, I.ok.blt, I.ok.above, I.ok.inj, I.ok.has, I.ok.cab, I.ok.hd, I.ok.frames, I.ok.stk, I.ok.exf, I.ok.bs, I.ok.bsz, I.ok.noex, I.ok.exfs, I.ok.funs, I.ok.frf⟩,
    I.os, I.bare, I.base, I.loc, I.cell, I.free, I.freeC, I.pin, I.hok, I.len⟩
/-- the exception's record stands where only a dict is changed -/
theorem traced_but {h h' B : Heap} {a C : Addr} {Z : Obj → Prop} {fl : Value} {m : Str → Option Value} (t : HandSPX.TracedZ h B a Z fl) (n : h.Ns C m) (sb : Heap.SameBut C h h') : HandSPX.TracedZ h' (PySem.W.hideAll B [C]) a Z fl := by
  obtain ⟨oe, vs, T, oT, ts, he, hz, hd, h1, hnT, hTe, hT, hdT, h3⟩ := t
  obtain ⟨oC, es, ep, hoC, hdC, _⟩ := n
  have na : a ≠ C := by
    intro z
    rw [z, hoC] at he
    cases he
    rw [hdC] at hd
    cases hd
  have nT : T ≠ C := by
    intro z
    rw [z, hoC] at hT
    cases hT
    rw [hdC] at hdT
    cases hdT
  refine ⟨oe, vs, T, oT, ts, (sb.2 a na).trans he, hz, hd, h1, ?_, hTe, (sb.2 T nT).trans hT, hdT, h3⟩
  cases q : (PySem.W.hideAll B [C]).get? T with
  | none => rfl
  | some o =>
    rw [PySem.W.of_hideAll _ q] at hnT
    cases hnT
section
variable {X : Cx} {W : WX}
/-- what is raised by a call within the block leaves it -/
theorem leaves_block {pins : List (Addr × Obj)} {σ : L2.St} {H : Hp} {s s' : Shared} {u : Value} {ce : Env} {m : Str → Option Value} (hs : X.stack = X.env :: X.outer) (hf : X.env.frame = some X.env.locals) (tk : L2.Takes X W)
    (hcf : ce.frame = X.env.frame) (I : Inv X pins σ H s) (n : s.heap.Ns ce.locals m) (fo : FpOk X pins H ce.locals) (nf : ce.locals ∉ frs X.stack)
    (c : L2.CX X.prog X.w X.stack H s (fun cls d H' => W cls d σ H') u s') : notedBy (model X.prog X.w) X.A ce (fun e s2 => CompFails (model X.prog X.w) X.A X.xe ce e s2) u s' := by
  obtain ⟨a0, B0, H0, cls0, d0, rfl, fl0, hok0, ub0, na0, os0, ag0, w0⟩ := c
  obtain ⟨oC, es, ep, hoC, hdC, hrC⟩ := id n
  have hC0 : B0.get? ce.locals = some oC := ub0.keep _ _ hoC fo.1 nf
  have n1 : s'.heap.Ns ce.locals m := ⟨oC, es, ep, fl0.1 _ _ hC0, hdC, hrC⟩
  have x := XE.of_call (W := fun cls d σ H => W cls d σ H ∧ H ce.locals = none) (E := fun cls d H' => W cls d σ H' ∧ H' ce.locals = none) I (fun _ _ _ h => h)
    ⟨a0, B0, H0, cls0, d0, rfl, fl0, hok0, ub0, na0, os0, ag0, w0, ub0.free _ _ hoC fo.1⟩
  clear fl0 hok0 ub0 na0 os0 ag0 w0 hC0
  obtain ⟨a, B, sI, pn, σ1, H1, cls, d, e, J, nb, up, sky, na, os, ag, w, wC⟩ := x
  cases e
  have hfr : X.A.frames = some (X.env :: X.outer) := by rw [I.ok.frames, hs]
  rw [hs] at sky
  have fin : ∀ h3, HandSPX.HeldZ B (X.env :: X.outer) a0 (Zc cls d) X.env.locals h3 → s'.heap.UpToSlots h3 → CompFails (model X.prog X.w) X.A X.xe ce (.ref a0) { s' with heap := h3 } := by
    intro h3 hh up3
    refine ⟨m, n1.upToSlots up3, fun h4 m4 n4 sb => ?_⟩
    have n3 : h3.Ns ce.locals m := n1.upToSlots up3
    have hh4 : HandSPX.HeldZ (PySem.W.hideAll B [ce.locals]) (X.env :: X.outer) a0 (Zc cls d) X.env.locals h4 := by
      obtain ⟨k1, k2, k3, k4⟩ := hh
      refine ⟨fun b o q => ?_, ?_, ?_, traced_but k4 n3 sb⟩
      · have hb : b ≠ ce.locals := by
          intro z
          rw [z, PySem.W.hideAll_none _ (List.mem_singleton.mpr rfl)] at q
          cases q
        exact (sb.2 b hb).trans (k1 b o (PySem.W.of_hideAll _ q))
      · cases q : (PySem.W.hideAll B [ce.locals]).get? a0 with
        | none => rfl
        | some o =>
          rw [PySem.W.of_hideAll _ q] at k2
          cases k2
      · refine funFrames_none (Heap.FunFrames.sameBut sb n4 k3) fun L hL => ?_
        cases q : (PySem.W.hideAll B [ce.locals]).get? L with
        | none => rfl
        | some o =>
          have z := (k3.mem hL).1
          rw [PySem.W.of_hideAll _ q] at z
          cases z
    have last : ∀ h5, HandSPX.HeldZ (PySem.W.hideAll B [ce.locals]) (X.env :: X.outer) a0 (Zc cls d) X.env.locals h5 → h4.UpToSlots h5 → X.xe (.ref a0) { s' with heap := h5 } := by
      intro h5 hh5 up5
      have gone : ∀ b, b ≠ ce.locals → b ∉ [ce.locals] := fun b hb z => hb (List.mem_singleton.mp z)
      have J1 : Inv X [] σ1 H1 sI := (show Inv X ([] ++ pn) σ1 H1 sI from J).unpinned
      have J2 : Inv X [] σ1 H1 { sI with heap := PySem.W.hideAll sI.heap [ce.locals], toks := sI.toks } :=
        J1.turned (it := ce.locals) (fun b o hb q => PySem.W.hideAll_get _ q (gone b hb)) wC fo.2.1 fo.2.2.2.1 fo.2.2.2.2.1 (fun p hp => fo.2.2.2.2.2 p (by
          rw [List.append_nil] at hp
          exact List.mem_append_left _ hp))
      have notC : ∀ b o, (PySem.W.hideAll sI.heap [ce.locals]).get? b = some o → b ≠ ce.locals ∧ sI.heap.get? b = some o := by
        intro b o q
        refine ⟨fun z => ?_, PySem.W.of_hideAll _ q⟩
        rw [z, PySem.W.hideAll_none _ (List.mem_singleton.mpr rfl)] at q
        cases q
      refine tk _ _ ⟨a0, PySem.W.hideAll B [ce.locals], { sI with heap := PySem.W.hideAll sI.heap [ce.locals], toks := sI.toks }, [], σ1, H1, cls, d, rfl, J2, fun b o q hb => ?_, fun b o q hd => ?_, .inr (.inr (by rw [hs]; exact hh5)), na, os, ag, w⟩
      · obtain ⟨q1, q2⟩ := notC b o q
        exact PySem.W.hideAll_get _ (nb b o q2 hb) (gone b q1)
      · obtain ⟨q1, q2⟩ := notC b o q
        obtain ⟨sl1, e1⟩ := up b o q2 hd
        obtain ⟨sl2, e2⟩ := up3 b _ e1 hd
        obtain ⟨sl3, e3⟩ := up5 b _ ((sb.2 b q1).trans e2) hd
        exact ⟨sl3, e3⟩
    obtain ⟨k1, k2, k3, oe, vs, T, oT, ts, he, hz, hd, h1, hr⟩ := id hh4
    unfold PySem.passOn
    refine wpAny_bind (wpAny_field he hd h1 ?_)
    rw [if_neg (show ¬ ((Value.ref T == Value.none) = true) from by simp), hcf, hf]
    have go : wpAny (model X.prog X.w) X.A (setFlight (.ref a0) (some X.env.locals)) (fun _ s5 => wpAny (model X.prog X.w) X.A (throw (.ref a0) : Sem Value) (fun _ _ => False) X.xe s5) X.xe { s' with heap := h4 } :=
      HandSPX.setFlight_onZ hh4 fun h5 hh5 up5 => wpAny_throw (last h5 hh5 up5)
    first
      | exact wpAny_bind (wpAny_pure (wpAny_bind go))
      | exact wpAny_bind go
  show wpAny (model X.prog X.w) X.A (noteFrame (.ref a0) ce) _ _ s'
  rw [noteFrame_env _ hcf]
  rcases sky with ⟨b1, b2, b3, oe, vs, he, hz, hd, h1⟩ | fl | hh
  · exact HandSPX.look_newZ Zc.steady hfr b3 hf he b1 b2 hd h1 hz fin
  · exact HandSPX.looks_onZ Zc.steady hfr hf fl fin
  · exact HandSPX.againZ hf hh.2.2.2 (fin s'.heap hh (Heap.UpToSlots.refl _))
end
/-! ### the rule -/
/-- [elt for tg in iter], elt may raise: what is raised is wished for at the slots around -/
def tLcX (W : WX) (wi : TI) (g : TG) (te : XK → TE) (vs : List Nat) : TE := fun σ H Q => tLc wi g tYes (te fun cls d H' => W cls d σ H') vs σ H Q
section
variable {X : Cx} {W : WX}
theorem lcX_core {pins : List (Addr × Obj)} {s : Shared} {σ : L2.St} {H : Hp} {Q : VK} {elt tg iter : Expr} {scope : Scope} {own : List (Str × Nat)} {pos pos' : Pos} {wi : TI} {g : TG} {te : XK → TE} {use : Option (Value → Sem Unit)} {Qf : Value → Shared → Prop}
    (hs : X.stack = X.env :: X.outer) (hf : X.env.frame = some X.env.locals) (hc : X.calm = true) (hN : X.N.Nodup) (tk : L2.Takes X W) (I : Inv X pins σ H s) (hi : PI X tg iter wi) (ok : BlkOk X.N X.env.scope scope own)
    (hg : ∀ (s : Shared) (H : Hp) (C : Addr) (cl : List (Str × Addr)) (fp : List Addr) (xe : Value → Shared → Prop), PG (blkX X s H scope (compEnvC scope cl C X.env) fp xe) tg g)
    (he : ∀ (E : XK) (s : Shared) (H : Hp) (C : Addr) (cl : List (Str × Addr)) (fp : List Addr) (xe : Value → Shared → Prop), Passes (L2.CX X.prog X.w) (blkX X s H scope (compEnvC scope cl C X.env) fp xe) E → PE (blkX X s H scope (compEnvC scope cl C X.env) fp xe) elt (te E))
    (hsf : ∀ x, foldedSetIterable iter X.env x = pure x) (h : tLcX W wi g te (own.map (·.2)) σ H Q)
    (hR : ∀ D ce s' m H', Inv X pins σ H' s' → Q (.ref D) H' → s'.heap.Ns ce.locals m → FpOk X pins H' ce.locals → compEnds (model X.prog X.w) X.A X.xe use Qf (.ref D) ce (.ok .next) s') :
    wpAny (model X.prog X.w) X.A (comprehension (.ListComp elt [⟨tg, iter, [], 0⟩] scope pos) scope X.env pos' (newList []) false (eval iter X.env) use) Qf X.xe s := by
  have hfree : ∀ y ∈ scope.names, y.2 = .free → ∃ c, X.env.cells.lookup y.1 = some c := by
    intro y hy e
    rcases ok.free y hy e with k | k
    · exact I.ok.has _ (.inl k)
    · exact I.ok.has _ (.inr k)
  refine comprehension_at (use := use) rfl hsf (closure_ok hfree) ok.kind (fun y hy e => by rw [ok.uniq y hy, e]) (thn (hi.run pins s σ H _ I h) fun xv s1 hx => thn hx fun itv s2 h2 => ?_)
  obtain ⟨it, fp, tn, J, H2, rfl, I2, T, st2, f2, q⟩ := h2
  refine wpAny_newObj_type (newEnv_comp ?_) (show 0 ≤ sizeLine by decide)
  obtain ⟨D, hD⟩ : ∃ D, s2.heap.objs.size = D := ⟨_, rfl⟩
  rw [hD]
  obtain ⟨Wv, ⟨m0, w0⟩, turn⟩ := q D (I2.hok.fresh (Nat.le_of_eq hD))
  obtain ⟨s3, hs3⟩ : ∃ s3 : Shared, ({ s2 with heap := s2.heap.push { cls := .type "list", data := .seq ([] : List Value).toArray } } : Shared) = s3 := ⟨_, rfl⟩
  have hp3 : s3.heap = s2.heap.push { cls := .type "list", data := .seq ([] : List Value).toArray } := by rw [← hs3]
  have I3 : Inv X pins σ (upd H2 D (.lst [])) s3 := by
    rw [← hs3]
    refine I2.laid (t' := s2.toks) (fun b o e => Heap.get?_push_of_some _ e) (Nat.le_of_eq hD) ⟨Nat.zero_le _, [], 0, .nil, ?_⟩
    rw [← hD]
    exact Heap.get?_push_size _ rfl
  have f3 : ∀ b ∈ fp, FpOk X pins (upd H2 D (.lst [])) b ∧ b < s3.heap.objs.size := by
    intro b hb
    obtain ⟨o, e, _⟩ := T.obj _ _ st2 b hb
    have hlt := Heap.lt_size e
    refine ⟨⟨?_, (f2 b hb).2⟩, by rw [hp3, Heap.size_push]; exact Nat.lt_succ_of_lt hlt⟩
    rw [upd_ne (by rw [← hD]; exact Nat.ne_of_lt hlt)]
    exact (f2 b hb).1
  have st3 : tn 0 s3.heap := T.keep _ _ _ st2 fun b _ o e => by rw [hp3]; exact Heap.get?_push_of_some _ e
  have I4 := block_start I3 ok hN f3
  have pg := hg s3 (upd H2 D (.lst [])) s3.heap.objs.size (cellsFrom (s3.heap.objs.size + 1) scope.names (cloFrom X.env.cells scope.names [])) fp
  have pe := fun E => he E s3 (upd H2 D (.lst [])) s3.heap.objs.size (cellsFrom (s3.heap.objs.size + 1) scope.names (cloFrom X.env.cells scope.names [])) fp
  obtain ⟨H3, hH3⟩ : ∃ H3, upd H2 D (.lst []) = H3 := ⟨_, rfl⟩
  obtain ⟨ce, hce⟩ : ∃ ce, compEnvC scope (cellsFrom (s3.heap.objs.size + 1) scope.names (cloFrom X.env.cells scope.names [])) s3.heap.objs.size X.env = ce := ⟨_, rfl⟩
  have cL : ce.locals = s3.heap.objs.size := by rw [← hce]; rfl
  have cF : ce.frame = X.env.frame := by rw [← hce]; rfl
  rw [hs3]
  show codeAny _ _ (.compStart (.ListComp elt [⟨tg, iter, [], 0⟩] scope pos) 0 (.ref it) (.ref D) (compEnvC scope (cellsFrom (s3.heap.objs.size + 1) scope.names (cloFrom X.env.cells scope.names [])) s3.heap.objs.size X.env)) (compEnds (model X.prog X.w) X.A X.xe use Qf (.ref D) (compEnvC scope (cellsFrom (s3.heap.objs.size + 1) scope.names (cloFrom X.env.cells scope.names [])) s3.heap.objs.size X.env)) { s3 with heap := pushCells (s3.heap.push { cls := .type "dict", data := .dict #[] }) scope.names }
  rw [hce] at I4 pg pe ⊢
  rw [hH3] at I3 I4 pg pe w0 f3
  obtain ⟨s4, hs4⟩ : ∃ s4 : Shared, ({ s3 with heap := pushCells (s3.heap.push { cls := .type "dict", data := .dict #[] }) scope.names } : Shared) = s4 := ⟨_, rfl⟩
  rw [hs4] at I4 ⊢
  have st4 : tn 0 s4.heap := T.keep _ _ _ st3 fun b _ o e => by rw [← hs4]; exact pushCells_keeps _ _ _ _ (Heap.get?_push_of_some _ e)
  -- what is raised in the block
  obtain ⟨xe, hxe⟩ : ∃ xe : Value → Shared → Prop, xe = notedBy (model X.prog X.w) X.A ce (fun e s2 => CompFails (model X.prog X.w) X.A X.xe ce e s2) := ⟨_, rfl⟩
  have toX : ∀ {pn : List (Addr × Obj)} {σ' : L2.St} {H' : Hp} {s' : Shared}, Inv (blkX X s3 H3 scope ce fp xe) pn σ' H' s' → Inv X pins σ H' s' := fun {pn σ' H' s'} J' =>
    I3.call' (ch := fp) J'.os J'.base J'.hok J'.bare fun b hb => ⟨(f3 b hb).1.2.2.2.1, (f3 b hb).1.2.1, (f3 b hb).1.2.2.2.2.1, (f3 b hb).1.2.2.2.2.2⟩
  have cOk : ∀ {pn : List (Addr × Obj)} {σ' : L2.St} {H' : Hp} {s' : Shared}, Inv (blkX X s3 H3 scope ce fp xe) pn σ' H' s' → FpOk X pins H' ce.locals := fun {pn σ' H' s'} J' =>
    I3.fpOk (by rw [cL]; exact Nat.le_refl _) J'.free
  have cN : ce.locals ∉ frs X.stack := by
    intro hm
    obtain ⟨_, o, ho, _⟩ := I3.stack.mem hm
    have := Heap.lt_size ho
    rw [cL] at this
    exact Nat.lt_irrefl _ this
  have pass : Passes (L2.CX X.prog X.w) (blkX X s3 H3 scope ce fp xe) (fun cls d H' => W cls d σ H') := by
    intro pn σ' H' s' e s'' J' cx
    show xe e s''
    rw [hxe]
    obtain ⟨m, n, _⟩ := J'.loc
    exact leaves_block hs hf tk cF (toX J') n (cOk J') cN cx
  have pe := pe _ xe pass
  have pg := pg xe
  have I4 : Inv (blkX X s3 H3 scope ce fp xe) [] (wipe σ (own.map (·.2))) H3 s4 := inv_blkX I4
  have stat : ∀ {σ' : L2.St} {H' : Hp} {s' : Shared}, Inv (blkX X s3 H3 scope ce fp xe) [] σ' H' s' → (∀ b ∈ fp, H' b = none) → ∀ b ∈ fp, FpOk (blkX X s3 H3 scope ce fp xe) [] H' b := fun {σ' H' s'} J' hn b hb =>
    ⟨hn b hb, (J'.ok.exf b hb).1, J'.ok.exfs b hb, .inl hb, fun x c e => (J'.ok.exf b hb).2 x c e, fun p hp => absurd (show p ∈ ([] : List (Addr × Obj)) ++ [] from hp) (by simp)⟩
  have loop : codeAny (model X.prog X.w) X.A (.compLoop (.ListComp elt [⟨tg, iter, [], 0⟩] scope pos) 0 (.ref it) (.ref D) ce) (compEnds (model X.prog X.w) X.A X.xe use Qf (.ref D) ce) s4 := by
    have hE : (notedBy (model X.prog X.w) X.A ce fun e s' => compEnds (model X.prog X.w) X.A X.xe use Qf (.ref D) ce (.error e) s') = xe := by
      rw [hxe]
      cases use <;> rfl
    refine compLoop_any (fun n s' => ∃ i H', Inv (blkX X s3 H3 scope ce fp xe) [] (wipe σ (own.map (·.2))) H' s' ∧ tn i s'.heap ∧ (∀ b ∈ fp, H' b = none) ∧ Wv i n H') ?_ m0 ⟨0, H3, I4, st4, fun b hb => (f3 b hb).1.1, w0⟩
    rw [hE]
    rintro n s5 ⟨i, H5, I5, st5, n5, w5⟩
    rcases turn i n H5 w5 with ⟨stop, qq⟩ | ⟨go, Nx, hNx, step⟩
    · refine thn (T.done (blkX X s3 H3 scope ce fp xe) rfl rfl rfl hc i [] s5 _ H5 xe I5 (stat I5 n5) st5 stop) fun r s6 ⟨hr, I6⟩ => ?_
      subst hr
      obtain ⟨m, n, _⟩ := I6.loc
      exact hR D ce s6 m H5 (toX I6) qq n (cOk I6)
    · refine thn (T.item (blkX X s3 H3 scope ce fp xe) rfl rfl rfl hc i [] s5 _ H5 xe I5 (stat I5 n5) st5 go) fun r s6 ⟨u, hr, h6⟩ => ?_
      subst hr
      refine thn h6 fun _ s7 ⟨x, H7, I7, r7, y7, st7, n7⟩ => ?_
      have I7' := I7.pinned (stat I7 n7) (T.obj _ _ st7)
      refine thn (pg.run _ s7 _ H7 x u _ I7' r7 (step x H7 y7)) fun _ s8 ⟨σ8, H8, I8, hw8, q8⟩ => ?_
      refine wpAny_tests_nil ?_
      rw [if_pos rfl]
      refine thn (pe.run _ s8 σ8 H8 _ I8 q8) fun z s9 ⟨yv, H9, I9, r9, acc, hD9, hz9, nx⟩ => ?_
      refine app_ok (X := blkX X s3 H3 scope ce fp xe) I9 hD9 hz9 r9 fun s' I' => ?_
      obtain ⟨m', hm, w'⟩ := hNx _ nx
      have pin' : ∀ b ∈ fp, ∀ o, s7.heap.get? b = some o → s'.heap.get? b = some o ∧ (upd H9 D (.lst (acc ++ [yv]))) b = none := by
        intro b hb o e
        have z := I'.pin (b, o) (List.mem_append_right _ (List.mem_append_right _ (mem_pinsAt hb e)))
        exact ⟨z.1, z.2.1⟩
      refine ⟨m', hm, i + 1, _, (I'.unpinned (pins := [])).weak (by rw [← hw8, wipe_length]) (fun j v e => ?_), T.keep _ _ _ st7 fun b hb o e => (pin' b hb o e).1, fun b hb => ?_, w'⟩
      · rw [← hw8] at e
        exact (wipe_some e).1
      · obtain ⟨o, e, _⟩ := T.obj _ _ st7 b hb
        exact (pin' b hb o e).2
  refine codeAny_compStart_list loop ?_
  exact T.self X.A 0 _ _ _ st4 loop
theorem pe_lcX {elt tg iter : Expr} {scope : Scope} {own : List (Str × Nat)} {pos : Pos} {wi : TI} {g : TG} {te : XK → TE}
    (hs : X.stack = X.env :: X.outer) (hf : X.env.frame = some X.env.locals) (hc : X.calm = true) (hN : X.N.Nodup) (tk : L2.Takes X W) (hi : PI X tg iter wi) (ok : BlkOk X.N X.env.scope scope own)
    (hg : ∀ (s : Shared) (H : Hp) (C : Addr) (cl : List (Str × Addr)) (fp : List Addr) (xe : Value → Shared → Prop), PG (blkX X s H scope (compEnvC scope cl C X.env) fp xe) tg g)
    (he : ∀ (E : XK) (s : Shared) (H : Hp) (C : Addr) (cl : List (Str × Addr)) (fp : List Addr) (xe : Value → Shared → Prop), Passes (L2.CX X.prog X.w) (blkX X s H scope (compEnvC scope cl C X.env) fp xe) E → PE (blkX X s H scope (compEnvC scope cl C X.env) fp xe) elt (te E))
    (hsf : ∀ x, foldedSetIterable iter X.env x = pure x := by intro _; rfl) : PE X (.ListComp elt [⟨tg, iter, [], 0⟩] scope pos) (tLcX W wi g te (own.map (·.2))) := by
  refine ⟨fun pins s σ H Q I h => ?_⟩
  rw [eval_ListComp]
  refine lcX_core hs hf hc hN tk I hi ok hg he hsf h fun D ce s' m H' I' q hn f => ⟨m, hn, fun h2 sb => ?_⟩
  exact ⟨.ref D, H', I'.turned (t' := s'.toks) (fun b o hb e => (sb.2 b hb).trans e) f.1 f.2.1 f.2.2.2.1 f.2.2.2.2.1 f.2.2.2.2.2, rfl, q⟩
theorem ps_setLcX {i : Nat} {y : Str} {py : Pos} {elt tg iter : Expr} {scope : Scope} {own : List (Str × Nat)} {pos spos : Pos} {wi : TI} {g : TG} {te : XK → TE}
    (hs : X.stack = X.env :: X.outer) (hf : X.env.frame = some X.env.locals) (hc : X.calm = true) (hN : X.N.Nodup) (hy : X.N[i]? = some y) (hyl : X.env.scope.names.lookup y = some .local)
    (hsw : swapsWith (.ListComp elt [⟨tg, iter, [], 0⟩] scope pos) (some (.Name y py)) spos.line X.env = pure true) (tk : L2.Takes X W) (hi : PI X tg iter wi) (ok : BlkOk X.N X.env.scope scope own)
    (hg : ∀ (s : Shared) (H : Hp) (C : Addr) (cl : List (Str × Addr)) (fp : List Addr) (xe : Value → Shared → Prop), PG (blkX X s H scope (compEnvC scope cl C X.env) fp xe) tg g)
    (he : ∀ (E : XK) (s : Shared) (H : Hp) (C : Addr) (cl : List (Str × Addr)) (fp : List Addr) (xe : Value → Shared → Prop), Passes (L2.CX X.prog X.w) (blkX X s H scope (compEnvC scope cl C X.env) fp xe) E → PE (blkX X s H scope (compEnvC scope cl C X.env) fp xe) elt (te E))
    (hsf : ∀ x, foldedSetIterable iter X.env x = pure x := by intro _; rfl) : PS X (.Assign [.Name y py] (.ListComp elt [⟨tg, iter, [], 0⟩] scope pos) spos) (tAsg (tLcX W wi g te (own.map (·.2))) (gName i)) := by
  refine ⟨fun pins s σ H D I h => ?_⟩
  rw [exec_Assign_Name_used _ _ _ _ hsw]
  refine wpAny_bind (wpAny_standAt (wpAny_bind ?_))
  show wpAny _ X.A (do let _ ← comprehension (.ListComp elt [⟨tg, iter, [], 0⟩] scope pos) scope X.env (firstIterPos [⟨tg, iter, [], 0⟩] pos) (newList []) false (eval iter X.env) (some (assign (.Name y py) X.env))) _ _ s
  have h : tLcX W wi g te (own.map (·.2)) σ H (fun x H1 => gName i x σ H1 D.nx) := h
  refine wpAny_bind (thn (lcX_core (Qf := fun _ s' => SP X pins D .next s') hs hf hc hN tk I hi ok hg he hsf h fun L ce s' m H' I' q hn f => ?_) fun _ s' hq => wpAny_pure (wpAny_pure hq))
  show wpAny _ _ (assign (.Name y py) X.env (.ref L)) _ _ _
  refine wpAny_assign_Name (store_ok2 (v := V.ref L) I' hN hy (.inl hyl) rfl (fun s2 I2 ⟨a, sb, ha⟩ => ?_) (.inr hyl))
  have hne : ce.locals ≠ a := by
    rcases ha with z | z
    · rw [z]
      exact f.2.1
    · exact fun e => f.2.2.2.2.1 y a z e.symm
  refine ⟨m, hn.sameBut sb hne, fun h3 sb3 => ?_⟩
  exact ⟨_, H', I2.turned (t' := s2.toks) (fun b o hb e => (sb3.2 b hb).trans e) f.1 f.2.1 f.2.2.2.1 f.2.2.2.2.1 f.2.2.2.2.2, q⟩
/-- X(), X an own exception class without own __init__ -/
theorem pmk_own0 {C : Addr} {bmB : List Value} {B newId initId : String} {x : Str} {p pos : Pos} (F : ExcBaseFacts B newId initId bmB) (q : PySem.W.excIn X.K C bmB newId = true) (gC : X.mg x = some (.ref C))
    (kC : PySem.W.keepIn X.K (.ref C) = true) (r : Raises X (.ref C)) (hg : Gl X x) (hdb : (x == ("__debug__" : Str)) = false := by decide) : PMk X (.Call (.Name x p) [] [] pos) (fun _ H Q => Q (.ref C) none H) := by
  intro pins s σ H Q I h
  refine wpAny_Call_Name_kw (ld_glob I hg gC ?_ hdb)
  refine PySem.W.callWith_K0 I.kIn kC ?_
  show wpAny _ _ (call (.ref C) []) _ _ _
  obtain ⟨bm, N, nm, qn, bs, hdct, sn, sub, ab, col, dd, k0, k1, k2, k3, k5, mN, hC, hN, hni, T⟩ := exc_obj I.kIn q
  refine wpAny_call_exc_subT F T hC hN hni (fun h' e hm => ?_) (by show 0 ≤ sizeLine; decide)
  exact mk_of I hm r h (I.hok.gone hm.new)
end
def exBase : List Value := [.type "Exception", .type "BaseException", .type "object"]
end PR
set_option Elab.async false
set_option linter.all false
set_option maxRecDepth 100000
set_option maxHeartbeats 4000000
namespace PR
open PySem PySem.Spec PyProof.Rows L2 Evl
/-- a def of the top keeps its promise, and is found by its name -/
def Def (P : Program) (w : World) (K : PySem.W.Frag) (mg : Str → Option Value) (base : Heap) (x : Str) (k : Nat) (ps : List Str) (sp : Sp) : Prop :=
  ∃ fd, FnOk P w K mg base CX0 k (He.ga K x) fd ps sp ∧ Binds K fd ps [] ∧ PySem.W.keepIn K (.ref (He.ga K x)) = true ∧ mg x = some (.ref (He.ga K x))
def DefM (P : Program) (w : World) (K : PySem.W.Frag) (mg : Str → Option Value) (base : Heap) (C m : Str) (k : Nat) (ps : List Str) (sp : Sp) : Prop :=
  ∃ fd, FnOk P w K mg base CX0 k (He.ma K (He.ga K C) m) fd ps sp ∧ Binds K fd ps []
/-- the same of a def that may raise -/
def DefX (P : Program) (w : World) (K : PySem.W.Frag) (mg : Str → Option Value) (base : Heap) (x : Str) (k : Nat) (ps : List Str) (sp : Sp) : Prop :=
  ∃ fd, FnOk P w K mg base (L2.CX P w) k (He.ga K x) fd ps sp ∧ Binds K fd ps [] ∧ PySem.W.keepIn K (.ref (He.ga K x)) = true ∧ mg x = some (.ref (He.ga K x))
def DefMX (P : Program) (w : World) (K : PySem.W.Frag) (mg : Str → Option Value) (base : Heap) (C m : Str) (k : Nat) (ps : List Str) (sp : Sp) : Prop :=
  ∃ fd, FnOk P w K mg base (L2.CX P w) k (He.ma K (He.ga K C) m) fd ps sp ∧ Binds K fd ps []
section
variable {X : Cx} {K : PySem.W.Frag}
theorem ix_listK (e : X.K = K) : IxR X (rIxL K) := e ▸ ix_list
theorem ix_tupK (e : X.K = K) : IxR X (rIxT K) := e ▸ ix_tup
theorem sl_listK (e : X.K = K) : SlR X (rSlL K) := e ▸ sl_list
theorem call_lenK (e : X.K = K) : CallR X (.builtin "len") (fun xs H Q => ∃ p ys, xs = [V.ref p] ∧ (SqL K H p ys ∨ SqT K H p ys) ∧ Q (V.int ys.length) H) := e ▸ call_len_seq
theorem op_in_seqK (e : X.K = K) : OpR X (compareOp .In) (rIn K false) := e ▸ op_in_seq
theorem op_notIn_seqK (e : X.K = K) : OpR X (compareOp .NotIn) (rIn K true) := e ▸ op_notIn_seq
theorem cr_sumK (e : X.K = K) (hc : X.calm = true) : CallR X (.builtin "sum") (rSum K) := e ▸ cr_sum hc
theorem cr_minK (e : X.K = K) (hc : X.calm = true) : CallR X (.builtin "min") (rMin K) := e ▸ cr_min hc
theorem cr_maxK (e : X.K = K) (hc : X.calm = true) : CallR X (.builtin "max") (rMax K) := e ▸ cr_max hc
theorem cr_allK (e : X.K = K) (hc : X.calm = true) : CallR X (.builtin "all") (rAll K) := e ▸ cr_all hc
theorem cr_anyK (e : X.K = K) (hc : X.calm = true) : CallR X (.builtin "any") (rAny K) := e ▸ cr_any hc
theorem mt_indexK (e : X.K = K) : MtR X "list.index" (rIndex K) := e ▸ mt_index
theorem pe_fldK {e : Expr} {f : Str} {pos : Pos} {ta : TE} (hK : X.K = K) (he : PE X e ta) (hb : attributeBase e f X.env (eval e X.env) = eval e X.env) : PE X (.Attribute e f pos) (tFld K ta f) := hK ▸ pe_fld he hb
theorem op_in_kdK {w : World} {d : Addr} {es : Array DictEntry} {n : Nat} (e : X.K = K) (e2 : X.w = w) (D : KDict K w d es n) : OpR X (compareOp .In) (fun x y H Q => ∃ (z : Str) (r : Option Value), x = .str z ∧ y = .ref d ∧ PySem.W.nsIn K d z = some r ∧ Q (.bl r.isSome) H) := by
  subst e e2
  exact op_in_kd D
theorem op_notIn_kdK {w : World} {d : Addr} {es : Array DictEntry} {n : Nat} (e : X.K = K) (e2 : X.w = w) (D : KDict K w d es n) : OpR X (compareOp .NotIn) (fun x y H Q => ∃ (z : Str) (r : Option Value), x = .str z ∧ y = .ref d ∧ PySem.W.nsIn K d z = some r ∧ Q (.bl (!r.isSome)) H) := by
  subst e e2
  exact op_notIn_kd D
end
abbrev bV (x : Bool) : V := .int (Vbemaz.bit x)
end PR
set_option Elab.async false
set_option linter.all false
set_option maxRecDepth 100000
set_option maxHeartbeats 4000000
namespace PR
open PySem PySem.Spec PyProof.Rows L2 Evl
/-! ### max(xs, default=d) of a list of ints -/
def rMaxDf (K : PySem.W.Frag) : List V → List V → Hp → VK → Prop := fun vs zs H Q => ∃ (a : Addr) (ns : List Int) (d : V), vs = [V.ref a] ∧ zs = [d] ∧ SqL K H a (ns.map V.int) ∧ (ns = [] → Q d H) ∧ ∀ y ys, ns = y :: ys → Q (.int (ys.foldl max y)) H
theorem alike_ints (ns : List Int) : PySem.W.AlikeAll (ns.map PyData.int) := by
  constructor
  · intro x hx y hy
    obtain ⟨a, _, rfl⟩ := List.mem_map.mp hx
    obtain ⟨b, _, rfl⟩ := List.mem_map.mp hy
    rfl
  · intro x hx
    obtain ⟨a, _, rfl⟩ := List.mem_map.mp hx
    exact fun z => nomatch z
theorem depth_ints : ∀ ns : List Int, PyData.depthAll (ns.map PyData.int) ≤ 1
  | [] => by decide
  | n :: ns => by
    have := depth_ints ns
    simp only [List.map_cons, PyData.depthAll, PyData.depth]
    omega
theorem cr_maxDf {X : Cx} (hc : X.calm = true) (hu : X.A.units + 64 < cLine) : CallRK X (.builtin "max") ["default"] (rMaxDf X.K) := by
  intro pins s σ H xs zs us ws Q I r rz h
  obtain ⟨a, ns, d, rfl, rfl, hs, h0, h1⟩ := h
  obtain ⟨its, rv, hl, _⟩ := I.list hs
  rw [Vals.ref1 r]
  obtain ⟨u, rfl, ru⟩ := rz.one
  have hi := rv.ints
  refine PySem.W.max_list_default (xs := ns.map PyData.int) (I.ok.hd hc) hl.isList (hi.reads s.heap) (alike_ints ns) (by have := depth_ints ns; omega) (fun e h' tk hk => ?_) (fun y ys i v h' tk bs e hv hr hk => ?_)
  · have e0 : ns = [] := by simpa using e
    exact ⟨d, H, I.kept hk, ru, h0 e0⟩
  · cases ns with
    | nil => cases e
    | cons n ns =>
      obtain ⟨rfl, rfl⟩ := List.cons.inj e
      rw [PySem.W.maxD_ints] at hr
      cases hr with
      | int _ t => exact ⟨.int _, H, I.kept hk, ⟨t, rfl⟩, h1 n ns rfl⟩
theorem ev_maxDf {K : PySem.W.Frag} {σ : L2.St} {H : Hp} {ta tk : TA} {a : Addr} {ns : List Int} {d : Int} (h : EvA ta σ H [.ref a]) (hk : EvA tk σ H [.int d]) (hs : SqL K H a (ns.map V.int)) (hd : ∀ y ys, ns = y :: ys → d ≤ ys.foldl max y) :
    Ev (tCKw (rMaxDf K) ta tk) σ H (.int (ns.foldl max d)) := fun H1 e Q q =>
  h H1 e _ fun H2 e2 => hk H2 (e.trans e2) _ fun H3 e3 => ⟨a, ns, .int d, rfl, rfl, ex_l ((e.trans e2).trans e3) hs, fun e0 => by
    subst e0
    exact q H3 (e2.trans e3), fun y ys e0 => by
    subst e0
    have := hd y ys rfl
    have e4 : ∀ (l : List Int) (a b : Int), l.foldl max (max a b) = max a (l.foldl max b) := by
      intro l
      induction l with
      | nil => intro a b; rfl
      | cons x l ih => intro a b; rw [List.foldl_cons, List.foldl_cons, Int.max_assoc, ih]
    rw [← Int.max_eq_right this, ← e4]
    exact q H3 (e2.trans e3)⟩
end PR
set_option Elab.async false
set_option linter.all false
set_option maxRecDepth 100000
set_option maxHeartbeats 4000000
namespace PR
open PySem PySem.Spec PyProof.Rows L2 Evl
/-! ### dicts of the top whose keys are ints -/
def KIDct (K : PySem.W.Frag) (a : Addr) (k : Int) (v : V) : Prop := ∃ es n u, K.lookup a = some ⟨.type "dict", none, .dict es n, #[]⟩ ∧ (∀ e ∈ es, ∃ i t, e.key = .int i t ∧ e.hash = hashInt i) ∧ findBy Value.isInt es k = some u ∧ RelV v u
def rIxI (K : PySem.W.Frag) : R2 := fun x y H Q => ∃ p k v, x = .ref p ∧ y = .int k ∧ KIDct K p k v ∧ Q v H
theorem ix_kidict {X : Cx} : IxR X (rIxI X.K) := by
  intro value slice pins s σ H x y v u Q I rx ry h hs
  obtain ⟨p, z, r, rfl, rfl, ⟨es, n, u0, hl, hk, e, ru⟩, q⟩ := h
  obtain rfl : v = Value.ref p := rx
  obtain ⟨t, rfl⟩ := ry
  have hm : s.heap.MapOf (intKind X.prog X.w) p (fun k => findBy Value.isInt es k) := ⟨_, es, n, I.kIn _ _ hl, ⟨rfl, rfl, rfl⟩, rfl, fun e he => by
    obtain ⟨i, t, e1, e2⟩ := hk e he
    exact ⟨i, by rw [e1]; exact intKind_is X.prog X.w i t, e2⟩, fun _ => rfl⟩
  exact tail_any hm.typeIs slot_dict_getitem.lookup (wpAny_getItem_of (intKind_is X.prog X.w z t) hm e ⟨r, H, I.tok _, ru, q⟩) hs
theorem ix_kidictK {X : Cx} {K : PySem.W.Frag} (e : X.K = K) : IxR X (rIxI K) := e ▸ ix_kidict
theorem ix_kdictK {X : Cx} {K : PySem.W.Frag} {w : World} (e : X.K = K) (e2 : X.w = w) : IxR X (rIxD K w) := e ▸ e2 ▸ ix_kdict
theorem ev_kidict {K : PySem.W.Frag} {σ : L2.St} {H : Hp} {ta tb : TE} {p : Addr} {k : Int} {v : V} (ha : Ev ta σ H (.ref p)) (hb : Ev tb σ H (.int k)) (h : KIDct K p k v) : Ev (tOp (rIxI K) ta tb) σ H v := ev_op ha hb (rv_val fun H1 _ Q q => ⟨p, k, v, rfl, rfl, h, q⟩)
theorem ev_kdict {K : PySem.W.Frag} {w : World} {σ : L2.St} {H : Hp} {ta tb : TE} {p : Addr} {k : Str} {v : V} (ha : Ev ta σ H (.ref p)) (hb : Ev tb σ H (.str k)) (h : KDct K w p k v) : Ev (tOp (rIxD K w) ta tb) σ H v := ev_op ha hb (rv_val fun H1 _ Q q => ⟨p, k, v, rfl, rfl, h, q⟩)
/-! ### what a look at the written part tells of tables -/
def diL (K : PySem.W.Frag) (a : Addr) : Option (List DictEntry) := match K.lookup a with
  | some ⟨.type c, none, .dict es _, sl⟩ => (match decide (c = "dict") && sl.isEmpty with
    | true => some es.toList
    | false => none)
  | _ => none
theorem diL_ok {K : PySem.W.Frag} {a : Addr} {l : List DictEntry} (h : diL K a = some l) : ∃ es n, K.lookup a = some ⟨.type "dict", none, .dict es n, #[]⟩ ∧ es.toList = l := by
  unfold diL at h
  cases q : K.lookup a with
  | none => rw [q] at h; cases h
  | some o =>
    obtain ⟨oc, od, dt, osl⟩ := o
    rw [q] at h
    cases oc with
    | type c =>
      cases od with
      | none =>
        cases dt with
        | dict es n =>
          have h1 : (match decide (c = "dict") && osl.isEmpty with
            | true => some es.toList
            | false => none) = some l := h
          cases z : decide (c = "dict") && osl.isEmpty with
          | false => rw [z] at h1; cases h1
          | true =>
            rw [z] at h1
            obtain ⟨z1, z2⟩ := He.ba z
            have e1 : c = "dict" := of_decide_eq_true z1
            have e2 : osl = #[] := Array.isEmpty_iff.mp z2
            subst e1 e2
            exact ⟨es, n, rfl, Option.some.inj h1⟩
        | _ => cases h
      | some b => cases dt <;> cases h
    | _ => cases od <;> cases dt <;> cases h
def intKeyB (e : DictEntry) : Bool := match e.key with
  | .int i _ => decide (e.hash = hashInt i)
  | _ => false
def valI (K : PySem.W.Frag) (a : Addr) (k : Int) : Option Value := match diL K a with
  | some l => (match l.all intKeyB with
    | true => (l.find? fun e => Value.isInt k e.key).map (·.val)
    | false => none)
  | none => none
/-- the object that stands at a key -/
def tI (K : PySem.W.Frag) (a : Addr) (k : Int) : Addr := match valI K a k with
  | some (.ref t) => t
  | _ => 0
def kidB (K : PySem.W.Frag) (a : Addr) (k : Int) (v : V) : Bool := match valI K a k with
  | some u => He.relB v u
  | none => false
theorem kidB_ok {K : PySem.W.Frag} {a : Addr} {k : Int} {v : V} (h : kidB K a k v = true) : KIDct K a k v := by
  unfold kidB at h
  cases e : valI K a k with
  | none => rw [e] at h; cases h
  | some u =>
    rw [e] at h
    unfold valI at e
    cases d : diL K a with
    | none => rw [d] at e; cases e
    | some l =>
      rw [d] at e
      have e1 : (match l.all intKeyB with
        | true => (l.find? fun e => Value.isInt k e.key).map (·.val)
        | false => none) = some u := e
      cases z : l.all intKeyB with
      | false => rw [z] at e1; cases e1
      | true =>
        rw [z] at e1
        obtain ⟨es, n, hl, rfl⟩ := diL_ok d
        refine ⟨es, n, u, hl, fun x hx => ?_, ?_, He.relB_ok h⟩
        · have hb := List.all_eq_true.mp z x (Array.mem_toList_iff.mpr hx)
          unfold intKeyB at hb
          cases hk : x.key with
          | int i t =>
            rw [hk] at hb
            exact ⟨i, t, rfl, of_decide_eq_true hb⟩
          | _ => rw [hk] at hb; cases hb
        · unfold findBy
          rw [← Array.find?_toList]
          exact e1
/-- a tuple of the written part -/
def tupAt (K : PySem.W.Frag) (t : Addr) (vs : List V) : Bool := match K.lookup t with
  | some ⟨.type c, _, .seq its _, _⟩ => decide (c = "tuple") && (decide (its.size ≤ sizeLine) && He.relAll vs its.toList)
  | _ => false
theorem tupAt_ok {K : PySem.W.Frag} {t : Addr} {vs : List V} (h : tupAt K t vs = true) (H : Hp) : SqT K H t vs := by
  unfold tupAt at h
  cases q : K.lookup t with
  | none => rw [q] at h; cases h
  | some o =>
    obtain ⟨oc, od, dt, osl⟩ := o
    rw [q] at h
    cases oc with
    | type c =>
      cases dt with
      | seq its n =>
        obtain ⟨h1, h2⟩ := He.ba (show (decide (c = "tuple") && (decide (its.size ≤ sizeLine) && He.relAll vs its.toList)) = true from h)
        obtain ⟨h3, h4⟩ := He.ba h2
        exact .inr ⟨_, its, n, q, congrArg Value.type (of_decide_eq_true h1), rfl, of_decide_eq_true h3, He.relAll_ok h4⟩
      | _ => cases h
    | _ => cases dt <;> cases h
/-- the object that stands at a text key -/
def tS (K : PySem.W.Frag) (a : Addr) (x : Str) : Addr := match PySem.W.nsIn K a x with
  | some (some (.ref t)) => t
  | _ => 0
def valS (K : PySem.W.Frag) (a : Addr) (x : Str) (v : V) : Bool := match PySem.W.nsIn K a x with
  | some (some u) => He.relB v u
  | _ => false
theorem valS_ok {K : PySem.W.Frag} {w : World} {a : Addr} {x : Str} {v : V} (D : ∃ es n, KDict K w a es n) (h : valS K a x v = true) : KDct K w a x v := by
  obtain ⟨es, n, D⟩ := D
  unfold valS at h
  cases e : PySem.W.nsIn K a x with
  | none => rw [e] at h; cases h
  | some o =>
    cases o with
    | none => rw [e] at h; cases h
    | some u =>
      rw [e] at h
      exact ⟨es, n, u, D.at_, D.lit, e, He.relB_ok h⟩
/-! ### the head's Hook with one more look -/
abbrev AlX : Type := He.AlT × Bool
def obsX (fa : List He.Fa) (fn : List He.DefD) (ts : List He.Tab) (xb : PySem.W.Frag → Bool) (K : PySem.W.Frag) : AlX := (He.obsT fa fn ts K, xb K)
def valX (fn : List He.DefD) (ts : List He.Tab) (w : World) : AlX := (He.valT fn ts w, true)
def obsXG (n : Nat) (fa : List He.Fa) (fn : List He.DefD) (ts : List He.Tab) (xb : PySem.W.Frag → Bool) (g : Addr → Option Obj) : AlX := obsX fa fn ts xb (He.frG g (He.asD g n))
end PR
set_option Elab.async false
set_option linter.all false
set_option maxRecDepth 100000
set_option maxHeartbeats 4000000
namespace PR
open PySem PySem.Spec PyProof.Rows L2
open PySem.W (OpenSpec Codec)
/-- the end of a Spec row over a head by facts: F gives the written part, the function object, the promise -/
theorem walk_specE {r : OpenSpec} {k : Nat} {q : Program} {loose : List Str} {XP : (Str → Option Value) → Heap → Prop} {YP : World → Heap → Prop} {d : DefRec} {CX : CXT} {ps : List Str}
    (hwell : r.wellSaid = true) (hlen : r.args.length = ps.length) (hr : Room k callerA)
    (F : ∀ (w : World) (mg : Str → Option Value) (fa : Addr) (h : Heap), YP w h → h.Ns mainGlobals mg → mg d.name = some (.ref fa) →
      ∃ (K : PySem.W.Frag) (fd : FuncData) (sp : Sp), K.In h ∧ (∀ (s : Shared) (us : List Value), us.length = ps.length → BindsTo s fd ⟨us, []⟩ (ps.zip us)) ∧
        (∀ base : Heap, K.In base → base.Ns mainGlobals mg → FnOk r.prog w K mg base CX k fa fd ps sp) ∧
        ∀ (H : Hp) (xs : List V) (a : Codec.denoteAll r.args), OnlyF H → Codec.withinAll r.args a = true → Codec.app r.args r.asked a = true → DwAll K H xs (Codec.encAll r.args a) →
          sp xs H (fun v H' => Dw K H' v (r.ret.enc (Codec.app r.args r.f a))) fun _ _ _ => False)
    (hCX : ∀ (H : Hp) (s : Shared) (e : Value) (s' : Shared), CX [] H s (fun _ _ _ => False) e s' → False) :
    PySem.W.WalkOS q loose XP YP r d [] (fun f vs => PySem.call f vs) := by
  intro w s₀ s₁ mg mb G Y fa o pm cd doc dV kV ho hd hcd hD hmg hg args vals as hpre hlay hrd hwl hlo
  obtain ⟨a, e1, e2⟩ := PySem.W.os_pre_some hpre
  obtain ⟨e3, hwi⟩ := Codec.encAll_of_decAll r.args args a e1
  subst e3
  obtain ⟨K, fd, sp, KX, hb, hF, hsp⟩ := F w mg fa _ Y G.T.g hmg
  refine PySem.W.enter_call (codeAny_mono (spec_call (R := []) (cl := classAt s₀.heap) (d0 := r.ret.enc (Codec.app r.args r.f a)) KX G.T.g G.T.b G.T.builtins G.T.nolimit hg hwl (pl_encAll _ _) (layable_weight hlay) hr hF hb (by rw [encAll_len]; exact hlen)
    (fun H xs hO hS => hsp H xs a hO hwi e2 hS) fun H e s' => hCX H s₁ e s') fun r' s' hq => ?_)
  obtain ⟨u, as', rfl, h1, h2, h3, h4⟩ := hq
  exact ⟨.inl ⟨u, _, as', rfl, fun _ => rfl, h1, (PySem.W.OpenSpec.post_iff hwell hwi _ _).mpr rfl, fun z => Bool.noConfusion (show false = true from z)⟩, h2, h3, h4⟩
end PR
namespace PR
open PySem PySem.Spec PyProof.Rows L2
/-! ### the head's facts in chunks, one kernel run each -/
structure Chunk where
  fa : List He.Fa
  fn : List He.DefD
  ts : List He.Tab
  xl : PySem.W.Frag → List Bool
def Chunk.obs (c : Chunk) (K : PySem.W.Frag) : AlX := obsX c.fa c.fn c.ts (fun K => (c.xl K).all id) K
def Chunk.val (c : Chunk) (w : World) : AlX := valX c.fn c.ts w
/-- what a chunk tells of the written part -/
def Chunk.Says (c : Chunk) (w : World) (K : PySem.W.Frag) : Prop := c.obs K = c.val w
def Chunk.ob (as : List Addr) (c : Chunk) (s : PySem.W.SharedT) : AlX := c.obs (He.frG (HandSHeadRun.getT s) as)
def hookL (as : List Addr) (cs : List Chunk) : PySem.W.Hook where
  α := List AlX
  obs := fun s => cs.map fun c => c.obs (He.frG s.heap.get? as)
  val := fun w => cs.map fun c => c.val w
  says := fun w h => ∃ K : PySem.W.Frag, K.In h ∧ ∀ c ∈ cs, c.Says w K
  of := fun w s e => ⟨_, He.frG_in, fun c hc => by
    obtain ⟨i, hi, rfl⟩ := List.getElem_of_mem hc
    have e2 := congrArg (fun l => l[i]?) e
    simp only [List.getElem?_map, List.getElem?_eq_getElem hi, Option.map_some] at e2
    exact Option.some.inj e2⟩
  keeps := fun _ _ _ ⟨K, hK, c⟩ k => ⟨K, PySem.W.Frag.In.keeps hK k, c⟩
def obL (as : List Addr) (cs : List Chunk) (s : PySem.W.SharedT) : List AlX := cs.map fun c => c.ob as s
theorem obL_eq (as : List Addr) (cs : List Chunk) (s : PySem.W.SharedT) : obL as cs s = (hookL as cs).obs s.abs := by
  have e : HandSHeadRun.getT s = s.abs.heap.get? := funext (HandSHeadRun.getT_eq s)
  unfold obL Chunk.ob
  rw [e]
  rfl
/-- one chunk's run -/
def RunC (r : PySem.W.OpenSpec) (q : Program) (as : List Addr) (M : Nat) (loose : List Str) (c : Chunk) (w : World) : Prop :=
  ∀ os : OsState, (HandSHeadRun.endF (HandSHeadRun.stepQ (HandSHeadRun.denQ HandSHeadRun.tabQ) r.prog w) M r.prog w os).map (fun s => (HandSHeadRun.looksF r.prog (PySem.W.boot_heap w.params) s.abs, HandSHeadRun.seenQ q loose (importedModules r.prog.main.body) (fun s => PySem.W.xlAt q [] s && PySem.W.recOk [] s) s.abs, c.ob as s)) = some (true, PySem.W.openGood q loose, c.val w)
theorem runs_join {r : PySem.W.OpenSpec} {q : Program} {as : List Addr} {M : Nat} {loose : List Str} {c0 : Chunk} {cs : List Chunk} {w : World} (h0 : RunC r q as M loose c0 w) (h : ∀ c ∈ cs, RunC r q as M loose c w) : HandSHeadRun.RunEqS r q (hookL as (c0 :: cs)) (obL as (c0 :: cs)) M loose w := by
  intro os
  have e0 := h0 os
  obtain ⟨s, hs, hv⟩ := Option.map_eq_some_iff.mp e0
  rw [hs, Option.map_some]
  obtain ⟨v1, v2⟩ := Prod.mk.inj hv
  obtain ⟨v2, v3⟩ := Prod.mk.inj v2
  have hall : ∀ c ∈ c0 :: cs, c.ob as s = c.val w := by
    intro c hc
    rcases List.mem_cons.mp hc with rfl | hc
    · exact v3
    · have e1 := h c hc os
      rw [hs, Option.map_some] at e1
      exact (Prod.mk.inj (Prod.mk.inj (Option.some.inj e1)).2).2
  have e2 : obL as (c0 :: cs) s = (hookL as (c0 :: cs)).val w := List.map_congr_left hall
  rw [v1, v2, e2]
section
variable {c : Chunk} {w : World} {K : PySem.W.Frag}
theorem Chunk.Says.t (h : c.Says w K) : He.SaysT c.fa c.fn c.ts w K := congrArg (fun z : AlX => z.1) h
theorem Chunk.Says.fact (h : c.Says w K) (i : Nat) {f : He.Fa} (e : c.fa[i]? = some f := by rfl) : f.ok K = true := h.t.d.fact i e
theorem Chunk.Says.def_ (h : c.Says w K) (i : Nat) {d : He.DefD} (e : c.fn[i]? = some d := by rfl) : ∃ fd, FunD K d.name d.qual d.params d.body d.scope (d.dvs K) (d.kws K) (He.fAd K d.at_) fd := h.t.d.def_ i e
theorem Chunk.Says.tab (h : c.Says w K) (i : Nat) {t : He.Tab} (e : c.ts[i]? = some t := by rfl) : ∃ es n, KDict K w (t.1 K) es n := h.t.tab i e
theorem Chunk.Says.look (h : c.Says w K) (i : Nat) {b : Bool} (e : (c.xl K)[i]? = some b := by rfl) : b = true := by
  have h1 : (c.xl K).all id = true := congrArg (fun z : AlX => z.2) h
  exact List.all_eq_true.mp h1 b (List.mem_of_getElem? e)
end
end PR
set_option Elab.async false
set_option linter.all false
set_option maxRecDepth 100000
set_option maxHeartbeats 4000000
namespace PR
open PySem PySem.Spec PyProof.Rows L2 Evl
section
variable {K : PySem.W.Frag} {σ : L2.St} {H H' : Hp} {ta tb te : TE} {t : TT}
theorem el_cat {xs ys : List V} (ha : EvL ta σ H xs) (hb : EvL tb σ H ys) (hl : xs.length + ys.length ≤ 100000) : EvL (tOp rCat ta tb) σ H (xs ++ ys) := fun H1 e Q q =>
  ha H1 e _ fun p H2 hp e2 h2 => hb H2 (e.trans e2) _ fun r H3 hr e3 h3 => ⟨p, r, xs, ys, rfl, rfl, e3 p _ h2, h3, sz_of hl, fun z hz => q z _ (fresh_back (e2.trans e3) hz) ((e2.trans e3).trans (Ex.new hz)) upd_same⟩
/-- the second one stands already -/
theorem el_catR {xs ys : List V} {b : Addr} (ha : EvL ta σ H xs) (hb : Ev tb σ H (.ref b)) (h : H b = some (.lst ys)) (hl : xs.length + ys.length ≤ 100000) : EvL (tOp rCat ta tb) σ H (xs ++ ys) := fun H1 e Q q =>
  ha H1 e _ fun p H2 hp e2 h2 => hb H2 (e.trans e2) _ fun H3 e3 => ⟨p, b, xs, ys, rfl, rfl, e3 p _ h2, ((e.trans e2).trans e3) b _ h, sz_of hl, fun z hz => q z _ (fresh_back (e2.trans e3) hz) ((e2.trans e3).trans (Ex.new hz)) upd_same⟩
theorem el_rep {xs : List V} {k : Int} (ha : EvL ta σ H xs) (hb : Ev tb σ H (.int k)) (h1 : -(2 ^ 63) ≤ k) (h2 : k < 2 ^ 63) (hl : xs.length * k.toNat ≤ 100000) : EvL (tOp rRep ta tb) σ H (List.replicate k.toNat xs).flatten := fun H1 e Q q =>
  ha H1 e _ fun p H2 hp e2 h3 => hb H2 (e.trans e2) _ fun H3 e3 => ⟨p, k, xs, rfl, rfl, e3 p _ h3, h1, h2, sz_of hl, fun z hz => q z _ (fresh_back (e2.trans e3) hz) ((e2.trans e3).trans (Ex.new hz)) upd_same⟩
theorem ev_bits {i : Int} (ha : Ev ta σ H (.int i)) : Ev (tBits ta) σ H (.int (Builtin.Int.intBits i : Nat)) := fun H1 e Q q =>
  ha H1 e _ fun H2 e2 => ⟨i, rfl, q H2 e2⟩
theorem et_yes : EvT tYes σ H true := fun H1 _ _ q => q H1 (Ex.refl H1)
theorem el_is {xs ys : List V} (h : EvL te σ H xs) (e : xs = ys) : EvL te σ H ys := by
  rw [← e]
  exact h
theorem given_all (n : Nat) (v : Nat → V) : given n (fun _ => true) v = (List.range n).map v := by
  unfold given
  rw [List.filter_eq_self.mpr (fun _ _ => rfl)]
/-- over range(lo, n) -/
theorem el_lcR2 {ta : TA} {j : Nat} {vs : List Nat} {lo n : Int} (f : Nat → Bool) (v : Nat → V) (h : EvA ta σ H [.int lo, .int n]) (hn : -40000 ≤ lo ∧ lo ≤ 40000 ∧ -40000 ≤ n ∧ n ≤ 40000 ∧ n - lo ≤ 40000) (hw : ∀ x, wipe ((wipe σ vs).set j (some x)) vs = wipe σ vs)
    (ht : ∀ (i : Nat) H1, Ex H H1 → lo + (i : Int) < n → EvT t ((wipe σ vs).set j (some (.int (lo + (i : Int))))) H1 (f i)) (he : ∀ (i : Nat) H1, Ex H H1 → lo + (i : Int) < n → f i = true → Ev te ((wipe σ vs).set j (some (.int (lo + (i : Int))))) H1 (v i)) :
    EvL (tLc (iRng2 ta) (gName j) t te vs) σ H (given (n - lo).toNat f v) := fun H0 e Q q => h H0 e _ fun H1 e1 => ⟨lo, n, rfl, by omega, fun Dl hD =>
  lc_range (lo := lo) (n := (n - lo).toNat) (Cw H1 f v Dl) ⟨hD, Ex.new hD, upd_same⟩ (fun i H' hi p =>
    ⟨hw _, cw_turn p (by omega) (ht i H1 (e.trans e1) (by omega)) (fun hf => he i H1 (e.trans e1) (by omega) hf)⟩) (fun H' p => q Dl H' (fresh_back e1 p.1) (e1.trans p.2.1) p.2.2)⟩
theorem rgC8 {n : Nat} (hn : n ≤ 100000) : RgC 0 (n : Int) 8 ((n + 7) / 8) := by
  have e : Builtin.Range.rangeSize 0 (n : Int) 8 = (((n + 7) / 8 : Nat) : Int) := by
    unfold Builtin.Range.rangeSize
    rw [if_pos (by decide)]
    split <;> omega
  refine ⟨by decide, by decide, ?_, e⟩
  unfold Builtin.Range.small
  rw [e, if_pos (by decide)]
  simp only [Builtin.Range.rangeFitsLong, Bool.and_eq_true, decide_eq_true_eq, Bool.or_eq_true]
  omega
theorem rgC16 {n : Nat} (hn : n ≤ 100000) : RgC 0 (n : Int) 16 ((n + 15) / 16) := by
  have e : Builtin.Range.rangeSize 0 (n : Int) 16 = (((n + 15) / 16 : Nat) : Int) := by
    unfold Builtin.Range.rangeSize
    rw [if_pos (by decide)]
    split <;> omega
  refine ⟨by decide, by decide, ?_, e⟩
  unfold Builtin.Range.small
  rw [e, if_pos (by decide)]
  simp only [Builtin.Range.rangeFitsLong, Bool.and_eq_true, decide_eq_true_eq, Bool.or_eq_true]
  omega
/-- over range(lo, n, c) -/
theorem el_lcR3 {ta : TA} {j : Nat} {vs : List Nat} {lo n c : Int} {m : Nat} (f : Nat → Bool) (v : Nat → V) (h : EvA ta σ H [.int lo, .int n, .int c]) (hr : RgC lo n c m) (hm : m ≤ 40000) (hw : ∀ x, wipe ((wipe σ vs).set j (some x)) vs = wipe σ vs)
    (ht : ∀ (i : Nat) H1, Ex H H1 → i < m → EvT t ((wipe σ vs).set j (some (.int (lo + (i : Int) * c)))) H1 (f i)) (he : ∀ (i : Nat) H1, Ex H H1 → i < m → f i = true → Ev te ((wipe σ vs).set j (some (.int (lo + (i : Int) * c)))) H1 (v i)) :
    EvL (tLc (iRng3 ta) (gName j) t te vs) σ H (given m f v) := fun H0 e Q q => h H0 e _ fun H1 e1 => ⟨lo, n, c, m, rfl, hr, fun Dl hD =>
  lc_it (walk_rangeC (lo := lo) (c := c) (n := m)) (Cw H1 f v Dl) ⟨hD, Ex.new hD, upd_same⟩ (fun _ _ _ _ => trivial) (fun i x H' H'' hi p y => by
    obtain ⟨rfl, rfl⟩ := y
    exact ⟨hw _, cw_turn p (by omega) (ht i H1 (e.trans e1) hi) (fun hf => he i H1 (e.trans e1) hi hf)⟩) (fun H' p => q Dl H' (fresh_back e1 p.1) (e1.trans p.2.1) p.2.2)⟩
/-! ### comprehensions over a list whose items are told by Lean values -/
theorem given_list {α : Type} (p : α → Bool) (g : α → V) : ∀ xs : List α, given xs.length (fun i => (xs[i]?.map p).getD false) (fun i => (xs[i]?.map g).getD .non) = (xs.filter p).map g := by
  intro xs
  suffices hh : ∀ n, n ≤ xs.length → given n (fun i => (xs[i]?.map p).getD false) (fun i => (xs[i]?.map g).getD .non) = ((xs.take n).filter p).map g by
    have := hh xs.length (Nat.le_refl _)
    rwa [List.take_length] at this
  intro n
  induction n with
  | zero => intro _; rfl
  | succ n ih =>
    intro hn
    have hlt : n < xs.length := hn
    have e : xs[n]? = some xs[n] := List.getElem?_eq_getElem hlt
    rw [List.take_succ, e, Option.toList_some, List.filter_append, List.map_append, ← ih (by omega)]
    cases hp : p xs[n] with
    | true =>
      rw [given_yes (by simp only [e]; exact hp)]
      simp only [e, List.filter_cons, hp, if_true, List.filter_nil, List.map_cons, List.map_nil, Option.map_some, Option.getD_some]
    | false =>
      rw [given_no (by simp only [e]; exact hp)]
      simp [hp]
theorem el_lcM {α : Type} {a : Addr} {tl : TE} {j : Nat} {vs : List Nat} (r : α → V) (p : α → Bool) (g : α → V) (xs : List α) (h : Ev tl σ H (.ref a)) (hx : SqL K H a (xs.map r)) (hz : xs.length ≤ 40000) (hw : ∀ x, wipe ((wipe σ vs).set j (some x)) vs = wipe σ vs)
    (ht : ∀ x, x ∈ xs → ∀ H1, Ex H H1 → EvT t ((wipe σ vs).set j (some (r x))) H1 (p x)) (he : ∀ x, x ∈ xs → ∀ H1, Ex H H1 → p x = true → Ev te ((wipe σ vs).set j (some (r x))) H1 (g x)) :
    EvL (tLc (iList K tl) (gName j) t te vs) σ H ((xs.filter p).map g) := by
  have key : ∀ (i : Nat) (v : V), (xs.map r)[i]? = some v → ∃ x, x ∈ xs ∧ xs[i]? = some x ∧ v = r x := by
    intro i v hv
    rw [List.getElem?_map] at hv
    obtain ⟨x, hx1, hx2⟩ := Option.map_eq_some_iff.mp hv
    exact ⟨x, List.mem_of_getElem? hx1, hx1, hx2.symm⟩
  have e := el_lcL (K := K) (t := t) (te := te) (fun i => (xs[i]?.map p).getD false) (fun i => (xs[i]?.map g).getD .non) h hx (by rw [List.length_map]; exact hz) hw
    (fun i v H1 e1 hv => by
      obtain ⟨x, m, e, rfl⟩ := key i v hv
      simp only [e, Option.map_some, Option.getD_some]
      exact ht x m H1 e1)
    (fun i v H1 e1 hv hf => by
      obtain ⟨x, m, e, rfl⟩ := key i v hv
      simp only [e, Option.map_some, Option.getD_some] at hf ⊢
      exact he x m H1 e1 hf)
  rw [List.length_map, given_list] at e
  exact e
theorem el_lcNM {α : Type} {tl : TE} {j : Nat} {vs : List Nat} (r : α → V) (p : α → Bool) (g : α → V) (xs : List α) (h : EvL tl σ H (xs.map r)) (hz : xs.length ≤ 40000) (hw : ∀ x, wipe ((wipe σ vs).set j (some x)) vs = wipe σ vs)
    (ht : ∀ x, x ∈ xs → ∀ H1, Ex H H1 → EvT t ((wipe σ vs).set j (some (r x))) H1 (p x)) (he : ∀ x, x ∈ xs → ∀ H1, Ex H H1 → p x = true → Ev te ((wipe σ vs).set j (some (r x))) H1 (g x)) :
    EvL (tLc (iList K tl) (gName j) t te vs) σ H ((xs.filter p).map g) := by
  have key : ∀ (i : Nat) (v : V), (xs.map r)[i]? = some v → ∃ x, x ∈ xs ∧ xs[i]? = some x ∧ v = r x := by
    intro i v hv
    rw [List.getElem?_map] at hv
    obtain ⟨x, hx1, hx2⟩ := Option.map_eq_some_iff.mp hv
    exact ⟨x, List.mem_of_getElem? hx1, hx1, hx2.symm⟩
  have e := el_lcNL (K := K) (t := t) (te := te) (fun i => (xs[i]?.map p).getD false) (fun i => (xs[i]?.map g).getD .non) h (by rw [List.length_map]; exact hz) hw
    (fun i v H1 e1 hv => by
      obtain ⟨x, m, e, rfl⟩ := key i v hv
      simp only [e, Option.map_some, Option.getD_some]
      exact ht x m H1 e1)
    (fun i v H1 e1 hv hf => by
      obtain ⟨x, m, e, rfl⟩ := key i v hv
      simp only [e, Option.map_some, Option.getD_some] at hf ⊢
      exact he x m H1 e1 hf)
  rw [List.length_map, given_list] at e
  exact e
/-- every item -/
theorem el_lcA {α : Type} {a : Addr} {tl : TE} {j : Nat} {vs : List Nat} (r : α → V) (g : α → V) (xs : List α) (h : Ev tl σ H (.ref a)) (hx : SqL K H a (xs.map r)) (hz : xs.length ≤ 40000) (hw : ∀ x, wipe ((wipe σ vs).set j (some x)) vs = wipe σ vs)
    (he : ∀ x, x ∈ xs → ∀ H1, Ex H H1 → Ev te ((wipe σ vs).set j (some (r x))) H1 (g x)) : EvL (tLc (iList K tl) (gName j) tYes te vs) σ H (xs.map g) := by
  have e := el_lcM (t := tYes) (te := te) r (fun _ => true) g xs h hx hz hw (fun _ _ _ _ => et_yes) (fun x m H1 e1 _ => he x m H1 e1)
  rwa [List.filter_eq_self.mpr (fun _ _ => rfl)] at e
theorem el_lcNA {α : Type} {tl : TE} {j : Nat} {vs : List Nat} (r : α → V) (g : α → V) (xs : List α) (h : EvL tl σ H (xs.map r)) (hz : xs.length ≤ 40000) (hw : ∀ x, wipe ((wipe σ vs).set j (some x)) vs = wipe σ vs)
    (he : ∀ x, x ∈ xs → ∀ H1, Ex H H1 → Ev te ((wipe σ vs).set j (some (r x))) H1 (g x)) : EvL (tLc (iList K tl) (gName j) tYes te vs) σ H (xs.map g) := by
  have e := el_lcNM (t := tYes) (te := te) (K := K) r (fun _ => true) g xs h hz hw (fun _ _ _ _ => et_yes) (fun x m H1 e1 _ => he x m H1 e1)
  rwa [List.filter_eq_self.mpr (fun _ _ => rfl)] at e
/-! ### xs.extend(ys) -/
section
variable {D : Ends} {tz : TS}
theorem s_ext {l : Addr} {xs ys : List V} (hl : H l = some (.lst xs)) (ha : Ev ta σ H (.ref l)) (h : EvL te σ H ys) (hz : xs.length + ys.length ≤ 100000) (k : ∀ H1, Ex H H1 → D.nx σ (upd H1 l (.lst (xs ++ ys)))) :
    tDrop (tBM K "list" rExtend ta (tCons te tNil)) D σ H := ha H (Ex.refl H) _ fun H1 e1 =>
  ⟨Or.inl ⟨rfl, xs, sq_of (e1 l _ hl)⟩, h H1 e1 _ fun p H2 hp e2 h2 => ⟨l, p, xs, ys, rfl, rfl, e2 l _ (e1 l _ hl), h2, sz_of hz, k H2 (e1.trans e2)⟩⟩
theorem q_ext {l : Addr} {xs ys : List V} (hl : H l = some (.lst xs)) (ha : Ev ta σ H (.ref l)) (h : EvL te σ H ys) (hz : xs.length + ys.length ≤ 100000) (k : ∀ H1, Ex H H1 → tz D σ (upd H1 l (.lst (xs ++ ys)))) :
    tSeq (tDrop (tBM K "list" rExtend ta (tCons te tNil))) tz D σ H := s_ext (D := { D with nx := tz D }) hl ha h hz k
/-- the list that is put behind stands already -/
theorem s_extR {l b : Addr} {xs ys : List V} (hl : H l = some (.lst xs)) (ha : Ev ta σ H (.ref l)) (h : Ev te σ H (.ref b)) (hb : H b = some (.lst ys)) (hz : xs.length + ys.length ≤ 100000) (k : ∀ H1, Ex H H1 → D.nx σ (upd H1 l (.lst (xs ++ ys)))) :
    tDrop (tBM K "list" rExtend ta (tCons te tNil)) D σ H := ha H (Ex.refl H) _ fun H1 e1 =>
  ⟨Or.inl ⟨rfl, xs, sq_of (e1 l _ hl)⟩, h H1 e1 _ fun H2 e2 => ⟨l, b, xs, ys, rfl, rfl, e2 l _ (e1 l _ hl), (e1.trans e2) b _ hb, sz_of hz, k H2 (e1.trans e2)⟩⟩
theorem q_extR {l b : Addr} {xs ys : List V} (hl : H l = some (.lst xs)) (ha : Ev ta σ H (.ref l)) (h : Ev te σ H (.ref b)) (hb : H b = some (.lst ys)) (hz : xs.length + ys.length ≤ 100000) (k : ∀ H1, Ex H H1 → tz D σ (upd H1 l (.lst (xs ++ ys)))) :
    tSeq (tDrop (tBM K "list" rExtend ta (tCons te tNil))) tz D σ H := s_extR (D := { D with nx := tz D }) hl ha h hb hz k
end
/-! ### built-in functions of lists -/
theorem ev_lenS {p : Addr} {xs : List V} {ta : TA} (ha : EvA ta σ H [.ref p]) (h : SqL K H p xs) : Ev (tCB (fun xs H Q => ∃ p ys, xs = [V.ref p] ∧ (SqL K H p ys ∨ SqT K H p ys) ∧ Q (V.int ys.length) H) ta) σ H (.int (xs.length : Int)) := fun H1 e Q q =>
  ha H1 e _ fun H2 e2 => ⟨p, xs, rfl, Or.inl (ex_l (e.trans e2) h), q H2 e2⟩
theorem ev_lenT {p : Addr} {xs : List V} {ta : TA} (ha : EvA ta σ H [.ref p]) (h : SqT K H p xs) : Ev (tCB (fun xs H Q => ∃ p ys, xs = [V.ref p] ∧ (SqL K H p ys ∨ SqT K H p ys) ∧ Q (V.int ys.length) H) ta) σ H (.int (xs.length : Int)) := fun H1 e Q q =>
  ha H1 e _ fun H2 e2 => ⟨p, xs, rfl, Or.inr (ex_t (e.trans e2) h), q H2 e2⟩
theorem ev_sum {p : Addr} {ns : List Int} {ta : TA} (ha : EvA ta σ H [.ref p]) (h : SqL K H p (ns.map V.int)) : Ev (tCB (rSum K) ta) σ H (.int ns.sum) := fun H1 e Q q =>
  ha H1 e _ fun H2 e2 => ⟨p, ns, rfl, ex_l (e.trans e2) h, q H2 e2⟩
theorem ev_min {p : Addr} {ns : List Int} {m : Int} {ta : TA} (ha : EvA ta σ H [.ref p]) (h : SqL K H p (ns.map V.int)) (hm : m ∈ ns) (hl : ∀ y, y ∈ ns → m ≤ y) : Ev (tCB (rMin K) ta) σ H (.int m) := fun H1 e Q q =>
  ha H1 e _ fun H2 e2 => ⟨p, ns, rfl, ex_l (e.trans e2) h, List.length_pos_of_mem hm, fun m' h1 h2 => by
    have := h2 m hm
    have := hl m' h1
    have e3 : m' = m := by omega
    rw [e3]
    exact q H2 e2⟩
theorem ev_max {p : Addr} {ns : List Int} {m : Int} {ta : TA} (ha : EvA ta σ H [.ref p]) (h : SqL K H p (ns.map V.int)) (hm : m ∈ ns) (hl : ∀ y, y ∈ ns → y ≤ m) : Ev (tCB (rMax K) ta) σ H (.int m) := fun H1 e Q q =>
  ha H1 e _ fun H2 e2 => ⟨p, ns, rfl, ex_l (e.trans e2) h, List.length_pos_of_mem hm, fun m' h1 h2 => by
    have := h2 m hm
    have := hl m' h1
    have e3 : m' = m := by omega
    rw [e3]
    exact q H2 e2⟩
/-- an argument that is a new list -/
theorem ev_cbN {r : List V → Hp → VK → Prop} {xs : List V} {z : V} (h : EvL te σ H xs) (hr : ∀ p H1, H1 p = some (.lst xs) → Ex H H1 → RC r [.ref p] H1 z) : Ev (tCB r (tCons te tNil)) σ H z := fun H1 e Q q =>
  h H1 e _ fun p H2 hp e2 h2 => hr p H2 h2 (e.trans e2) H2 (Ex.refl H2) Q fun H3 e3 => q H3 (e2.trans e3)
theorem rc_len {p : Addr} {xs : List V} (h : SqL K H p xs) : RC (fun xs H Q => ∃ p ys, xs = [V.ref p] ∧ (SqL K H p ys ∨ SqT K H p ys) ∧ Q (V.int ys.length) H) [.ref p] H (.int (xs.length : Int)) := fun H1 e Q q => ⟨p, xs, rfl, Or.inl (ex_l e h), q H1 (Ex.refl H1)⟩
theorem rc_all {p : Addr} {bs : List Bool} (h : SqL K H p (bs.map V.bl)) : RC (rAll K) [.ref p] H (.bl (bs.all id)) := fun H1 e Q q => ⟨p, bs, rfl, ex_l e h, q H1 (Ex.refl H1)⟩
/-- a call whose one argument is a new list -/
theorem ev_callN {sp : Sp} {xs : List V} {z : V} {E : XK} (h : EvL te σ H xs) (hs : ∀ p H1, H1 p = some (.lst xs) → Ex H H1 → SpV sp [.ref p] H1 z) : Ev (tCall sp [] E (tCons te tNil)) σ H z := fun H1 e Q q =>
  h H1 e _ fun p H2 hp e2 h2 => hs p H2 h2 (e.trans e2) H2 (Ex.refl H2) Q (fun H3 e3 => q H3 (e2.trans e3)) E
theorem el_callN {sp : Sp} {xs ys : List V} {E : XK} (h : EvL te σ H xs) (hs : ∀ p H1, H1 p = some (.lst xs) → Ex H H1 → SpL sp [.ref p] H1 ys) : EvL (tCall sp [] E (tCons te tNil)) σ H ys := fun H1 e Q q =>
  h H1 e _ fun p H2 hp e2 h2 => hs p H2 h2 (e.trans e2) H2 (Ex.refl H2) Q (fun r H3 hr e3 h3 => q r H3 (fresh_back e2 hr) (e2.trans e3) h3) E
theorem ev_opN {r : R2} {xs : List V} {x z : V} (ha : EvL ta σ H xs) (hb : ∀ H1, Ex H H1 → Ev tb σ H1 x) (hr : ∀ p H1, H1 p = some (.lst xs) → Ex H H1 → RV r (.ref p) x H1 z) : Ev (tOp r ta tb) σ H z := ev_opL1 ha hb hr
end
end PR
set_option Elab.async false
set_option linter.all false
set_option maxRecDepth 100000
set_option maxHeartbeats 4000000
namespace PR
open PySem PySem.Spec PyProof.Rows L2
def top (i : Nat) : Stmt := PySem.Challenge.pw_packedreadings_s01_answers.main.body.getD i (.Pass ⟨0, 0, 0, 0⟩)
abbrev st_clear_series : Stmt := top 13
abbrev N_clear_series : List Str := ["series"]
theorem sc_clear_series : FnScope N_clear_series ["series"] (defScope st_clear_series) := ⟨rfl, rfl, rfl, by decide +kernel, rfl, by decide +kernel, by decide +kernel⟩
abbrev st_add_row : Stmt := top 14
abbrev N_add_row : List Str := ["series", "row"]
theorem sc_add_row : FnScope N_add_row ["series", "row"] (defScope st_add_row) := ⟨rfl, rfl, rfl, by decide +kernel, rfl, by decide +kernel, by decide +kernel⟩
abbrev st_fix_place : Stmt := top 15
abbrev N_fix_place : List Str := ["series", "place", "value"]
theorem sc_fix_place : FnScope N_fix_place ["series", "place", "value"] (defScope st_fix_place) := ⟨rfl, rfl, rfl, by decide +kernel, rfl, by decide +kernel, by decide +kernel⟩
abbrev st_trim_series : Stmt := top 16
abbrev N_trim_series : List Str := ["series", "start"]
theorem sc_trim_series : FnScope N_trim_series ["series", "start"] (defScope st_trim_series) := ⟨rfl, rfl, rfl, by decide +kernel, rfl, by decide +kernel, by decide +kernel⟩
abbrev st_folded : Stmt := top 18
abbrev N_folded : List Str := ["number"]
theorem sc_folded : FnScope N_folded ["number"] (defScope st_folded) := ⟨rfl, rfl, rfl, by decide +kernel, rfl, by decide +kernel, by decide +kernel⟩
abbrev st_unfolded : Stmt := top 19
abbrev N_unfolded : List Str := ["number"]
theorem sc_unfolded : FnScope N_unfolded ["number"] (defScope st_unfolded) := ⟨rfl, rfl, rfl, by decide +kernel, rfl, by decide +kernel, by decide +kernel⟩
abbrev st_width : Stmt := top 20
abbrev N_width : List Str := ["number"]
theorem sc_width : FnScope N_width ["number"] (defScope st_width) := ⟨rfl, rfl, rfl, by decide +kernel, rfl, by decide +kernel, by decide +kernel⟩
abbrev st_in_bits : Stmt := top 21
abbrev N_in_bits : List Str := ["number", "count", "k"]
theorem sc_in_bits : FnScope N_in_bits ["number", "count"] (defScope st_in_bits) := ⟨rfl, rfl, rfl, by decide +kernel, rfl, by decide +kernel, by decide +kernel⟩
abbrev st_all_in_bits : Stmt := top 22
abbrev N_all_in_bits : List Str := ["numbers", "count", "bits", "number"]
theorem sc_all_in_bits : FnScope N_all_in_bits ["numbers", "count"] (defScope st_all_in_bits) := ⟨rfl, rfl, rfl, by decide +kernel, rfl, by decide +kernel, by decide +kernel⟩
abbrev st_self_ending : Stmt := top 23
abbrev N_self_ending : List Str := ["number", "digits"]
theorem sc_self_ending : FnScope N_self_ending ["number"] (defScope st_self_ending) := ⟨rfl, rfl, rfl, by decide +kernel, rfl, by decide +kernel, by decide +kernel⟩
abbrev st_folded_self_ending : Stmt := top 24
abbrev N_folded_self_ending : List Str := ["number"]
theorem sc_folded_self_ending : FnScope N_folded_self_ending ["number"] (defScope st_folded_self_ending) := ⟨rfl, rfl, rfl, by decide +kernel, rfl, by decide +kernel, by decide +kernel⟩
abbrev st_byte_at : Stmt := top 25
abbrev N_byte_at : List Str := ["bits", "start", "byte", "k"]
theorem sc_byte_at : FnScope N_byte_at ["bits", "start"] (defScope st_byte_at) := ⟨rfl, rfl, rfl, by decide +kernel, rfl, by decide +kernel, by decide +kernel⟩
abbrev st_as_bytes : Stmt := top 26
abbrev N_as_bytes : List Str := ["bits", "start"]
theorem sc_as_bytes : FnScope N_as_bytes ["bits"] (defScope st_as_bytes) := ⟨rfl, rfl, rfl, by decide +kernel, rfl, by decide +kernel, by decide +kernel⟩
abbrev st_is_reading : Stmt := top 31
abbrev N_is_reading : List Str := ["number"]
theorem sc_is_reading : FnScope N_is_reading ["number"] (defScope st_is_reading) := ⟨rfl, rfl, rfl, by decide +kernel, rfl, by decide +kernel, by decide +kernel⟩
abbrev st_readings_in : Stmt := top 32
abbrev N_readings_in : List Str := ["values", "value"]
theorem sc_readings_in : FnScope N_readings_in ["values"] (defScope st_readings_in) := ⟨rfl, rfl, rfl, by decide +kernel, rfl, by decide +kernel, by decide +kernel⟩
abbrev st_steps_between : Stmt := top 34
abbrev N_steps_between : List Str := ["readings", "k"]
theorem sc_steps_between : FnScope N_steps_between ["readings"] (defScope st_steps_between) := ⟨rfl, rfl, rfl, by decide +kernel, rfl, by decide +kernel, by decide +kernel⟩
abbrev st_greatest_width : Stmt := top 35
abbrev N_greatest_width : List Str := ["foldeds"]
theorem sc_greatest_width : FnScope N_greatest_width ["foldeds"] (defScope st_greatest_width) := ⟨rfl, rfl, rfl, by decide +kernel, rfl, by decide +kernel, by decide +kernel⟩
abbrev st_plain_code : Stmt := top 36
abbrev N_plain_code : List Str := ["readings", "foldeds", "wide", "reading"]
theorem sc_plain_code : FnScope N_plain_code ["readings"] (defScope st_plain_code) := ⟨rfl, rfl, rfl, by decide +kernel, rfl, by decide +kernel, by decide +kernel⟩
abbrev st_step_code : Stmt := top 37
abbrev N_step_code : List Str := ["readings", "foldeds", "wide", "step"]
theorem sc_step_code : FnScope N_step_code ["readings"] (defScope st_step_code) := ⟨rfl, rfl, rfl, by decide +kernel, rfl, by decide +kernel, by decide +kernel⟩
abbrev st_change_of_step_code : Stmt := top 38
abbrev N_change_of_step_code : List Str := ["readings", "bits", "step_before", "step"]
theorem sc_change_of_step_code : FnScope N_change_of_step_code ["readings"] (defScope st_change_of_step_code) := ⟨rfl, rfl, rfl, by decide +kernel, rfl, by decide +kernel, by decide +kernel⟩
abbrev st_run_end : Stmt := top 39
abbrev N_run_end : List Str := ["readings", "start", "end"]
theorem sc_run_end : FnScope N_run_end ["readings", "start"] (defScope st_run_end) := ⟨rfl, rfl, rfl, by decide +kernel, rfl, by decide +kernel, by decide +kernel⟩
abbrev st_run_code : Stmt := top 40
abbrev N_run_code : List Str := ["readings", "bits", "start", "end"]
theorem sc_run_code : FnScope N_run_code ["readings"] (defScope st_run_code) := ⟨rfl, rfl, rfl, by decide +kernel, rfl, by decide +kernel, by decide +kernel⟩
abbrev st_in_each_code : Stmt := top 41
abbrev N_in_each_code : List Str := ["readings"]
theorem sc_in_each_code : FnScope N_in_each_code ["readings"] (defScope st_in_each_code) := ⟨rfl, rfl, rfl, by decide +kernel, rfl, by decide +kernel, by decide +kernel⟩
abbrev st_shortest_code : Stmt := top 42
abbrev N_shortest_code : List Str := ["coded", "lengths", "bits"]
theorem sc_shortest_code : FnScope N_shortest_code ["coded"] (defScope st_shortest_code) := ⟨rfl, rfl, rfl, by decide +kernel, rfl, by decide +kernel, by decide +kernel⟩
abbrev st_gap_bits : Stmt := top 43
abbrev N_gap_bits : List Str := ["values", "value"]
theorem sc_gap_bits : FnScope N_gap_bits ["values"] (defScope st_gap_bits) := ⟨rfl, rfl, rfl, by decide +kernel, rfl, by decide +kernel, by decide +kernel⟩
abbrev st_reading_bits : Stmt := top 44
abbrev N_reading_bits : List Str := ["readings", "coded", "code"]
theorem sc_reading_bits : FnScope N_reading_bits ["readings"] (defScope st_reading_bits) := ⟨rfl, rfl, rfl, by decide +kernel, rfl, by decide +kernel, by decide +kernel⟩
abbrev st_block_bits : Stmt := top 45
abbrev N_block_bits : List Str := ["values"]
theorem sc_block_bits : FnScope N_block_bits ["values"] (defScope st_block_bits) := ⟨rfl, rfl, rfl, by decide +kernel, rfl, by decide +kernel, by decide +kernel⟩
abbrev st_told_value : Stmt := top 47
abbrev N_told_value : List Str := ["value"]
theorem sc_told_value : FnScope N_told_value ["value"] (defScope st_told_value) := ⟨rfl, rfl, rfl, by decide +kernel, rfl, by decide +kernel, by decide +kernel⟩
abbrev st_told_values : Stmt := top 48
abbrev N_told_values : List Str := ["values", "numbers", "value"]
theorem sc_told_values : FnScope N_told_values ["values"] (defScope st_told_values) := ⟨rfl, rfl, rfl, by decide +kernel, rfl, by decide +kernel, by decide +kernel⟩
abbrev st_told_row : Stmt := top 49
abbrev N_told_row : List Str := ["numbers"]
theorem sc_told_row : FnScope N_told_row ["numbers"] (defScope st_told_row) := ⟨rfl, rfl, rfl, by decide +kernel, rfl, by decide +kernel, by decide +kernel⟩
abbrev st_blocks_of : Stmt := top 51
abbrev N_blocks_of : List Str := ["series", "values", "start"]
theorem sc_blocks_of : FnScope N_blocks_of ["series"] (defScope st_blocks_of) := ⟨rfl, rfl, rfl, by decide +kernel, rfl, by decide +kernel, by decide +kernel⟩
abbrev st_sizes_of_blocks : Stmt := top 52
abbrev N_sizes_of_blocks : List Str := ["series", "sizes", "values"]
theorem sc_sizes_of_blocks : FnScope N_sizes_of_blocks ["series"] (defScope st_sizes_of_blocks) := ⟨rfl, rfl, rfl, by decide +kernel, rfl, by decide +kernel, by decide +kernel⟩
abbrev st_bytes_of_block : Stmt := top 53
abbrev N_bytes_of_block : List Str := ["series", "number", "blocks"]
theorem sc_bytes_of_block : FnScope N_bytes_of_block ["series", "number"] (defScope st_bytes_of_block) := ⟨rfl, rfl, rfl, by decide +kernel, rfl, by decide +kernel, by decide +kernel⟩
abbrev st_codes_of_row : Stmt := top 54
abbrev N_codes_of_row : List Str := ["row", "readings", "coded", "bits"]
theorem sc_codes_of_row : FnScope N_codes_of_row ["row"] (defScope st_codes_of_row) := ⟨rfl, rfl, rfl, by decide +kernel, rfl, by decide +kernel, by decide +kernel⟩
abbrev st_bits_of_self_ending : Stmt := top 55
abbrev N_bits_of_self_ending : List Str := ["number"]
theorem sc_bits_of_self_ending : FnScope N_bits_of_self_ending ["number"] (defScope st_bits_of_self_ending) := ⟨rfl, rfl, rfl, by decide +kernel, rfl, by decide +kernel, by decide +kernel⟩
abbrev st_copy_series : Stmt := top 57
abbrev N_copy_series : List Str := ["all_series", "source", "target"]
theorem sc_copy_series : FnScope N_copy_series ["all_series", "source", "target"] (defScope st_copy_series) := ⟨rfl, rfl, rfl, by decide +kernel, rfl, by decide +kernel, by decide +kernel⟩
abbrev st_differ_at : Stmt := top 58
abbrev N_differ_at : List Str := ["series", "other", "place"]
theorem sc_differ_at : FnScope N_differ_at ["series", "other", "place"] (defScope st_differ_at) := ⟨rfl, rfl, rfl, by decide +kernel, rfl, by decide +kernel, by decide +kernel⟩
abbrev st_first_difference : Stmt := top 59
abbrev N_first_difference : List Str := ["series", "other", "start", "place"]
theorem sc_first_difference : FnScope N_first_difference ["series", "other", "start"] (defScope st_first_difference) := ⟨rfl, rfl, rfl, by decide +kernel, rfl, by decide +kernel, by decide +kernel⟩
abbrev st_is_to_fill : Stmt := top 60
abbrev N_is_to_fill : List Str := ["series", "other", "place"]
theorem sc_is_to_fill : FnScope N_is_to_fill ["series", "other", "place"] (defScope st_is_to_fill) := ⟨rfl, rfl, rfl, by decide +kernel, rfl, by decide +kernel, by decide +kernel⟩
abbrev st_fill_gaps : Stmt := top 61
abbrev N_fill_gaps : List Str := ["series", "other", "shared", "place", "places"]
theorem sc_fill_gaps : FnScope N_fill_gaps ["series", "other"] (defScope st_fill_gaps) := ⟨rfl, rfl, rfl, by decide +kernel, rfl, by decide +kernel, by decide +kernel⟩
abbrev st_get_place : Stmt := top 63
abbrev N_get_place : List Str := ["series", "place"]
theorem sc_get_place : FnScope N_get_place ["series", "place"] (defScope st_get_place) := ⟨rfl, rfl, rfl, by decide +kernel, rfl, by decide +kernel, by decide +kernel⟩
abbrev st_was_at_place : Stmt := top 64
abbrev N_was_at_place : List Str := ["series", "place", "done"]
theorem sc_was_at_place : FnScope N_was_at_place ["series", "place", "done"] (defScope st_was_at_place) := ⟨rfl, rfl, rfl, by decide +kernel, rfl, by decide +kernel, by decide +kernel⟩
abbrev st_is_span : Stmt := top 65
abbrev N_is_span : List Str := ["series", "start", "end"]
theorem sc_is_span : FnScope N_is_span ["series", "start", "end"] (defScope st_is_span) := ⟨rfl, rfl, rfl, by decide +kernel, rfl, by decide +kernel, by decide +kernel⟩
abbrev st_sum_of_span : Stmt := top 66
abbrev N_sum_of_span : List Str := ["series", "start", "end", "readings"]
theorem sc_sum_of_span : FnScope N_sum_of_span ["series", "start", "end"] (defScope st_sum_of_span) := ⟨rfl, rfl, rfl, by decide +kernel, rfl, by decide +kernel, by decide +kernel⟩
abbrev st_extremes_of_span : Stmt := top 67
abbrev N_extremes_of_span : List Str := ["series", "start", "end", "values", "readings", "least", "greatest"]
theorem sc_extremes_of_span : FnScope N_extremes_of_span ["series", "start", "end"] (defScope st_extremes_of_span) := ⟨rfl, rfl, rfl, by decide +kernel, rfl, by decide +kernel, by decide +kernel⟩
abbrev st_seek_from : Stmt := top 68
abbrev N_seek_from : List Str := ["series", "start", "bound", "place", "value"]
theorem sc_seek_from : FnScope N_seek_from ["series", "start", "bound"] (defScope st_seek_from) := ⟨rfl, rfl, rfl, by decide +kernel, rfl, by decide +kernel, by decide +kernel⟩
abbrev st_told_piece : Stmt := top 69
abbrev N_told_piece : List Str := ["values"]
theorem sc_told_piece : FnScope N_told_piece ["values"] (defScope st_told_piece) := ⟨rfl, rfl, rfl, by decide +kernel, rfl, by decide +kernel, by decide +kernel⟩
abbrev st_coarse_pieces : Stmt := top 70
abbrev N_coarse_pieces : List Str := ["series", "length", "numbers", "piece"]
theorem sc_coarse_pieces : FnScope N_coarse_pieces ["series", "length"] (defScope st_coarse_pieces) := ⟨rfl, rfl, rfl, by decide +kernel, rfl, by decide +kernel, by decide +kernel⟩
abbrev st_history_of_place : Stmt := top 71
abbrev N_history_of_place : List Str := ["series", "place"]
theorem sc_history_of_place : FnScope N_history_of_place ["series", "place"] (defScope st_history_of_place) := ⟨rfl, rfl, rfl, by decide +kernel, rfl, by decide +kernel, by decide +kernel⟩
abbrev st_state_of_all : Stmt := top 72
abbrev N_state_of_all : List Str := ["all_series", "counts", "series"]
theorem sc_state_of_all : FnScope N_state_of_all ["all_series"] (defScope st_state_of_all) := ⟨rfl, rfl, rfl, by decide +kernel, rfl, by decide +kernel, by decide +kernel⟩
abbrev st_shape_of : Stmt := top 78
abbrev N_shape_of : List Str := ["call_number"]
theorem sc_shape_of : FnScope N_shape_of ["call_number"] (defScope st_shape_of) := ⟨rfl, rfl, rfl, by decide +kernel, rfl, by decide +kernel, by decide +kernel⟩
abbrev st_is_row : Stmt := top 79
abbrev N_is_row : List Str := ["kind"]
theorem sc_is_row : FnScope N_is_row ["kind"] (defScope st_is_row) := ⟨rfl, rfl, rfl, by decide +kernel, rfl, by decide +kernel, by decide +kernel⟩
abbrev st_lies_within : Stmt := top 80
abbrev N_lies_within : List Str := ["number", "bounds"]
theorem sc_lies_within : FnScope N_lies_within ["number", "bounds"] (defScope st_lies_within) := ⟨rfl, rfl, rfl, by decide +kernel, rfl, by decide +kernel, by decide +kernel⟩
abbrev st_number_fits : Stmt := top 81
abbrev N_number_fits : List Str := ["kind", "number"]
theorem sc_number_fits : FnScope N_number_fits ["kind", "number"] (defScope st_number_fits) := ⟨rfl, rfl, rfl, by decide +kernel, rfl, by decide +kernel, by decide +kernel⟩
abbrev st_row_fits : Stmt := top 82
abbrev N_row_fits : List Str := ["kind", "row", "number"]
theorem sc_row_fits : FnScope N_row_fits ["kind", "row"] (defScope st_row_fits) := ⟨rfl, rfl, rfl, by decide +kernel, rfl, by decide +kernel, by decide +kernel⟩
abbrev st_fits : Stmt := top 83
abbrev N_fits : List Str := ["kind", "given"]
theorem sc_fits : FnScope N_fits ["kind", "given"] (defScope st_fits) := ⟨rfl, rfl, rfl, by decide +kernel, rfl, by decide +kernel, by decide +kernel⟩
abbrev st_all_fit : Stmt := top 84
abbrev N_all_fit : List Str := ["call_number", "givens", "kinds", "k"]
theorem sc_all_fit : FnScope N_all_fit ["call_number", "givens"] (defScope st_all_fit) := ⟨rfl, rfl, rfl, by decide +kernel, rfl, by decide +kernel, by decide +kernel⟩
abbrev st_BitReader___init__ : Stmt := inClass (top 89) 0
abbrev N_BitReader___init__ : List Str := ["self", "bits"]
theorem sc_BitReader___init__ : FnScope N_BitReader___init__ ["self", "bits"] (defScope st_BitReader___init__) := ⟨rfl, rfl, rfl, by decide +kernel, rfl, by decide +kernel, by decide +kernel⟩
abbrev st_BitReader_bits_left : Stmt := inClass (top 89) 1
abbrev N_BitReader_bits_left : List Str := ["self"]
theorem sc_BitReader_bits_left : FnScope N_BitReader_bits_left ["self"] (defScope st_BitReader_bits_left) := ⟨rfl, rfl, rfl, by decide +kernel, rfl, by decide +kernel, by decide +kernel⟩
abbrev st_BitReader_take_bit : Stmt := inClass (top 89) 2
abbrev N_BitReader_take_bit : List Str := ["self", "bit"]
theorem sc_BitReader_take_bit : FnScope N_BitReader_take_bit ["self"] (defScope st_BitReader_take_bit) := ⟨rfl, rfl, rfl, by decide +kernel, rfl, by decide +kernel, by decide +kernel⟩
abbrev st_BitReader_take_digits : Stmt := inClass (top 89) 3
abbrev N_BitReader_take_digits : List Str := ["self", "higher", "count", "number", "k"]
theorem sc_BitReader_take_digits : FnScope N_BitReader_take_digits ["self", "higher", "count"] (defScope st_BitReader_take_digits) := ⟨rfl, rfl, rfl, by decide +kernel, rfl, by decide +kernel, by decide +kernel⟩
abbrev st_BitReader_take_in_bits : Stmt := inClass (top 89) 4
abbrev N_BitReader_take_in_bits : List Str := ["self", "count"]
theorem sc_BitReader_take_in_bits : FnScope N_BitReader_take_in_bits ["self", "count"] (defScope st_BitReader_take_in_bits) := ⟨rfl, rfl, rfl, by decide +kernel, rfl, by decide +kernel, by decide +kernel⟩
abbrev st_BitReader_take_folded : Stmt := inClass (top 89) 5
abbrev N_BitReader_take_folded : List Str := ["self", "count"]
theorem sc_BitReader_take_folded : FnScope N_BitReader_take_folded ["self", "count"] (defScope st_BitReader_take_folded) := ⟨rfl, rfl, rfl, by decide +kernel, rfl, by decide +kernel, by decide +kernel⟩
abbrev st_BitReader_take_self_ending : Stmt := inClass (top 89) 6
abbrev N_BitReader_take_self_ending : List Str := ["self", "zeros"]
theorem sc_BitReader_take_self_ending : FnScope N_BitReader_take_self_ending ["self"] (defScope st_BitReader_take_self_ending) := ⟨rfl, rfl, rfl, by decide +kernel, rfl, by decide +kernel, by decide +kernel⟩
abbrev st_BitReader_take_folded_self_ending : Stmt := inClass (top 89) 7
abbrev N_BitReader_take_folded_self_ending : List Str := ["self"]
theorem sc_BitReader_take_folded_self_ending : FnScope N_BitReader_take_folded_self_ending ["self"] (defScope st_BitReader_take_folded_self_ending) := ⟨rfl, rfl, rfl, by decide +kernel, rfl, by decide +kernel, by decide +kernel⟩
abbrev st_sums_from : Stmt := top 96
abbrev N_sums_from : List Str := ["first", "steps", "numbers", "step"]
theorem sc_sums_from : FnScope N_sums_from ["first", "steps"] (defScope st_sums_from) := ⟨rfl, rfl, rfl, by decide +kernel, rfl, by decide +kernel, by decide +kernel⟩
abbrev st_read_plain_code : Stmt := top 97
abbrev N_read_plain_code : List Str := ["reader", "count", "wide", "k"]
theorem sc_read_plain_code : FnScope N_read_plain_code ["reader", "count"] (defScope st_read_plain_code) := ⟨rfl, rfl, rfl, by decide +kernel, rfl, by decide +kernel, by decide +kernel⟩
abbrev st_read_step_code : Stmt := top 98
abbrev N_read_step_code : List Str := ["reader", "count", "first", "wide", "k"]
theorem sc_read_step_code : FnScope N_read_step_code ["reader", "count"] (defScope st_read_step_code) := ⟨rfl, rfl, rfl, by decide +kernel, rfl, by decide +kernel, by decide +kernel⟩
abbrev st_read_change_of_step_code : Stmt := top 99
abbrev N_read_change_of_step_code : List Str := ["reader", "count", "first", "changes", "steps", "k"]
theorem sc_read_change_of_step_code : FnScope N_read_change_of_step_code ["reader", "count"] (defScope st_read_change_of_step_code) := ⟨rfl, rfl, rfl, by decide +kernel, rfl, by decide +kernel, by decide +kernel⟩
abbrev st_read_run_code : Stmt := top 100
abbrev N_read_run_code : List Str := ["reader", "count", "readings", "reading", "length"]
theorem sc_read_run_code : FnScope N_read_run_code ["reader", "count"] (defScope st_read_run_code) := ⟨rfl, rfl, rfl, by decide +kernel, rfl, by decide +kernel, by decide +kernel⟩
abbrev st_read_in_code : Stmt := top 101
abbrev N_read_in_code : List Str := ["code", "reader", "count"]
theorem sc_read_in_code : FnScope N_read_in_code ["code", "reader", "count"] (defScope st_read_in_code) := ⟨rfl, rfl, rfl, by decide +kernel, rfl, by decide +kernel, by decide +kernel⟩
abbrev st_read_readings : Stmt := top 102
abbrev N_read_readings : List Str := ["reader", "count", "code", "readings", "reading"]
theorem sc_read_readings : FnScope N_read_readings ["reader", "count"] (defScope st_read_readings) := ⟨rfl, rfl, rfl, by decide +kernel, rfl, by decide +kernel, by decide +kernel⟩
abbrev st_read_marks : Stmt := top 103
abbrev N_read_marks : List Str := ["reader", "count", "k"]
theorem sc_read_marks : FnScope N_read_marks ["reader"] (defScope st_read_marks) := ⟨rfl, rfl, rfl, by decide +kernel, rfl, by decide +kernel, by decide +kernel⟩
abbrev st_with_gaps : Stmt := top 104
abbrev N_with_gaps : List Str := ["marks", "readings", "values", "used", "mark"]
theorem sc_with_gaps : FnScope N_with_gaps ["marks", "readings"] (defScope st_with_gaps) := ⟨rfl, rfl, rfl, by decide +kernel, rfl, by decide +kernel, by decide +kernel⟩
abbrev st_read_values : Stmt := top 105
abbrev N_read_values : List Str := ["reader", "marks"]
theorem sc_read_values : FnScope N_read_values ["reader"] (defScope st_read_values) := ⟨rfl, rfl, rfl, by decide +kernel, rfl, by decide +kernel, by decide +kernel⟩
abbrev st_is_filling : Stmt := top 106
abbrev N_is_filling : List Str := ["bits"]
theorem sc_is_filling : FnScope N_is_filling ["bits"] (defScope st_is_filling) := ⟨rfl, rfl, rfl, by decide +kernel, rfl, by decide +kernel, by decide +kernel⟩
abbrev st_read_block : Stmt := top 107
abbrev N_read_block : List Str := ["row", "reader", "values"]
theorem sc_read_block : FnScope N_read_block ["row"] (defScope st_read_block) := ⟨rfl, rfl, rfl, by decide +kernel, rfl, by decide +kernel, by decide +kernel⟩
abbrev st_unpack_row : Stmt := top 109
abbrev N_unpack_row : List Str := ["row", "found"]
theorem sc_unpack_row : FnScope N_unpack_row ["row"] (defScope st_unpack_row) := ⟨rfl, rfl, rfl, by decide +kernel, rfl, by decide +kernel, by decide +kernel⟩
abbrev st_load_row : Stmt := top 110
abbrev N_load_row : List Str := ["series", "row", "found"]
theorem sc_load_row : FnScope N_load_row ["series", "row"] (defScope st_load_row) := ⟨rfl, rfl, rfl, by decide +kernel, rfl, by decide +kernel, by decide +kernel⟩
abbrev st_change_or_look : Stmt := top 112
abbrev N_change_or_look : List Str := ["call_number", "series", "givens"]
theorem sc_change_or_look : FnScope N_change_or_look ["call_number", "series", "givens"] (defScope st_change_or_look) := ⟨rfl, rfl, rfl, by decide +kernel, rfl, by decide +kernel, by decide +kernel⟩
abbrev st_survey : Stmt := top 113
abbrev N_survey : List Str := ["call_number", "series", "givens"]
theorem sc_survey : FnScope N_survey ["call_number", "series", "givens"] (defScope st_survey) := ⟨rfl, rfl, rfl, by decide +kernel, rfl, by decide +kernel, by decide +kernel⟩
abbrev st_read_or_code : Stmt := top 114
abbrev N_read_or_code : List Str := ["call_number", "all_series", "givens"]
theorem sc_read_or_code : FnScope N_read_or_code ["call_number", "all_series", "givens"] (defScope st_read_or_code) := ⟨rfl, rfl, rfl, by decide +kernel, rfl, by decide +kernel, by decide +kernel⟩
abbrev st_pair_or_trace : Stmt := top 115
abbrev N_pair_or_trace : List Str := ["call_number", "all_series", "givens"]
theorem sc_pair_or_trace : FnScope N_pair_or_trace ["call_number", "all_series", "givens"] (defScope st_pair_or_trace) := ⟨rfl, rfl, rfl, by decide +kernel, rfl, by decide +kernel, by decide +kernel⟩
abbrev st_answer_of : Stmt := top 116
abbrev N_answer_of : List Str := ["all_series", "call_number", "givens"]
theorem sc_answer_of : FnScope N_answer_of ["all_series", "call_number", "givens"] (defScope st_answer_of) := ⟨rfl, rfl, rfl, by decide +kernel, rfl, by decide +kernel, by decide +kernel⟩
abbrev st_Series___init__ : Stmt := inClass (top 118) 0
abbrev N_Series___init__ : List Str := ["self"]
theorem sc_Series___init__ : FnScope N_Series___init__ ["self"] (defScope st_Series___init__) := ⟨rfl, rfl, rfl, by decide +kernel, rfl, by decide +kernel, by decide +kernel⟩
abbrev st_Series_make_empty : Stmt := inClass (top 118) 1
abbrev N_Series_make_empty : List Str := ["self"]
theorem sc_Series_make_empty : FnScope N_Series_make_empty ["self"] (defScope st_Series_make_empty) := ⟨rfl, rfl, rfl, by decide +kernel, rfl, by decide +kernel, by decide +kernel⟩
abbrev st_Series_place_count : Stmt := inClass (top 118) 2
abbrev N_Series_place_count : List Str := ["self"]
theorem sc_Series_place_count : FnScope N_Series_place_count ["self"] (defScope st_Series_place_count) := ⟨rfl, rfl, rfl, by decide +kernel, rfl, by decide +kernel, by decide +kernel⟩
abbrev st_Series_has_place : Stmt := inClass (top 118) 3
abbrev N_Series_has_place : List Str := ["self", "place"]
theorem sc_Series_has_place : FnScope N_Series_has_place ["self", "place"] (defScope st_Series_has_place) := ⟨rfl, rfl, rfl, by decide +kernel, rfl, by decide +kernel, by decide +kernel⟩
abbrev st_Series_correction_count : Stmt := inClass (top 118) 4
abbrev N_Series_correction_count : List Str := ["self"]
theorem sc_Series_correction_count : FnScope N_Series_correction_count ["self"] (defScope st_Series_correction_count) := ⟨rfl, rfl, rfl, by decide +kernel, rfl, by decide +kernel, by decide +kernel⟩
abbrev st_Series_put_behind : Stmt := inClass (top 118) 5
abbrev N_Series_put_behind : List Str := ["self", "row"]
theorem sc_Series_put_behind : FnScope N_Series_put_behind ["self", "row"] (defScope st_Series_put_behind) := ⟨rfl, rfl, rfl, by decide +kernel, rfl, by decide +kernel, by decide +kernel⟩
abbrev st_Series_correct : Stmt := inClass (top 118) 6
abbrev N_Series_correct : List Str := ["self", "place", "value"]
theorem sc_Series_correct : FnScope N_Series_correct ["self", "place", "value"] (defScope st_Series_correct) := ⟨rfl, rfl, rfl, by decide +kernel, rfl, by decide +kernel, by decide +kernel⟩
abbrev st_Series_take_over : Stmt := inClass (top 118) 7
abbrev N_Series_take_over : List Str := ["self", "other"]
theorem sc_Series_take_over : FnScope N_Series_take_over ["self", "other"] (defScope st_Series_take_over) := ⟨rfl, rfl, rfl, by decide +kernel, rfl, by decide +kernel, by decide +kernel⟩
abbrev st_Series_cut_from : Stmt := inClass (top 118) 8
abbrev N_Series_cut_from : List Str := ["self", "start", "correction"]
theorem sc_Series_cut_from : FnScope N_Series_cut_from ["self", "start"] (defScope st_Series_cut_from) := ⟨rfl, rfl, rfl, by decide +kernel, rfl, by decide +kernel, by decide +kernel⟩
abbrev st_Series_values_up_to : Stmt := inClass (top 118) 9
abbrev N_Series_values_up_to : List Str := ["self", "place", "done", "put"]
theorem sc_Series_values_up_to : FnScope N_Series_values_up_to ["self", "place", "done"] (defScope st_Series_values_up_to) := ⟨rfl, rfl, rfl, by decide +kernel, rfl, by decide +kernel, by decide +kernel⟩
abbrev st_Series_value_as_of : Stmt := inClass (top 118) 10
abbrev N_Series_value_as_of : List Str := ["self", "place", "done", "values"]
theorem sc_Series_value_as_of : FnScope N_Series_value_as_of ["self", "place", "done"] (defScope st_Series_value_as_of) := ⟨rfl, rfl, rfl, by decide +kernel, rfl, by decide +kernel, by decide +kernel⟩
abbrev st_Reader___init__ : Stmt := inClass (top 120) 0
abbrev N_Reader___init__ : List Str := ["self", "numbers"]
theorem sc_Reader___init__ : FnScope N_Reader___init__ ["self", "numbers"] (defScope st_Reader___init__) := ⟨rfl, rfl, rfl, by decide +kernel, rfl, by decide +kernel, by decide +kernel⟩
abbrev st_Reader_has_more : Stmt := inClass (top 120) 1
abbrev N_Reader_has_more : List Str := ["self"]
theorem sc_Reader_has_more : FnScope N_Reader_has_more ["self"] (defScope st_Reader_has_more) := ⟨rfl, rfl, rfl, by decide +kernel, rfl, by decide +kernel, by decide +kernel⟩
abbrev st_Reader_take_number : Stmt := inClass (top 120) 2
abbrev N_Reader_take_number : List Str := ["self", "number"]
theorem sc_Reader_take_number : FnScope N_Reader_take_number ["self"] (defScope st_Reader_take_number) := ⟨rfl, rfl, rfl, by decide +kernel, rfl, by decide +kernel, by decide +kernel⟩
abbrev st_Reader_take_row : Stmt := inClass (top 120) 3
abbrev N_Reader_take_row : List Str := ["self", "length", "row"]
theorem sc_Reader_take_row : FnScope N_Reader_take_row ["self"] (defScope st_Reader_take_row) := ⟨rfl, rfl, rfl, by decide +kernel, rfl, by decide +kernel, by decide +kernel⟩
abbrev st_Reader_take_kind : Stmt := inClass (top 120) 4
abbrev N_Reader_take_kind : List Str := ["self", "kind"]
theorem sc_Reader_take_kind : FnScope N_Reader_take_kind ["self", "kind"] (defScope st_Reader_take_kind) := ⟨rfl, rfl, rfl, by decide +kernel, rfl, by decide +kernel, by decide +kernel⟩
abbrev st_take_givens : Stmt := top 121
abbrev N_take_givens : List Str := ["reader", "call_number", "givens", "kind"]
theorem sc_take_givens : FnScope N_take_givens ["reader", "call_number"] (defScope st_take_givens) := ⟨rfl, rfl, rfl, by decide +kernel, rfl, by decide +kernel, by decide +kernel⟩
abbrev st_answers : Stmt := top 122
abbrev N_answers : List Str := ["calls", "all_series", "reader", "told", "call_number", "answer", "number"]
theorem sc_answers : FnScope N_answers ["calls"] (defScope st_answers) := ⟨rfl, rfl, rfl, by decide +kernel, rfl, by decide +kernel, by decide +kernel⟩
def df_clear_series : He.DefD := ⟨("clear_series", none), "clear_series", "clear_series", defArgs st_clear_series, defBody st_clear_series, defScope st_clear_series, [], []⟩
def df_add_row : He.DefD := ⟨("add_row", none), "add_row", "add_row", defArgs st_add_row, defBody st_add_row, defScope st_add_row, [], []⟩
def df_fix_place : He.DefD := ⟨("fix_place", none), "fix_place", "fix_place", defArgs st_fix_place, defBody st_fix_place, defScope st_fix_place, [], []⟩
def df_trim_series : He.DefD := ⟨("trim_series", none), "trim_series", "trim_series", defArgs st_trim_series, defBody st_trim_series, defScope st_trim_series, [], []⟩
def df_folded : He.DefD := ⟨("folded", none), "folded", "folded", defArgs st_folded, defBody st_folded, defScope st_folded, [], []⟩
def df_unfolded : He.DefD := ⟨("unfolded", none), "unfolded", "unfolded", defArgs st_unfolded, defBody st_unfolded, defScope st_unfolded, [], []⟩
def df_width : He.DefD := ⟨("width", none), "width", "width", defArgs st_width, defBody st_width, defScope st_width, [], []⟩
def df_in_bits : He.DefD := ⟨("in_bits", none), "in_bits", "in_bits", defArgs st_in_bits, defBody st_in_bits, defScope st_in_bits, [], []⟩
def df_all_in_bits : He.DefD := ⟨("all_in_bits", none), "all_in_bits", "all_in_bits", defArgs st_all_in_bits, defBody st_all_in_bits, defScope st_all_in_bits, [], []⟩
def df_self_ending : He.DefD := ⟨("self_ending", none), "self_ending", "self_ending", defArgs st_self_ending, defBody st_self_ending, defScope st_self_ending, [], []⟩
def df_folded_self_ending : He.DefD := ⟨("folded_self_ending", none), "folded_self_ending", "folded_self_ending", defArgs st_folded_self_ending, defBody st_folded_self_ending, defScope st_folded_self_ending, [], []⟩
def df_byte_at : He.DefD := ⟨("byte_at", none), "byte_at", "byte_at", defArgs st_byte_at, defBody st_byte_at, defScope st_byte_at, [], []⟩
def df_as_bytes : He.DefD := ⟨("as_bytes", none), "as_bytes", "as_bytes", defArgs st_as_bytes, defBody st_as_bytes, defScope st_as_bytes, [], []⟩
def df_is_reading : He.DefD := ⟨("is_reading", none), "is_reading", "is_reading", defArgs st_is_reading, defBody st_is_reading, defScope st_is_reading, [], []⟩
def df_readings_in : He.DefD := ⟨("readings_in", none), "readings_in", "readings_in", defArgs st_readings_in, defBody st_readings_in, defScope st_readings_in, [], []⟩
def df_steps_between : He.DefD := ⟨("steps_between", none), "steps_between", "steps_between", defArgs st_steps_between, defBody st_steps_between, defScope st_steps_between, [], []⟩
def df_greatest_width : He.DefD := ⟨("greatest_width", none), "greatest_width", "greatest_width", defArgs st_greatest_width, defBody st_greatest_width, defScope st_greatest_width, [], []⟩
def df_plain_code : He.DefD := ⟨("plain_code", none), "plain_code", "plain_code", defArgs st_plain_code, defBody st_plain_code, defScope st_plain_code, [], []⟩
def df_step_code : He.DefD := ⟨("step_code", none), "step_code", "step_code", defArgs st_step_code, defBody st_step_code, defScope st_step_code, [], []⟩
def df_change_of_step_code : He.DefD := ⟨("change_of_step_code", none), "change_of_step_code", "change_of_step_code", defArgs st_change_of_step_code, defBody st_change_of_step_code, defScope st_change_of_step_code, [], []⟩
def df_run_end : He.DefD := ⟨("run_end", none), "run_end", "run_end", defArgs st_run_end, defBody st_run_end, defScope st_run_end, [], []⟩
def df_run_code : He.DefD := ⟨("run_code", none), "run_code", "run_code", defArgs st_run_code, defBody st_run_code, defScope st_run_code, [], []⟩
def df_in_each_code : He.DefD := ⟨("in_each_code", none), "in_each_code", "in_each_code", defArgs st_in_each_code, defBody st_in_each_code, defScope st_in_each_code, [], []⟩
def df_shortest_code : He.DefD := ⟨("shortest_code", none), "shortest_code", "shortest_code", defArgs st_shortest_code, defBody st_shortest_code, defScope st_shortest_code, [], []⟩
def df_gap_bits : He.DefD := ⟨("gap_bits", none), "gap_bits", "gap_bits", defArgs st_gap_bits, defBody st_gap_bits, defScope st_gap_bits, [], []⟩
def df_reading_bits : He.DefD := ⟨("reading_bits", none), "reading_bits", "reading_bits", defArgs st_reading_bits, defBody st_reading_bits, defScope st_reading_bits, [], []⟩
def df_block_bits : He.DefD := ⟨("block_bits", none), "block_bits", "block_bits", defArgs st_block_bits, defBody st_block_bits, defScope st_block_bits, [], []⟩
def df_told_value : He.DefD := ⟨("told_value", none), "told_value", "told_value", defArgs st_told_value, defBody st_told_value, defScope st_told_value, [], []⟩
def df_told_values : He.DefD := ⟨("told_values", none), "told_values", "told_values", defArgs st_told_values, defBody st_told_values, defScope st_told_values, [], []⟩
def df_told_row : He.DefD := ⟨("told_row", none), "told_row", "told_row", defArgs st_told_row, defBody st_told_row, defScope st_told_row, [], []⟩
def df_blocks_of : He.DefD := ⟨("blocks_of", none), "blocks_of", "blocks_of", defArgs st_blocks_of, defBody st_blocks_of, defScope st_blocks_of, [], []⟩
def df_sizes_of_blocks : He.DefD := ⟨("sizes_of_blocks", none), "sizes_of_blocks", "sizes_of_blocks", defArgs st_sizes_of_blocks, defBody st_sizes_of_blocks, defScope st_sizes_of_blocks, [], []⟩
def df_bytes_of_block : He.DefD := ⟨("bytes_of_block", none), "bytes_of_block", "bytes_of_block", defArgs st_bytes_of_block, defBody st_bytes_of_block, defScope st_bytes_of_block, [], []⟩
def df_codes_of_row : He.DefD := ⟨("codes_of_row", none), "codes_of_row", "codes_of_row", defArgs st_codes_of_row, defBody st_codes_of_row, defScope st_codes_of_row, [], []⟩
def df_bits_of_self_ending : He.DefD := ⟨("bits_of_self_ending", none), "bits_of_self_ending", "bits_of_self_ending", defArgs st_bits_of_self_ending, defBody st_bits_of_self_ending, defScope st_bits_of_self_ending, [], []⟩
def df_copy_series : He.DefD := ⟨("copy_series", none), "copy_series", "copy_series", defArgs st_copy_series, defBody st_copy_series, defScope st_copy_series, [], []⟩
def df_differ_at : He.DefD := ⟨("differ_at", none), "differ_at", "differ_at", defArgs st_differ_at, defBody st_differ_at, defScope st_differ_at, [], []⟩
def df_first_difference : He.DefD := ⟨("first_difference", none), "first_difference", "first_difference", defArgs st_first_difference, defBody st_first_difference, defScope st_first_difference, [], []⟩
def df_is_to_fill : He.DefD := ⟨("is_to_fill", none), "is_to_fill", "is_to_fill", defArgs st_is_to_fill, defBody st_is_to_fill, defScope st_is_to_fill, [], []⟩
def df_fill_gaps : He.DefD := ⟨("fill_gaps", none), "fill_gaps", "fill_gaps", defArgs st_fill_gaps, defBody st_fill_gaps, defScope st_fill_gaps, [], []⟩
def df_get_place : He.DefD := ⟨("get_place", none), "get_place", "get_place", defArgs st_get_place, defBody st_get_place, defScope st_get_place, [], []⟩
def df_was_at_place : He.DefD := ⟨("was_at_place", none), "was_at_place", "was_at_place", defArgs st_was_at_place, defBody st_was_at_place, defScope st_was_at_place, [], []⟩
def df_is_span : He.DefD := ⟨("is_span", none), "is_span", "is_span", defArgs st_is_span, defBody st_is_span, defScope st_is_span, [], []⟩
def df_sum_of_span : He.DefD := ⟨("sum_of_span", none), "sum_of_span", "sum_of_span", defArgs st_sum_of_span, defBody st_sum_of_span, defScope st_sum_of_span, [], []⟩
def df_extremes_of_span : He.DefD := ⟨("extremes_of_span", none), "extremes_of_span", "extremes_of_span", defArgs st_extremes_of_span, defBody st_extremes_of_span, defScope st_extremes_of_span, [], []⟩
def df_seek_from : He.DefD := ⟨("seek_from", none), "seek_from", "seek_from", defArgs st_seek_from, defBody st_seek_from, defScope st_seek_from, [], []⟩
def df_told_piece : He.DefD := ⟨("told_piece", none), "told_piece", "told_piece", defArgs st_told_piece, defBody st_told_piece, defScope st_told_piece, [], []⟩
def df_coarse_pieces : He.DefD := ⟨("coarse_pieces", none), "coarse_pieces", "coarse_pieces", defArgs st_coarse_pieces, defBody st_coarse_pieces, defScope st_coarse_pieces, [], []⟩
def df_history_of_place : He.DefD := ⟨("history_of_place", none), "history_of_place", "history_of_place", defArgs st_history_of_place, defBody st_history_of_place, defScope st_history_of_place, [], []⟩
def df_state_of_all : He.DefD := ⟨("state_of_all", none), "state_of_all", "state_of_all", defArgs st_state_of_all, defBody st_state_of_all, defScope st_state_of_all, [], []⟩
def df_shape_of : He.DefD := ⟨("shape_of", none), "shape_of", "shape_of", defArgs st_shape_of, defBody st_shape_of, defScope st_shape_of, [], []⟩
def df_is_row : He.DefD := ⟨("is_row", none), "is_row", "is_row", defArgs st_is_row, defBody st_is_row, defScope st_is_row, [], []⟩
def df_lies_within : He.DefD := ⟨("lies_within", none), "lies_within", "lies_within", defArgs st_lies_within, defBody st_lies_within, defScope st_lies_within, [], []⟩
def df_number_fits : He.DefD := ⟨("number_fits", none), "number_fits", "number_fits", defArgs st_number_fits, defBody st_number_fits, defScope st_number_fits, [], []⟩
def df_row_fits : He.DefD := ⟨("row_fits", none), "row_fits", "row_fits", defArgs st_row_fits, defBody st_row_fits, defScope st_row_fits, [], []⟩
def df_fits : He.DefD := ⟨("fits", none), "fits", "fits", defArgs st_fits, defBody st_fits, defScope st_fits, [], []⟩
def df_all_fit : He.DefD := ⟨("all_fit", none), "all_fit", "all_fit", defArgs st_all_fit, defBody st_all_fit, defScope st_all_fit, [], []⟩
def df_BitReader___init__ : He.DefD := ⟨("BitReader", some "__init__"), "__init__", "BitReader.__init__", defArgs st_BitReader___init__, defBody st_BitReader___init__, defScope st_BitReader___init__, [], []⟩
def df_BitReader_bits_left : He.DefD := ⟨("BitReader", some "bits_left"), "bits_left", "BitReader.bits_left", defArgs st_BitReader_bits_left, defBody st_BitReader_bits_left, defScope st_BitReader_bits_left, [], []⟩
def df_BitReader_take_bit : He.DefD := ⟨("BitReader", some "take_bit"), "take_bit", "BitReader.take_bit", defArgs st_BitReader_take_bit, defBody st_BitReader_take_bit, defScope st_BitReader_take_bit, [], []⟩
def df_BitReader_take_digits : He.DefD := ⟨("BitReader", some "take_digits"), "take_digits", "BitReader.take_digits", defArgs st_BitReader_take_digits, defBody st_BitReader_take_digits, defScope st_BitReader_take_digits, [], []⟩
def df_BitReader_take_in_bits : He.DefD := ⟨("BitReader", some "take_in_bits"), "take_in_bits", "BitReader.take_in_bits", defArgs st_BitReader_take_in_bits, defBody st_BitReader_take_in_bits, defScope st_BitReader_take_in_bits, [], []⟩
def df_BitReader_take_folded : He.DefD := ⟨("BitReader", some "take_folded"), "take_folded", "BitReader.take_folded", defArgs st_BitReader_take_folded, defBody st_BitReader_take_folded, defScope st_BitReader_take_folded, [], []⟩
def df_BitReader_take_self_ending : He.DefD := ⟨("BitReader", some "take_self_ending"), "take_self_ending", "BitReader.take_self_ending", defArgs st_BitReader_take_self_ending, defBody st_BitReader_take_self_ending, defScope st_BitReader_take_self_ending, [], []⟩
def df_BitReader_take_folded_self_ending : He.DefD := ⟨("BitReader", some "take_folded_self_ending"), "take_folded_self_ending", "BitReader.take_folded_self_ending", defArgs st_BitReader_take_folded_self_ending, defBody st_BitReader_take_folded_self_ending, defScope st_BitReader_take_folded_self_ending, [], []⟩
def df_sums_from : He.DefD := ⟨("sums_from", none), "sums_from", "sums_from", defArgs st_sums_from, defBody st_sums_from, defScope st_sums_from, [], []⟩
def df_read_plain_code : He.DefD := ⟨("read_plain_code", none), "read_plain_code", "read_plain_code", defArgs st_read_plain_code, defBody st_read_plain_code, defScope st_read_plain_code, [], []⟩
def df_read_step_code : He.DefD := ⟨("read_step_code", none), "read_step_code", "read_step_code", defArgs st_read_step_code, defBody st_read_step_code, defScope st_read_step_code, [], []⟩
def df_read_change_of_step_code : He.DefD := ⟨("read_change_of_step_code", none), "read_change_of_step_code", "read_change_of_step_code", defArgs st_read_change_of_step_code, defBody st_read_change_of_step_code, defScope st_read_change_of_step_code, [], []⟩
def df_read_run_code : He.DefD := ⟨("read_run_code", none), "read_run_code", "read_run_code", defArgs st_read_run_code, defBody st_read_run_code, defScope st_read_run_code, [], []⟩
def df_read_in_code : He.DefD := ⟨("read_in_code", none), "read_in_code", "read_in_code", defArgs st_read_in_code, defBody st_read_in_code, defScope st_read_in_code, [], []⟩
def df_read_readings : He.DefD := ⟨("read_readings", none), "read_readings", "read_readings", defArgs st_read_readings, defBody st_read_readings, defScope st_read_readings, [], []⟩
def df_read_marks : He.DefD := ⟨("read_marks", none), "read_marks", "read_marks", defArgs st_read_marks, defBody st_read_marks, defScope st_read_marks, [], []⟩
def df_with_gaps : He.DefD := ⟨("with_gaps", none), "with_gaps", "with_gaps", defArgs st_with_gaps, defBody st_with_gaps, defScope st_with_gaps, [], []⟩
def df_read_values : He.DefD := ⟨("read_values", none), "read_values", "read_values", defArgs st_read_values, defBody st_read_values, defScope st_read_values, [], []⟩
def df_is_filling : He.DefD := ⟨("is_filling", none), "is_filling", "is_filling", defArgs st_is_filling, defBody st_is_filling, defScope st_is_filling, [], []⟩
def df_read_block : He.DefD := ⟨("read_block", none), "read_block", "read_block", defArgs st_read_block, defBody st_read_block, defScope st_read_block, [], []⟩
def df_unpack_row : He.DefD := ⟨("unpack_row", none), "unpack_row", "unpack_row", defArgs st_unpack_row, defBody st_unpack_row, defScope st_unpack_row, [], []⟩
def df_load_row : He.DefD := ⟨("load_row", none), "load_row", "load_row", defArgs st_load_row, defBody st_load_row, defScope st_load_row, [], []⟩
def df_change_or_look : He.DefD := ⟨("change_or_look", none), "change_or_look", "change_or_look", defArgs st_change_or_look, defBody st_change_or_look, defScope st_change_or_look, [], []⟩
def df_survey : He.DefD := ⟨("survey", none), "survey", "survey", defArgs st_survey, defBody st_survey, defScope st_survey, [], []⟩
def df_read_or_code : He.DefD := ⟨("read_or_code", none), "read_or_code", "read_or_code", defArgs st_read_or_code, defBody st_read_or_code, defScope st_read_or_code, [], []⟩
def df_pair_or_trace : He.DefD := ⟨("pair_or_trace", none), "pair_or_trace", "pair_or_trace", defArgs st_pair_or_trace, defBody st_pair_or_trace, defScope st_pair_or_trace, [], []⟩
def df_answer_of : He.DefD := ⟨("answer_of", none), "answer_of", "answer_of", defArgs st_answer_of, defBody st_answer_of, defScope st_answer_of, [], []⟩
def df_Series___init__ : He.DefD := ⟨("Series", some "__init__"), "__init__", "Series.__init__", defArgs st_Series___init__, defBody st_Series___init__, defScope st_Series___init__, [], []⟩
def df_Series_make_empty : He.DefD := ⟨("Series", some "make_empty"), "make_empty", "Series.make_empty", defArgs st_Series_make_empty, defBody st_Series_make_empty, defScope st_Series_make_empty, [], []⟩
def df_Series_place_count : He.DefD := ⟨("Series", some "place_count"), "place_count", "Series.place_count", defArgs st_Series_place_count, defBody st_Series_place_count, defScope st_Series_place_count, [], []⟩
def df_Series_has_place : He.DefD := ⟨("Series", some "has_place"), "has_place", "Series.has_place", defArgs st_Series_has_place, defBody st_Series_has_place, defScope st_Series_has_place, [], []⟩
def df_Series_correction_count : He.DefD := ⟨("Series", some "correction_count"), "correction_count", "Series.correction_count", defArgs st_Series_correction_count, defBody st_Series_correction_count, defScope st_Series_correction_count, [], []⟩
def df_Series_put_behind : He.DefD := ⟨("Series", some "put_behind"), "put_behind", "Series.put_behind", defArgs st_Series_put_behind, defBody st_Series_put_behind, defScope st_Series_put_behind, [], []⟩
def df_Series_correct : He.DefD := ⟨("Series", some "correct"), "correct", "Series.correct", defArgs st_Series_correct, defBody st_Series_correct, defScope st_Series_correct, [], []⟩
def df_Series_take_over : He.DefD := ⟨("Series", some "take_over"), "take_over", "Series.take_over", defArgs st_Series_take_over, defBody st_Series_take_over, defScope st_Series_take_over, [], []⟩
def df_Series_cut_from : He.DefD := ⟨("Series", some "cut_from"), "cut_from", "Series.cut_from", defArgs st_Series_cut_from, defBody st_Series_cut_from, defScope st_Series_cut_from, [], []⟩
def df_Series_values_up_to : He.DefD := ⟨("Series", some "values_up_to"), "values_up_to", "Series.values_up_to", defArgs st_Series_values_up_to, defBody st_Series_values_up_to, defScope st_Series_values_up_to, [], []⟩
def df_Series_value_as_of : He.DefD := ⟨("Series", some "value_as_of"), "value_as_of", "Series.value_as_of", defArgs st_Series_value_as_of, defBody st_Series_value_as_of, defScope st_Series_value_as_of, [], []⟩
def df_Reader___init__ : He.DefD := ⟨("Reader", some "__init__"), "__init__", "Reader.__init__", defArgs st_Reader___init__, defBody st_Reader___init__, defScope st_Reader___init__, [], []⟩
def df_Reader_has_more : He.DefD := ⟨("Reader", some "has_more"), "has_more", "Reader.has_more", defArgs st_Reader_has_more, defBody st_Reader_has_more, defScope st_Reader_has_more, [], []⟩
def df_Reader_take_number : He.DefD := ⟨("Reader", some "take_number"), "take_number", "Reader.take_number", defArgs st_Reader_take_number, defBody st_Reader_take_number, defScope st_Reader_take_number, [], []⟩
def df_Reader_take_row : He.DefD := ⟨("Reader", some "take_row"), "take_row", "Reader.take_row", defArgs st_Reader_take_row, defBody st_Reader_take_row, defScope st_Reader_take_row, [], []⟩
def df_Reader_take_kind : He.DefD := ⟨("Reader", some "take_kind"), "take_kind", "Reader.take_kind", defArgs st_Reader_take_kind, defBody st_Reader_take_kind, defScope st_Reader_take_kind, [], []⟩
def df_take_givens : He.DefD := ⟨("take_givens", none), "take_givens", "take_givens", defArgs st_take_givens, defBody st_take_givens, defScope st_take_givens, [], []⟩
def df_answers : He.DefD := ⟨("answers", none), "answers", "answers", defArgs st_answers, defBody st_answers, defScope st_answers, [], []⟩
def ch0_fa : List He.Fa := [.glo "clear_series", .glo "add_row", .glo "fix_place", .glo "trim_series", .glo "folded", .glo "unfolded", .glo "width", .glo "in_bits", .glo "all_in_bits", .glo "self_ending", .glo "folded_self_ending", .glo "byte_at", .glo "as_bytes", .glo "is_reading", .glo "readings_in", .glo "steps_between", .glo "greatest_width", .glo "plain_code", .glo "step_code", .glo "change_of_step_code", .glo "run_end", .glo "run_code", .glo "in_each_code", .glo "shortest_code", .glo "gap_bits", .glo "reading_bits", .glo "block_bits", .glo "told_value", .glo "told_values", .glo "told_row", .glo "blocks_of", .glo "sizes_of_blocks", .glo "bytes_of_block", .glo "codes_of_row", .glo "bits_of_self_ending", .glo "copy_series", .glo "differ_at", .glo "first_difference", .glo "is_to_fill", .glo "fill_gaps", .glo "get_place", .glo "was_at_place", .glo "is_span", .glo "sum_of_span", .glo "extremes_of_span", .glo "seek_from", .glo "told_piece", .glo "coarse_pieces", .glo "history_of_place", .glo "state_of_all", .glo "shape_of", .glo "is_row", .glo "lies_within", .glo "number_fits", .glo "row_fits", .glo "fits", .glo "all_fit", .glo "sums_from", .glo "read_plain_code", .glo "read_step_code", .glo "read_change_of_step_code", .glo "read_run_code", .glo "read_in_code", .glo "read_readings", .glo "read_marks", .glo "with_gaps", .glo "read_values", .glo "is_filling", .glo "read_block", .glo "unpack_row", .glo "load_row", .glo "change_or_look", .glo "survey", .glo "read_or_code", .glo "pair_or_trace", .glo "answer_of", .glo "take_givens", .glo "answers", .glo "BitReader", .cls "BitReader", .mkr "BitReader", .noat "BitReader" "bits", .noat "BitReader" "at", .meth "BitReader" "bits_left", .meth "BitReader" "take_bit", .meth "BitReader" "take_digits", .meth "BitReader" "take_in_bits", .meth "BitReader" "take_folded", .meth "BitReader" "take_self_ending", .meth "BitReader" "take_folded_self_ending", .glo "Series", .cls "Series", .mkr "Series", .noat "Series" "added", .noat "Series" "corrections", .noat "Series" "standing", .meth "Series" "make_empty", .meth "Series" "place_count", .meth "Series" "has_place", .meth "Series" "correction_count", .meth "Series" "put_behind", .meth "Series" "correct", .meth "Series" "take_over", .meth "Series" "cut_from", .meth "Series" "values_up_to", .meth "Series" "value_as_of", .glo "Reader", .cls "Reader", .mkr "Reader", .noat "Reader" "numbers", .noat "Reader" "at", .meth "Reader" "has_more", .meth "Reader" "take_number", .meth "Reader" "take_row", .meth "Reader" "take_kind", .glo "BitsLack", .glo "WrongNumber", .glo "RANGES", .glo "ROW_LENGTHS", .glo "ROW_MEMBERS", .glo "SHAPES", .int "SERIES_COUNT" (4), .int "MOST_PLACES" (400), .int "MOST_CORRECTIONS" (60), .int "BLOCK_LENGTH" (16), .int "NOT_AS_TOLD" (-1), .int "WRONG_BYTES" (-3), .int "NO_SUCH_PLACE" (-4), .int "FULL" (-5), .int "TOO_FEW_CORRECTIONS" (-6), .int "SAME_SERIES" (-6), .int "STANDS_ALREADY" (-7), .int "NO_READING" (-8), .int "LEAST_READING" (-1000000000), .int "GREATEST_READING" (1000000000), .int "GAP" (2000000000), .int "MOST_ZEROS" (40), .int "NOTHING_WRONG" (0), .int "BITS_LACK" (1), .int "WRONG_NUMBER" (2), .int "BITS_LEFT_OVER" (3), .int "OTHER_BYTES" (4), .free "all", .free "len", .free "list", .free "max", .free "min", .free "range", .free "sum"]
def ch0_fn : List He.DefD := []
def ch0_ts : List He.Tab := [(fun K => He.ga K "RANGES", ["series", "place", "correction count", "seek bound", "piece length", "block number", "byte", "self-ending number"]), (fun K => He.ga K "ROW_LENGTHS", ["values", "block values", "bytes"]), (fun K => He.ga K "ROW_MEMBERS", ["values", "block values", "bytes"])]
def ch0_xl : PySem.W.Frag → List Bool := fun _ => []
def ch0 : Chunk := ⟨ch0_fa, ch0_fn, ch0_ts, ch0_xl⟩
def ch1_fa : List He.Fa := []
def ch1_fn : List He.DefD := [df_clear_series, df_add_row, df_fix_place, df_trim_series, df_folded, df_unfolded, df_width, df_in_bits, df_all_in_bits, df_self_ending, df_folded_self_ending, df_byte_at, df_as_bytes, df_is_reading, df_readings_in, df_steps_between, df_greatest_width, df_plain_code, df_step_code, df_change_of_step_code, df_run_end, df_run_code, df_in_each_code, df_shortest_code, df_gap_bits, df_reading_bits, df_block_bits, df_told_value, df_told_values, df_told_row, df_blocks_of, df_sizes_of_blocks, df_bytes_of_block, df_codes_of_row, df_bits_of_self_ending, df_copy_series, df_differ_at, df_first_difference, df_is_to_fill, df_fill_gaps, df_get_place, df_was_at_place, df_is_span, df_sum_of_span, df_extremes_of_span, df_seek_from, df_told_piece, df_coarse_pieces, df_history_of_place, df_state_of_all, df_shape_of, df_is_row, df_lies_within, df_number_fits, df_row_fits, df_fits, df_all_fit, df_BitReader___init__, df_BitReader_bits_left, df_BitReader_take_bit, df_BitReader_take_digits, df_BitReader_take_in_bits, df_BitReader_take_folded, df_BitReader_take_self_ending, df_BitReader_take_folded_self_ending, df_sums_from, df_read_plain_code, df_read_step_code, df_read_change_of_step_code, df_read_run_code, df_read_in_code, df_read_readings, df_read_marks, df_with_gaps, df_read_values, df_is_filling, df_read_block, df_unpack_row, df_load_row, df_change_or_look, df_survey, df_read_or_code, df_pair_or_trace, df_answer_of, df_Series___init__, df_Series_make_empty, df_Series_place_count, df_Series_has_place, df_Series_correction_count, df_Series_put_behind, df_Series_correct, df_Series_take_over, df_Series_cut_from, df_Series_values_up_to, df_Series_value_as_of, df_Reader___init__, df_Reader_has_more, df_Reader_take_number, df_Reader_take_row, df_Reader_take_kind, df_take_givens, df_answers]
def ch1_ts : List He.Tab := []
def ch1_xl : PySem.W.Frag → List Bool := fun _ => []
def ch1 : Chunk := ⟨ch1_fa, ch1_fn, ch1_ts, ch1_xl⟩
def ch2_fa : List He.Fa := []
def ch2_fn : List He.DefD := []
def ch2_ts : List He.Tab := []
def ch2_xl : PySem.W.Frag → List Bool := fun K => [valS K (He.ga K "RANGES") "series" (.ref (tS K (He.ga K "RANGES") "series")), tupAt K (tS K (He.ga K "RANGES") "series") [(.int (0) : V), (.int (3) : V)], valS K (He.ga K "RANGES") "place" (.ref (tS K (He.ga K "RANGES") "place")), tupAt K (tS K (He.ga K "RANGES") "place") [(.int (0) : V), (.int (400) : V)], valS K (He.ga K "RANGES") "correction count" (.ref (tS K (He.ga K "RANGES") "correction count")), tupAt K (tS K (He.ga K "RANGES") "correction count") [(.int (0) : V), (.int (100) : V)], valS K (He.ga K "RANGES") "seek bound" (.ref (tS K (He.ga K "RANGES") "seek bound")), tupAt K (tS K (He.ga K "RANGES") "seek bound") [(.int (-2000000000) : V), (.int (2000000000) : V)], valS K (He.ga K "RANGES") "piece length" (.ref (tS K (He.ga K "RANGES") "piece length")), tupAt K (tS K (He.ga K "RANGES") "piece length") [(.int (1) : V), (.int (96) : V)], valS K (He.ga K "RANGES") "block number" (.ref (tS K (He.ga K "RANGES") "block number")), tupAt K (tS K (He.ga K "RANGES") "block number") [(.int (0) : V), (.int (30) : V)], valS K (He.ga K "RANGES") "byte" (.ref (tS K (He.ga K "RANGES") "byte")), tupAt K (tS K (He.ga K "RANGES") "byte") [(.int (0) : V), (.int (255) : V)], valS K (He.ga K "RANGES") "self-ending number" (.ref (tS K (He.ga K "RANGES") "self-ending number")), tupAt K (tS K (He.ga K "RANGES") "self-ending number") [(.int (1) : V), (.int (4294967296) : V)], valS K (He.ga K "ROW_LENGTHS") "values" (.ref (tS K (He.ga K "ROW_LENGTHS") "values")), tupAt K (tS K (He.ga K "ROW_LENGTHS") "values") [(.int (1) : V), (.int (64) : V)], valS K (He.ga K "ROW_LENGTHS") "block values" (.ref (tS K (He.ga K "ROW_LENGTHS") "block values")), tupAt K (tS K (He.ga K "ROW_LENGTHS") "block values") [(.int (1) : V), (.int (16) : V)], valS K (He.ga K "ROW_LENGTHS") "bytes" (.ref (tS K (He.ga K "ROW_LENGTHS") "bytes")), tupAt K (tS K (He.ga K "ROW_LENGTHS") "bytes") [(.int (0) : V), (.int (200) : V)], valS K (He.ga K "ROW_MEMBERS") "values" (.str "value"), valS K (He.ga K "ROW_MEMBERS") "block values" (.str "value"), valS K (He.ga K "ROW_MEMBERS") "bytes" (.str "byte"), kidB K (He.ga K "SHAPES") (0) (.ref (tI K (He.ga K "SHAPES") (0))), tupAt K (tI K (He.ga K "SHAPES") (0)) [(.str "series" : V)], kidB K (He.ga K "SHAPES") (1) (.ref (tI K (He.ga K "SHAPES") (1))), tupAt K (tI K (He.ga K "SHAPES") (1)) [(.str "series" : V), (.str "values" : V)], kidB K (He.ga K "SHAPES") (2) (.ref (tI K (He.ga K "SHAPES") (2))), tupAt K (tI K (He.ga K "SHAPES") (2)) [(.str "series" : V), (.str "place" : V), (.str "value" : V)], kidB K (He.ga K "SHAPES") (3) (.ref (tI K (He.ga K "SHAPES") (3))), tupAt K (tI K (He.ga K "SHAPES") (3)) [(.str "series" : V), (.str "place" : V)], kidB K (He.ga K "SHAPES") (4) (.ref (tI K (He.ga K "SHAPES") (4))), tupAt K (tI K (He.ga K "SHAPES") (4)) [(.str "series" : V), (.str "place" : V), (.str "correction count" : V)], kidB K (He.ga K "SHAPES") (5) (.ref (tI K (He.ga K "SHAPES") (5))), tupAt K (tI K (He.ga K "SHAPES") (5)) [(.str "series" : V), (.str "place" : V), (.str "place" : V)], kidB K (He.ga K "SHAPES") (6) (.ref (tI K (He.ga K "SHAPES") (6))), tupAt K (tI K (He.ga K "SHAPES") (6)) [(.str "series" : V), (.str "place" : V), (.str "place" : V)], kidB K (He.ga K "SHAPES") (7) (.ref (tI K (He.ga K "SHAPES") (7))), tupAt K (tI K (He.ga K "SHAPES") (7)) [(.str "series" : V), (.str "place" : V), (.str "seek bound" : V)], kidB K (He.ga K "SHAPES") (8) (.ref (tI K (He.ga K "SHAPES") (8))), tupAt K (tI K (He.ga K "SHAPES") (8)) [(.str "series" : V), (.str "piece length" : V)], kidB K (He.ga K "SHAPES") (9) (.ref (tI K (He.ga K "SHAPES") (9))), tupAt K (tI K (He.ga K "SHAPES") (9)) [(.str "series" : V)], kidB K (He.ga K "SHAPES") (10) (.ref (tI K (He.ga K "SHAPES") (10))), tupAt K (tI K (He.ga K "SHAPES") (10)) [(.str "series" : V), (.str "block number" : V)], kidB K (He.ga K "SHAPES") (11) (.ref (tI K (He.ga K "SHAPES") (11))), tupAt K (tI K (He.ga K "SHAPES") (11)) [(.str "bytes" : V)], kidB K (He.ga K "SHAPES") (12) (.ref (tI K (He.ga K "SHAPES") (12))), tupAt K (tI K (He.ga K "SHAPES") (12)) [(.str "series" : V), (.str "bytes" : V)], kidB K (He.ga K "SHAPES") (13) (.ref (tI K (He.ga K "SHAPES") (13))), tupAt K (tI K (He.ga K "SHAPES") (13)) [(.str "block values" : V)], kidB K (He.ga K "SHAPES") (14) (.ref (tI K (He.ga K "SHAPES") (14))), tupAt K (tI K (He.ga K "SHAPES") (14)) [(.str "self-ending number" : V)], kidB K (He.ga K "SHAPES") (15) (.ref (tI K (He.ga K "SHAPES") (15))), tupAt K (tI K (He.ga K "SHAPES") (15)) [(.str "series" : V), (.str "series" : V)], kidB K (He.ga K "SHAPES") (16) (.ref (tI K (He.ga K "SHAPES") (16))), tupAt K (tI K (He.ga K "SHAPES") (16)) [(.str "series" : V), (.str "series" : V), (.str "place" : V)], kidB K (He.ga K "SHAPES") (17) (.ref (tI K (He.ga K "SHAPES") (17))), tupAt K (tI K (He.ga K "SHAPES") (17)) [(.str "series" : V), (.str "series" : V)], kidB K (He.ga K "SHAPES") (18) (.ref (tI K (He.ga K "SHAPES") (18))), tupAt K (tI K (He.ga K "SHAPES") (18)) [(.str "series" : V), (.str "place" : V)], kidB K (He.ga K "SHAPES") (19) (.ref (tI K (He.ga K "SHAPES") (19))), tupAt K (tI K (He.ga K "SHAPES") (19)) [(.str "series" : V), (.str "place" : V)], kidB K (He.ga K "SHAPES") (20) (.ref (tI K (He.ga K "SHAPES") (20))), tupAt K (tI K (He.ga K "SHAPES") (20)) [], PySem.W.excIn K (He.ga K "BitsLack") exBase "Exception.__new__", PySem.W.keepIn K (.ref (He.ga K "BitsLack")), decide (PySem.W.subIn K (.ref (He.ga K "BitsLack")) (.type "BaseException") = some true), decide (PySem.W.typeIn K (.ref (He.ga K "BitsLack")) = some (.type "type")), decide (PySem.W.exmOne K (.ref (He.ga K "BitsLack")) (.ref (He.ga K "BitsLack")) = some true), decide (PySem.W.exmOne K (.ref (He.ga K "BitsLack")) (.ref (He.ga K "WrongNumber")) = some false), PySem.W.excIn K (He.ga K "WrongNumber") exBase "Exception.__new__", PySem.W.keepIn K (.ref (He.ga K "WrongNumber")), decide (PySem.W.subIn K (.ref (He.ga K "WrongNumber")) (.type "BaseException") = some true), decide (PySem.W.typeIn K (.ref (He.ga K "WrongNumber")) = some (.type "type")), decide (PySem.W.exmOne K (.ref (He.ga K "WrongNumber")) (.ref (He.ga K "BitsLack")) = some false), decide (PySem.W.exmOne K (.ref (He.ga K "WrongNumber")) (.ref (He.ga K "WrongNumber")) = some true), He.eqO (PySem.W.nsIn K (He.ga K "ROW_LENGTHS") "series") (some none), He.eqO (PySem.W.nsIn K (He.ga K "ROW_LENGTHS") "place") (some none), He.eqO (PySem.W.nsIn K (He.ga K "ROW_LENGTHS") "correction count") (some none), He.eqO (PySem.W.nsIn K (He.ga K "ROW_LENGTHS") "seek bound") (some none), He.eqO (PySem.W.nsIn K (He.ga K "ROW_LENGTHS") "piece length") (some none), He.eqO (PySem.W.nsIn K (He.ga K "ROW_LENGTHS") "block number") (some none), He.eqO (PySem.W.nsIn K (He.ga K "ROW_LENGTHS") "byte") (some none), He.eqO (PySem.W.nsIn K (He.ga K "ROW_LENGTHS") "self-ending number") (some none), He.eqO (PySem.W.nsIn K (He.ga K "ROW_LENGTHS") "value") (some none)]
def ch2 : Chunk := ⟨ch2_fa, ch2_fn, ch2_ts, ch2_xl⟩
def chunks : List Chunk := [ch0, ch1, ch2]
/-- what the top has left, as the bodies ask for it -/
structure Top (K : PySem.W.Frag) (w : World) (mg : Str → Option Value) : Prop where
  c : ∀ (i : Nat) {ch : Chunk}, chunks[i]? = some ch → ch.Says w K
  glo : ∀ {x : Str}, (He.Fa.glo x).ok K = true → mg x = some (.ref (He.ga K x))
  free : ∀ {x : Str}, (He.Fa.free x).ok K = true → mg x = none
  int : ∀ {x : Str} {i : Int}, (He.Fa.int x i).ok K = true → ∃ t, mg x = some (.int i t)
section
variable {K : PySem.W.Frag} {w : World} {mg : Str → Option Value} (T : Top K w mg)
include T
theorem Top.g_clear_series : mg "clear_series" = some (.ref (He.ga K "clear_series")) := T.glo ((T.c 0 rfl).fact 0 rfl)
theorem Top.g_add_row : mg "add_row" = some (.ref (He.ga K "add_row")) := T.glo ((T.c 0 rfl).fact 1 rfl)
theorem Top.g_fix_place : mg "fix_place" = some (.ref (He.ga K "fix_place")) := T.glo ((T.c 0 rfl).fact 2 rfl)
theorem Top.g_trim_series : mg "trim_series" = some (.ref (He.ga K "trim_series")) := T.glo ((T.c 0 rfl).fact 3 rfl)
theorem Top.g_folded : mg "folded" = some (.ref (He.ga K "folded")) := T.glo ((T.c 0 rfl).fact 4 rfl)
theorem Top.g_unfolded : mg "unfolded" = some (.ref (He.ga K "unfolded")) := T.glo ((T.c 0 rfl).fact 5 rfl)
theorem Top.g_width : mg "width" = some (.ref (He.ga K "width")) := T.glo ((T.c 0 rfl).fact 6 rfl)
theorem Top.g_in_bits : mg "in_bits" = some (.ref (He.ga K "in_bits")) := T.glo ((T.c 0 rfl).fact 7 rfl)
theorem Top.g_all_in_bits : mg "all_in_bits" = some (.ref (He.ga K "all_in_bits")) := T.glo ((T.c 0 rfl).fact 8 rfl)
theorem Top.g_self_ending : mg "self_ending" = some (.ref (He.ga K "self_ending")) := T.glo ((T.c 0 rfl).fact 9 rfl)
theorem Top.g_folded_self_ending : mg "folded_self_ending" = some (.ref (He.ga K "folded_self_ending")) := T.glo ((T.c 0 rfl).fact 10 rfl)
theorem Top.g_byte_at : mg "byte_at" = some (.ref (He.ga K "byte_at")) := T.glo ((T.c 0 rfl).fact 11 rfl)
theorem Top.g_as_bytes : mg "as_bytes" = some (.ref (He.ga K "as_bytes")) := T.glo ((T.c 0 rfl).fact 12 rfl)
theorem Top.g_is_reading : mg "is_reading" = some (.ref (He.ga K "is_reading")) := T.glo ((T.c 0 rfl).fact 13 rfl)
theorem Top.g_readings_in : mg "readings_in" = some (.ref (He.ga K "readings_in")) := T.glo ((T.c 0 rfl).fact 14 rfl)
theorem Top.g_steps_between : mg "steps_between" = some (.ref (He.ga K "steps_between")) := T.glo ((T.c 0 rfl).fact 15 rfl)
theorem Top.g_greatest_width : mg "greatest_width" = some (.ref (He.ga K "greatest_width")) := T.glo ((T.c 0 rfl).fact 16 rfl)
theorem Top.g_plain_code : mg "plain_code" = some (.ref (He.ga K "plain_code")) := T.glo ((T.c 0 rfl).fact 17 rfl)
theorem Top.g_step_code : mg "step_code" = some (.ref (He.ga K "step_code")) := T.glo ((T.c 0 rfl).fact 18 rfl)
theorem Top.g_change_of_step_code : mg "change_of_step_code" = some (.ref (He.ga K "change_of_step_code")) := T.glo ((T.c 0 rfl).fact 19 rfl)
theorem Top.g_run_end : mg "run_end" = some (.ref (He.ga K "run_end")) := T.glo ((T.c 0 rfl).fact 20 rfl)
theorem Top.g_run_code : mg "run_code" = some (.ref (He.ga K "run_code")) := T.glo ((T.c 0 rfl).fact 21 rfl)
theorem Top.g_in_each_code : mg "in_each_code" = some (.ref (He.ga K "in_each_code")) := T.glo ((T.c 0 rfl).fact 22 rfl)
theorem Top.g_shortest_code : mg "shortest_code" = some (.ref (He.ga K "shortest_code")) := T.glo ((T.c 0 rfl).fact 23 rfl)
theorem Top.g_gap_bits : mg "gap_bits" = some (.ref (He.ga K "gap_bits")) := T.glo ((T.c 0 rfl).fact 24 rfl)
theorem Top.g_reading_bits : mg "reading_bits" = some (.ref (He.ga K "reading_bits")) := T.glo ((T.c 0 rfl).fact 25 rfl)
theorem Top.g_block_bits : mg "block_bits" = some (.ref (He.ga K "block_bits")) := T.glo ((T.c 0 rfl).fact 26 rfl)
theorem Top.g_told_value : mg "told_value" = some (.ref (He.ga K "told_value")) := T.glo ((T.c 0 rfl).fact 27 rfl)
theorem Top.g_told_values : mg "told_values" = some (.ref (He.ga K "told_values")) := T.glo ((T.c 0 rfl).fact 28 rfl)
theorem Top.g_told_row : mg "told_row" = some (.ref (He.ga K "told_row")) := T.glo ((T.c 0 rfl).fact 29 rfl)
theorem Top.g_blocks_of : mg "blocks_of" = some (.ref (He.ga K "blocks_of")) := T.glo ((T.c 0 rfl).fact 30 rfl)
theorem Top.g_sizes_of_blocks : mg "sizes_of_blocks" = some (.ref (He.ga K "sizes_of_blocks")) := T.glo ((T.c 0 rfl).fact 31 rfl)
theorem Top.g_bytes_of_block : mg "bytes_of_block" = some (.ref (He.ga K "bytes_of_block")) := T.glo ((T.c 0 rfl).fact 32 rfl)
theorem Top.g_codes_of_row : mg "codes_of_row" = some (.ref (He.ga K "codes_of_row")) := T.glo ((T.c 0 rfl).fact 33 rfl)
theorem Top.g_bits_of_self_ending : mg "bits_of_self_ending" = some (.ref (He.ga K "bits_of_self_ending")) := T.glo ((T.c 0 rfl).fact 34 rfl)
theorem Top.g_copy_series : mg "copy_series" = some (.ref (He.ga K "copy_series")) := T.glo ((T.c 0 rfl).fact 35 rfl)
theorem Top.g_differ_at : mg "differ_at" = some (.ref (He.ga K "differ_at")) := T.glo ((T.c 0 rfl).fact 36 rfl)
theorem Top.g_first_difference : mg "first_difference" = some (.ref (He.ga K "first_difference")) := T.glo ((T.c 0 rfl).fact 37 rfl)
theorem Top.g_is_to_fill : mg "is_to_fill" = some (.ref (He.ga K "is_to_fill")) := T.glo ((T.c 0 rfl).fact 38 rfl)
theorem Top.g_fill_gaps : mg "fill_gaps" = some (.ref (He.ga K "fill_gaps")) := T.glo ((T.c 0 rfl).fact 39 rfl)
theorem Top.g_get_place : mg "get_place" = some (.ref (He.ga K "get_place")) := T.glo ((T.c 0 rfl).fact 40 rfl)
theorem Top.g_was_at_place : mg "was_at_place" = some (.ref (He.ga K "was_at_place")) := T.glo ((T.c 0 rfl).fact 41 rfl)
theorem Top.g_is_span : mg "is_span" = some (.ref (He.ga K "is_span")) := T.glo ((T.c 0 rfl).fact 42 rfl)
theorem Top.g_sum_of_span : mg "sum_of_span" = some (.ref (He.ga K "sum_of_span")) := T.glo ((T.c 0 rfl).fact 43 rfl)
theorem Top.g_extremes_of_span : mg "extremes_of_span" = some (.ref (He.ga K "extremes_of_span")) := T.glo ((T.c 0 rfl).fact 44 rfl)
theorem Top.g_seek_from : mg "seek_from" = some (.ref (He.ga K "seek_from")) := T.glo ((T.c 0 rfl).fact 45 rfl)
theorem Top.g_told_piece : mg "told_piece" = some (.ref (He.ga K "told_piece")) := T.glo ((T.c 0 rfl).fact 46 rfl)
theorem Top.g_coarse_pieces : mg "coarse_pieces" = some (.ref (He.ga K "coarse_pieces")) := T.glo ((T.c 0 rfl).fact 47 rfl)
theorem Top.g_history_of_place : mg "history_of_place" = some (.ref (He.ga K "history_of_place")) := T.glo ((T.c 0 rfl).fact 48 rfl)
theorem Top.g_state_of_all : mg "state_of_all" = some (.ref (He.ga K "state_of_all")) := T.glo ((T.c 0 rfl).fact 49 rfl)
theorem Top.g_shape_of : mg "shape_of" = some (.ref (He.ga K "shape_of")) := T.glo ((T.c 0 rfl).fact 50 rfl)
theorem Top.g_is_row : mg "is_row" = some (.ref (He.ga K "is_row")) := T.glo ((T.c 0 rfl).fact 51 rfl)
theorem Top.g_lies_within : mg "lies_within" = some (.ref (He.ga K "lies_within")) := T.glo ((T.c 0 rfl).fact 52 rfl)
theorem Top.g_number_fits : mg "number_fits" = some (.ref (He.ga K "number_fits")) := T.glo ((T.c 0 rfl).fact 53 rfl)
theorem Top.g_row_fits : mg "row_fits" = some (.ref (He.ga K "row_fits")) := T.glo ((T.c 0 rfl).fact 54 rfl)
theorem Top.g_fits : mg "fits" = some (.ref (He.ga K "fits")) := T.glo ((T.c 0 rfl).fact 55 rfl)
theorem Top.g_all_fit : mg "all_fit" = some (.ref (He.ga K "all_fit")) := T.glo ((T.c 0 rfl).fact 56 rfl)
theorem Top.g_sums_from : mg "sums_from" = some (.ref (He.ga K "sums_from")) := T.glo ((T.c 0 rfl).fact 57 rfl)
theorem Top.g_read_plain_code : mg "read_plain_code" = some (.ref (He.ga K "read_plain_code")) := T.glo ((T.c 0 rfl).fact 58 rfl)
theorem Top.g_read_step_code : mg "read_step_code" = some (.ref (He.ga K "read_step_code")) := T.glo ((T.c 0 rfl).fact 59 rfl)
theorem Top.g_read_change_of_step_code : mg "read_change_of_step_code" = some (.ref (He.ga K "read_change_of_step_code")) := T.glo ((T.c 0 rfl).fact 60 rfl)
theorem Top.g_read_run_code : mg "read_run_code" = some (.ref (He.ga K "read_run_code")) := T.glo ((T.c 0 rfl).fact 61 rfl)
theorem Top.g_read_in_code : mg "read_in_code" = some (.ref (He.ga K "read_in_code")) := T.glo ((T.c 0 rfl).fact 62 rfl)
theorem Top.g_read_readings : mg "read_readings" = some (.ref (He.ga K "read_readings")) := T.glo ((T.c 0 rfl).fact 63 rfl)
theorem Top.g_read_marks : mg "read_marks" = some (.ref (He.ga K "read_marks")) := T.glo ((T.c 0 rfl).fact 64 rfl)
theorem Top.g_with_gaps : mg "with_gaps" = some (.ref (He.ga K "with_gaps")) := T.glo ((T.c 0 rfl).fact 65 rfl)
theorem Top.g_read_values : mg "read_values" = some (.ref (He.ga K "read_values")) := T.glo ((T.c 0 rfl).fact 66 rfl)
theorem Top.g_is_filling : mg "is_filling" = some (.ref (He.ga K "is_filling")) := T.glo ((T.c 0 rfl).fact 67 rfl)
theorem Top.g_read_block : mg "read_block" = some (.ref (He.ga K "read_block")) := T.glo ((T.c 0 rfl).fact 68 rfl)
theorem Top.g_unpack_row : mg "unpack_row" = some (.ref (He.ga K "unpack_row")) := T.glo ((T.c 0 rfl).fact 69 rfl)
theorem Top.g_load_row : mg "load_row" = some (.ref (He.ga K "load_row")) := T.glo ((T.c 0 rfl).fact 70 rfl)
theorem Top.g_change_or_look : mg "change_or_look" = some (.ref (He.ga K "change_or_look")) := T.glo ((T.c 0 rfl).fact 71 rfl)
theorem Top.g_survey : mg "survey" = some (.ref (He.ga K "survey")) := T.glo ((T.c 0 rfl).fact 72 rfl)
theorem Top.g_read_or_code : mg "read_or_code" = some (.ref (He.ga K "read_or_code")) := T.glo ((T.c 0 rfl).fact 73 rfl)
theorem Top.g_pair_or_trace : mg "pair_or_trace" = some (.ref (He.ga K "pair_or_trace")) := T.glo ((T.c 0 rfl).fact 74 rfl)
theorem Top.g_answer_of : mg "answer_of" = some (.ref (He.ga K "answer_of")) := T.glo ((T.c 0 rfl).fact 75 rfl)
theorem Top.g_take_givens : mg "take_givens" = some (.ref (He.ga K "take_givens")) := T.glo ((T.c 0 rfl).fact 76 rfl)
theorem Top.g_answers : mg "answers" = some (.ref (He.ga K "answers")) := T.glo ((T.c 0 rfl).fact 77 rfl)
theorem Top.g_BitReader : mg "BitReader" = some (.ref (He.ga K "BitReader")) := T.glo ((T.c 0 rfl).fact 78 rfl)
theorem Top.cl_BitReader : Cls K (He.ga K "BitReader") := He.cls_ok ((T.c 0 rfl).fact 79 rfl)
theorem Top.mk_BitReader : Mk K (He.ga K "BitReader") (He.ma K (He.ga K "BitReader") "__init__") := He.mkr_ok ((T.c 0 rfl).fact 80 rfl)
theorem Top.n_BitReader_bits : NoAttr K (He.ga K "BitReader") "bits" := He.noat_ok ((T.c 0 rfl).fact 81 rfl)
theorem Top.n_BitReader_at : NoAttr K (He.ga K "BitReader") "at" := He.noat_ok ((T.c 0 rfl).fact 82 rfl)
theorem Top.m_BitReader_bits_left : Meth K (He.ga K "BitReader") "bits_left" (He.ma K (He.ga K "BitReader") "bits_left") := He.meth_ok ((T.c 0 rfl).fact 83 rfl)
theorem Top.m_BitReader_take_bit : Meth K (He.ga K "BitReader") "take_bit" (He.ma K (He.ga K "BitReader") "take_bit") := He.meth_ok ((T.c 0 rfl).fact 84 rfl)
theorem Top.m_BitReader_take_digits : Meth K (He.ga K "BitReader") "take_digits" (He.ma K (He.ga K "BitReader") "take_digits") := He.meth_ok ((T.c 0 rfl).fact 85 rfl)
theorem Top.m_BitReader_take_in_bits : Meth K (He.ga K "BitReader") "take_in_bits" (He.ma K (He.ga K "BitReader") "take_in_bits") := He.meth_ok ((T.c 0 rfl).fact 86 rfl)
theorem Top.m_BitReader_take_folded : Meth K (He.ga K "BitReader") "take_folded" (He.ma K (He.ga K "BitReader") "take_folded") := He.meth_ok ((T.c 0 rfl).fact 87 rfl)
theorem Top.m_BitReader_take_self_ending : Meth K (He.ga K "BitReader") "take_self_ending" (He.ma K (He.ga K "BitReader") "take_self_ending") := He.meth_ok ((T.c 0 rfl).fact 88 rfl)
theorem Top.m_BitReader_take_folded_self_ending : Meth K (He.ga K "BitReader") "take_folded_self_ending" (He.ma K (He.ga K "BitReader") "take_folded_self_ending") := He.meth_ok ((T.c 0 rfl).fact 89 rfl)
theorem Top.g_Series : mg "Series" = some (.ref (He.ga K "Series")) := T.glo ((T.c 0 rfl).fact 90 rfl)
theorem Top.cl_Series : Cls K (He.ga K "Series") := He.cls_ok ((T.c 0 rfl).fact 91 rfl)
theorem Top.mk_Series : Mk K (He.ga K "Series") (He.ma K (He.ga K "Series") "__init__") := He.mkr_ok ((T.c 0 rfl).fact 92 rfl)
theorem Top.n_Series_added : NoAttr K (He.ga K "Series") "added" := He.noat_ok ((T.c 0 rfl).fact 93 rfl)
theorem Top.n_Series_corrections : NoAttr K (He.ga K "Series") "corrections" := He.noat_ok ((T.c 0 rfl).fact 94 rfl)
theorem Top.n_Series_standing : NoAttr K (He.ga K "Series") "standing" := He.noat_ok ((T.c 0 rfl).fact 95 rfl)
theorem Top.m_Series_make_empty : Meth K (He.ga K "Series") "make_empty" (He.ma K (He.ga K "Series") "make_empty") := He.meth_ok ((T.c 0 rfl).fact 96 rfl)
theorem Top.m_Series_place_count : Meth K (He.ga K "Series") "place_count" (He.ma K (He.ga K "Series") "place_count") := He.meth_ok ((T.c 0 rfl).fact 97 rfl)
theorem Top.m_Series_has_place : Meth K (He.ga K "Series") "has_place" (He.ma K (He.ga K "Series") "has_place") := He.meth_ok ((T.c 0 rfl).fact 98 rfl)
theorem Top.m_Series_correction_count : Meth K (He.ga K "Series") "correction_count" (He.ma K (He.ga K "Series") "correction_count") := He.meth_ok ((T.c 0 rfl).fact 99 rfl)
theorem Top.m_Series_put_behind : Meth K (He.ga K "Series") "put_behind" (He.ma K (He.ga K "Series") "put_behind") := He.meth_ok ((T.c 0 rfl).fact 100 rfl)
theorem Top.m_Series_correct : Meth K (He.ga K "Series") "correct" (He.ma K (He.ga K "Series") "correct") := He.meth_ok ((T.c 0 rfl).fact 101 rfl)
theorem Top.m_Series_take_over : Meth K (He.ga K "Series") "take_over" (He.ma K (He.ga K "Series") "take_over") := He.meth_ok ((T.c 0 rfl).fact 102 rfl)
theorem Top.m_Series_cut_from : Meth K (He.ga K "Series") "cut_from" (He.ma K (He.ga K "Series") "cut_from") := He.meth_ok ((T.c 0 rfl).fact 103 rfl)
theorem Top.m_Series_values_up_to : Meth K (He.ga K "Series") "values_up_to" (He.ma K (He.ga K "Series") "values_up_to") := He.meth_ok ((T.c 0 rfl).fact 104 rfl)
theorem Top.m_Series_value_as_of : Meth K (He.ga K "Series") "value_as_of" (He.ma K (He.ga K "Series") "value_as_of") := He.meth_ok ((T.c 0 rfl).fact 105 rfl)
theorem Top.g_Reader : mg "Reader" = some (.ref (He.ga K "Reader")) := T.glo ((T.c 0 rfl).fact 106 rfl)
theorem Top.cl_Reader : Cls K (He.ga K "Reader") := He.cls_ok ((T.c 0 rfl).fact 107 rfl)
theorem Top.mk_Reader : Mk K (He.ga K "Reader") (He.ma K (He.ga K "Reader") "__init__") := He.mkr_ok ((T.c 0 rfl).fact 108 rfl)
theorem Top.n_Reader_numbers : NoAttr K (He.ga K "Reader") "numbers" := He.noat_ok ((T.c 0 rfl).fact 109 rfl)
theorem Top.n_Reader_at : NoAttr K (He.ga K "Reader") "at" := He.noat_ok ((T.c 0 rfl).fact 110 rfl)
theorem Top.m_Reader_has_more : Meth K (He.ga K "Reader") "has_more" (He.ma K (He.ga K "Reader") "has_more") := He.meth_ok ((T.c 0 rfl).fact 111 rfl)
theorem Top.m_Reader_take_number : Meth K (He.ga K "Reader") "take_number" (He.ma K (He.ga K "Reader") "take_number") := He.meth_ok ((T.c 0 rfl).fact 112 rfl)
theorem Top.m_Reader_take_row : Meth K (He.ga K "Reader") "take_row" (He.ma K (He.ga K "Reader") "take_row") := He.meth_ok ((T.c 0 rfl).fact 113 rfl)
theorem Top.m_Reader_take_kind : Meth K (He.ga K "Reader") "take_kind" (He.ma K (He.ga K "Reader") "take_kind") := He.meth_ok ((T.c 0 rfl).fact 114 rfl)
theorem Top.g_BitsLack : mg "BitsLack" = some (.ref (He.ga K "BitsLack")) := T.glo ((T.c 0 rfl).fact 115 rfl)
theorem Top.g_WrongNumber : mg "WrongNumber" = some (.ref (He.ga K "WrongNumber")) := T.glo ((T.c 0 rfl).fact 116 rfl)
theorem Top.g_RANGES : mg "RANGES" = some (.ref (He.ga K "RANGES")) := T.glo ((T.c 0 rfl).fact 117 rfl)
theorem Top.g_ROW_LENGTHS : mg "ROW_LENGTHS" = some (.ref (He.ga K "ROW_LENGTHS")) := T.glo ((T.c 0 rfl).fact 118 rfl)
theorem Top.g_ROW_MEMBERS : mg "ROW_MEMBERS" = some (.ref (He.ga K "ROW_MEMBERS")) := T.glo ((T.c 0 rfl).fact 119 rfl)
theorem Top.g_SHAPES : mg "SHAPES" = some (.ref (He.ga K "SHAPES")) := T.glo ((T.c 0 rfl).fact 120 rfl)
theorem Top.c_SERIES_COUNT : ∃ t, mg "SERIES_COUNT" = some (.int (4) t) := T.int ((T.c 0 rfl).fact 121 rfl)
theorem Top.c_MOST_PLACES : ∃ t, mg "MOST_PLACES" = some (.int (400) t) := T.int ((T.c 0 rfl).fact 122 rfl)
theorem Top.c_MOST_CORRECTIONS : ∃ t, mg "MOST_CORRECTIONS" = some (.int (60) t) := T.int ((T.c 0 rfl).fact 123 rfl)
theorem Top.c_BLOCK_LENGTH : ∃ t, mg "BLOCK_LENGTH" = some (.int (16) t) := T.int ((T.c 0 rfl).fact 124 rfl)
theorem Top.c_NOT_AS_TOLD : ∃ t, mg "NOT_AS_TOLD" = some (.int (-1) t) := T.int ((T.c 0 rfl).fact 125 rfl)
theorem Top.c_WRONG_BYTES : ∃ t, mg "WRONG_BYTES" = some (.int (-3) t) := T.int ((T.c 0 rfl).fact 126 rfl)
theorem Top.c_NO_SUCH_PLACE : ∃ t, mg "NO_SUCH_PLACE" = some (.int (-4) t) := T.int ((T.c 0 rfl).fact 127 rfl)
theorem Top.c_FULL : ∃ t, mg "FULL" = some (.int (-5) t) := T.int ((T.c 0 rfl).fact 128 rfl)
theorem Top.c_TOO_FEW_CORRECTIONS : ∃ t, mg "TOO_FEW_CORRECTIONS" = some (.int (-6) t) := T.int ((T.c 0 rfl).fact 129 rfl)
theorem Top.c_SAME_SERIES : ∃ t, mg "SAME_SERIES" = some (.int (-6) t) := T.int ((T.c 0 rfl).fact 130 rfl)
theorem Top.c_STANDS_ALREADY : ∃ t, mg "STANDS_ALREADY" = some (.int (-7) t) := T.int ((T.c 0 rfl).fact 131 rfl)
theorem Top.c_NO_READING : ∃ t, mg "NO_READING" = some (.int (-8) t) := T.int ((T.c 0 rfl).fact 132 rfl)
theorem Top.c_LEAST_READING : ∃ t, mg "LEAST_READING" = some (.int (-1000000000) t) := T.int ((T.c 0 rfl).fact 133 rfl)
theorem Top.c_GREATEST_READING : ∃ t, mg "GREATEST_READING" = some (.int (1000000000) t) := T.int ((T.c 0 rfl).fact 134 rfl)
theorem Top.c_GAP : ∃ t, mg "GAP" = some (.int (2000000000) t) := T.int ((T.c 0 rfl).fact 135 rfl)
theorem Top.c_MOST_ZEROS : ∃ t, mg "MOST_ZEROS" = some (.int (40) t) := T.int ((T.c 0 rfl).fact 136 rfl)
theorem Top.c_NOTHING_WRONG : ∃ t, mg "NOTHING_WRONG" = some (.int (0) t) := T.int ((T.c 0 rfl).fact 137 rfl)
theorem Top.c_BITS_LACK : ∃ t, mg "BITS_LACK" = some (.int (1) t) := T.int ((T.c 0 rfl).fact 138 rfl)
theorem Top.c_WRONG_NUMBER : ∃ t, mg "WRONG_NUMBER" = some (.int (2) t) := T.int ((T.c 0 rfl).fact 139 rfl)
theorem Top.c_BITS_LEFT_OVER : ∃ t, mg "BITS_LEFT_OVER" = some (.int (3) t) := T.int ((T.c 0 rfl).fact 140 rfl)
theorem Top.c_OTHER_BYTES : ∃ t, mg "OTHER_BYTES" = some (.int (4) t) := T.int ((T.c 0 rfl).fact 141 rfl)
theorem Top.b_all : mg "all" = none := T.free ((T.c 0 rfl).fact 142 rfl)
theorem Top.b_len : mg "len" = none := T.free ((T.c 0 rfl).fact 143 rfl)
theorem Top.b_list : mg "list" = none := T.free ((T.c 0 rfl).fact 144 rfl)
theorem Top.b_max : mg "max" = none := T.free ((T.c 0 rfl).fact 145 rfl)
theorem Top.b_min : mg "min" = none := T.free ((T.c 0 rfl).fact 146 rfl)
theorem Top.b_range : mg "range" = none := T.free ((T.c 0 rfl).fact 147 rfl)
theorem Top.b_sum : mg "sum" = none := T.free ((T.c 0 rfl).fact 148 rfl)
theorem Top.kd_RANGES : ∃ es n, KDict K w (He.ga K "RANGES") es n := (T.c 0 rfl).tab 0 rfl
theorem Top.kd_ROW_LENGTHS : ∃ es n, KDict K w (He.ga K "ROW_LENGTHS") es n := (T.c 0 rfl).tab 1 rfl
theorem Top.kd_ROW_MEMBERS : ∃ es n, KDict K w (He.ga K "ROW_MEMBERS") es n := (T.c 0 rfl).tab 2 rfl
theorem Top.f_clear_series : ∃ fd, FunD K "clear_series" "clear_series" (defArgs st_clear_series) (defBody st_clear_series) (defScope st_clear_series) [] [] (He.ga K "clear_series") fd := (T.c 1 rfl).def_ 0 (d := df_clear_series) rfl
theorem Top.f_add_row : ∃ fd, FunD K "add_row" "add_row" (defArgs st_add_row) (defBody st_add_row) (defScope st_add_row) [] [] (He.ga K "add_row") fd := (T.c 1 rfl).def_ 1 (d := df_add_row) rfl
theorem Top.f_fix_place : ∃ fd, FunD K "fix_place" "fix_place" (defArgs st_fix_place) (defBody st_fix_place) (defScope st_fix_place) [] [] (He.ga K "fix_place") fd := (T.c 1 rfl).def_ 2 (d := df_fix_place) rfl
theorem Top.f_trim_series : ∃ fd, FunD K "trim_series" "trim_series" (defArgs st_trim_series) (defBody st_trim_series) (defScope st_trim_series) [] [] (He.ga K "trim_series") fd := (T.c 1 rfl).def_ 3 (d := df_trim_series) rfl
theorem Top.f_folded : ∃ fd, FunD K "folded" "folded" (defArgs st_folded) (defBody st_folded) (defScope st_folded) [] [] (He.ga K "folded") fd := (T.c 1 rfl).def_ 4 (d := df_folded) rfl
theorem Top.f_unfolded : ∃ fd, FunD K "unfolded" "unfolded" (defArgs st_unfolded) (defBody st_unfolded) (defScope st_unfolded) [] [] (He.ga K "unfolded") fd := (T.c 1 rfl).def_ 5 (d := df_unfolded) rfl
theorem Top.f_width : ∃ fd, FunD K "width" "width" (defArgs st_width) (defBody st_width) (defScope st_width) [] [] (He.ga K "width") fd := (T.c 1 rfl).def_ 6 (d := df_width) rfl
theorem Top.f_in_bits : ∃ fd, FunD K "in_bits" "in_bits" (defArgs st_in_bits) (defBody st_in_bits) (defScope st_in_bits) [] [] (He.ga K "in_bits") fd := (T.c 1 rfl).def_ 7 (d := df_in_bits) rfl
theorem Top.f_all_in_bits : ∃ fd, FunD K "all_in_bits" "all_in_bits" (defArgs st_all_in_bits) (defBody st_all_in_bits) (defScope st_all_in_bits) [] [] (He.ga K "all_in_bits") fd := (T.c 1 rfl).def_ 8 (d := df_all_in_bits) rfl
theorem Top.f_self_ending : ∃ fd, FunD K "self_ending" "self_ending" (defArgs st_self_ending) (defBody st_self_ending) (defScope st_self_ending) [] [] (He.ga K "self_ending") fd := (T.c 1 rfl).def_ 9 (d := df_self_ending) rfl
theorem Top.f_folded_self_ending : ∃ fd, FunD K "folded_self_ending" "folded_self_ending" (defArgs st_folded_self_ending) (defBody st_folded_self_ending) (defScope st_folded_self_ending) [] [] (He.ga K "folded_self_ending") fd := (T.c 1 rfl).def_ 10 (d := df_folded_self_ending) rfl
theorem Top.f_byte_at : ∃ fd, FunD K "byte_at" "byte_at" (defArgs st_byte_at) (defBody st_byte_at) (defScope st_byte_at) [] [] (He.ga K "byte_at") fd := (T.c 1 rfl).def_ 11 (d := df_byte_at) rfl
theorem Top.f_as_bytes : ∃ fd, FunD K "as_bytes" "as_bytes" (defArgs st_as_bytes) (defBody st_as_bytes) (defScope st_as_bytes) [] [] (He.ga K "as_bytes") fd := (T.c 1 rfl).def_ 12 (d := df_as_bytes) rfl
theorem Top.f_is_reading : ∃ fd, FunD K "is_reading" "is_reading" (defArgs st_is_reading) (defBody st_is_reading) (defScope st_is_reading) [] [] (He.ga K "is_reading") fd := (T.c 1 rfl).def_ 13 (d := df_is_reading) rfl
theorem Top.f_readings_in : ∃ fd, FunD K "readings_in" "readings_in" (defArgs st_readings_in) (defBody st_readings_in) (defScope st_readings_in) [] [] (He.ga K "readings_in") fd := (T.c 1 rfl).def_ 14 (d := df_readings_in) rfl
theorem Top.f_steps_between : ∃ fd, FunD K "steps_between" "steps_between" (defArgs st_steps_between) (defBody st_steps_between) (defScope st_steps_between) [] [] (He.ga K "steps_between") fd := (T.c 1 rfl).def_ 15 (d := df_steps_between) rfl
theorem Top.f_greatest_width : ∃ fd, FunD K "greatest_width" "greatest_width" (defArgs st_greatest_width) (defBody st_greatest_width) (defScope st_greatest_width) [] [] (He.ga K "greatest_width") fd := (T.c 1 rfl).def_ 16 (d := df_greatest_width) rfl
theorem Top.f_plain_code : ∃ fd, FunD K "plain_code" "plain_code" (defArgs st_plain_code) (defBody st_plain_code) (defScope st_plain_code) [] [] (He.ga K "plain_code") fd := (T.c 1 rfl).def_ 17 (d := df_plain_code) rfl
theorem Top.f_step_code : ∃ fd, FunD K "step_code" "step_code" (defArgs st_step_code) (defBody st_step_code) (defScope st_step_code) [] [] (He.ga K "step_code") fd := (T.c 1 rfl).def_ 18 (d := df_step_code) rfl
theorem Top.f_change_of_step_code : ∃ fd, FunD K "change_of_step_code" "change_of_step_code" (defArgs st_change_of_step_code) (defBody st_change_of_step_code) (defScope st_change_of_step_code) [] [] (He.ga K "change_of_step_code") fd := (T.c 1 rfl).def_ 19 (d := df_change_of_step_code) rfl
theorem Top.f_run_end : ∃ fd, FunD K "run_end" "run_end" (defArgs st_run_end) (defBody st_run_end) (defScope st_run_end) [] [] (He.ga K "run_end") fd := (T.c 1 rfl).def_ 20 (d := df_run_end) rfl
theorem Top.f_run_code : ∃ fd, FunD K "run_code" "run_code" (defArgs st_run_code) (defBody st_run_code) (defScope st_run_code) [] [] (He.ga K "run_code") fd := (T.c 1 rfl).def_ 21 (d := df_run_code) rfl
theorem Top.f_in_each_code : ∃ fd, FunD K "in_each_code" "in_each_code" (defArgs st_in_each_code) (defBody st_in_each_code) (defScope st_in_each_code) [] [] (He.ga K "in_each_code") fd := (T.c 1 rfl).def_ 22 (d := df_in_each_code) rfl
theorem Top.f_shortest_code : ∃ fd, FunD K "shortest_code" "shortest_code" (defArgs st_shortest_code) (defBody st_shortest_code) (defScope st_shortest_code) [] [] (He.ga K "shortest_code") fd := (T.c 1 rfl).def_ 23 (d := df_shortest_code) rfl
theorem Top.f_gap_bits : ∃ fd, FunD K "gap_bits" "gap_bits" (defArgs st_gap_bits) (defBody st_gap_bits) (defScope st_gap_bits) [] [] (He.ga K "gap_bits") fd := (T.c 1 rfl).def_ 24 (d := df_gap_bits) rfl
theorem Top.f_reading_bits : ∃ fd, FunD K "reading_bits" "reading_bits" (defArgs st_reading_bits) (defBody st_reading_bits) (defScope st_reading_bits) [] [] (He.ga K "reading_bits") fd := (T.c 1 rfl).def_ 25 (d := df_reading_bits) rfl
theorem Top.f_block_bits : ∃ fd, FunD K "block_bits" "block_bits" (defArgs st_block_bits) (defBody st_block_bits) (defScope st_block_bits) [] [] (He.ga K "block_bits") fd := (T.c 1 rfl).def_ 26 (d := df_block_bits) rfl
theorem Top.f_told_value : ∃ fd, FunD K "told_value" "told_value" (defArgs st_told_value) (defBody st_told_value) (defScope st_told_value) [] [] (He.ga K "told_value") fd := (T.c 1 rfl).def_ 27 (d := df_told_value) rfl
theorem Top.f_told_values : ∃ fd, FunD K "told_values" "told_values" (defArgs st_told_values) (defBody st_told_values) (defScope st_told_values) [] [] (He.ga K "told_values") fd := (T.c 1 rfl).def_ 28 (d := df_told_values) rfl
theorem Top.f_told_row : ∃ fd, FunD K "told_row" "told_row" (defArgs st_told_row) (defBody st_told_row) (defScope st_told_row) [] [] (He.ga K "told_row") fd := (T.c 1 rfl).def_ 29 (d := df_told_row) rfl
theorem Top.f_blocks_of : ∃ fd, FunD K "blocks_of" "blocks_of" (defArgs st_blocks_of) (defBody st_blocks_of) (defScope st_blocks_of) [] [] (He.ga K "blocks_of") fd := (T.c 1 rfl).def_ 30 (d := df_blocks_of) rfl
theorem Top.f_sizes_of_blocks : ∃ fd, FunD K "sizes_of_blocks" "sizes_of_blocks" (defArgs st_sizes_of_blocks) (defBody st_sizes_of_blocks) (defScope st_sizes_of_blocks) [] [] (He.ga K "sizes_of_blocks") fd := (T.c 1 rfl).def_ 31 (d := df_sizes_of_blocks) rfl
theorem Top.f_bytes_of_block : ∃ fd, FunD K "bytes_of_block" "bytes_of_block" (defArgs st_bytes_of_block) (defBody st_bytes_of_block) (defScope st_bytes_of_block) [] [] (He.ga K "bytes_of_block") fd := (T.c 1 rfl).def_ 32 (d := df_bytes_of_block) rfl
theorem Top.f_codes_of_row : ∃ fd, FunD K "codes_of_row" "codes_of_row" (defArgs st_codes_of_row) (defBody st_codes_of_row) (defScope st_codes_of_row) [] [] (He.ga K "codes_of_row") fd := (T.c 1 rfl).def_ 33 (d := df_codes_of_row) rfl
theorem Top.f_bits_of_self_ending : ∃ fd, FunD K "bits_of_self_ending" "bits_of_self_ending" (defArgs st_bits_of_self_ending) (defBody st_bits_of_self_ending) (defScope st_bits_of_self_ending) [] [] (He.ga K "bits_of_self_ending") fd := (T.c 1 rfl).def_ 34 (d := df_bits_of_self_ending) rfl
theorem Top.f_copy_series : ∃ fd, FunD K "copy_series" "copy_series" (defArgs st_copy_series) (defBody st_copy_series) (defScope st_copy_series) [] [] (He.ga K "copy_series") fd := (T.c 1 rfl).def_ 35 (d := df_copy_series) rfl
theorem Top.f_differ_at : ∃ fd, FunD K "differ_at" "differ_at" (defArgs st_differ_at) (defBody st_differ_at) (defScope st_differ_at) [] [] (He.ga K "differ_at") fd := (T.c 1 rfl).def_ 36 (d := df_differ_at) rfl
theorem Top.f_first_difference : ∃ fd, FunD K "first_difference" "first_difference" (defArgs st_first_difference) (defBody st_first_difference) (defScope st_first_difference) [] [] (He.ga K "first_difference") fd := (T.c 1 rfl).def_ 37 (d := df_first_difference) rfl
theorem Top.f_is_to_fill : ∃ fd, FunD K "is_to_fill" "is_to_fill" (defArgs st_is_to_fill) (defBody st_is_to_fill) (defScope st_is_to_fill) [] [] (He.ga K "is_to_fill") fd := (T.c 1 rfl).def_ 38 (d := df_is_to_fill) rfl
theorem Top.f_fill_gaps : ∃ fd, FunD K "fill_gaps" "fill_gaps" (defArgs st_fill_gaps) (defBody st_fill_gaps) (defScope st_fill_gaps) [] [] (He.ga K "fill_gaps") fd := (T.c 1 rfl).def_ 39 (d := df_fill_gaps) rfl
theorem Top.f_get_place : ∃ fd, FunD K "get_place" "get_place" (defArgs st_get_place) (defBody st_get_place) (defScope st_get_place) [] [] (He.ga K "get_place") fd := (T.c 1 rfl).def_ 40 (d := df_get_place) rfl
theorem Top.f_was_at_place : ∃ fd, FunD K "was_at_place" "was_at_place" (defArgs st_was_at_place) (defBody st_was_at_place) (defScope st_was_at_place) [] [] (He.ga K "was_at_place") fd := (T.c 1 rfl).def_ 41 (d := df_was_at_place) rfl
theorem Top.f_is_span : ∃ fd, FunD K "is_span" "is_span" (defArgs st_is_span) (defBody st_is_span) (defScope st_is_span) [] [] (He.ga K "is_span") fd := (T.c 1 rfl).def_ 42 (d := df_is_span) rfl
theorem Top.f_sum_of_span : ∃ fd, FunD K "sum_of_span" "sum_of_span" (defArgs st_sum_of_span) (defBody st_sum_of_span) (defScope st_sum_of_span) [] [] (He.ga K "sum_of_span") fd := (T.c 1 rfl).def_ 43 (d := df_sum_of_span) rfl
theorem Top.f_extremes_of_span : ∃ fd, FunD K "extremes_of_span" "extremes_of_span" (defArgs st_extremes_of_span) (defBody st_extremes_of_span) (defScope st_extremes_of_span) [] [] (He.ga K "extremes_of_span") fd := (T.c 1 rfl).def_ 44 (d := df_extremes_of_span) rfl
theorem Top.f_seek_from : ∃ fd, FunD K "seek_from" "seek_from" (defArgs st_seek_from) (defBody st_seek_from) (defScope st_seek_from) [] [] (He.ga K "seek_from") fd := (T.c 1 rfl).def_ 45 (d := df_seek_from) rfl
theorem Top.f_told_piece : ∃ fd, FunD K "told_piece" "told_piece" (defArgs st_told_piece) (defBody st_told_piece) (defScope st_told_piece) [] [] (He.ga K "told_piece") fd := (T.c 1 rfl).def_ 46 (d := df_told_piece) rfl
theorem Top.f_coarse_pieces : ∃ fd, FunD K "coarse_pieces" "coarse_pieces" (defArgs st_coarse_pieces) (defBody st_coarse_pieces) (defScope st_coarse_pieces) [] [] (He.ga K "coarse_pieces") fd := (T.c 1 rfl).def_ 47 (d := df_coarse_pieces) rfl
theorem Top.f_history_of_place : ∃ fd, FunD K "history_of_place" "history_of_place" (defArgs st_history_of_place) (defBody st_history_of_place) (defScope st_history_of_place) [] [] (He.ga K "history_of_place") fd := (T.c 1 rfl).def_ 48 (d := df_history_of_place) rfl
theorem Top.f_state_of_all : ∃ fd, FunD K "state_of_all" "state_of_all" (defArgs st_state_of_all) (defBody st_state_of_all) (defScope st_state_of_all) [] [] (He.ga K "state_of_all") fd := (T.c 1 rfl).def_ 49 (d := df_state_of_all) rfl
theorem Top.f_shape_of : ∃ fd, FunD K "shape_of" "shape_of" (defArgs st_shape_of) (defBody st_shape_of) (defScope st_shape_of) [] [] (He.ga K "shape_of") fd := (T.c 1 rfl).def_ 50 (d := df_shape_of) rfl
theorem Top.f_is_row : ∃ fd, FunD K "is_row" "is_row" (defArgs st_is_row) (defBody st_is_row) (defScope st_is_row) [] [] (He.ga K "is_row") fd := (T.c 1 rfl).def_ 51 (d := df_is_row) rfl
theorem Top.f_lies_within : ∃ fd, FunD K "lies_within" "lies_within" (defArgs st_lies_within) (defBody st_lies_within) (defScope st_lies_within) [] [] (He.ga K "lies_within") fd := (T.c 1 rfl).def_ 52 (d := df_lies_within) rfl
theorem Top.f_number_fits : ∃ fd, FunD K "number_fits" "number_fits" (defArgs st_number_fits) (defBody st_number_fits) (defScope st_number_fits) [] [] (He.ga K "number_fits") fd := (T.c 1 rfl).def_ 53 (d := df_number_fits) rfl
theorem Top.f_row_fits : ∃ fd, FunD K "row_fits" "row_fits" (defArgs st_row_fits) (defBody st_row_fits) (defScope st_row_fits) [] [] (He.ga K "row_fits") fd := (T.c 1 rfl).def_ 54 (d := df_row_fits) rfl
theorem Top.f_fits : ∃ fd, FunD K "fits" "fits" (defArgs st_fits) (defBody st_fits) (defScope st_fits) [] [] (He.ga K "fits") fd := (T.c 1 rfl).def_ 55 (d := df_fits) rfl
theorem Top.f_all_fit : ∃ fd, FunD K "all_fit" "all_fit" (defArgs st_all_fit) (defBody st_all_fit) (defScope st_all_fit) [] [] (He.ga K "all_fit") fd := (T.c 1 rfl).def_ 56 (d := df_all_fit) rfl
theorem Top.f_BitReader___init__ : ∃ fd, FunD K "__init__" "BitReader.__init__" (defArgs st_BitReader___init__) (defBody st_BitReader___init__) (defScope st_BitReader___init__) [] [] (He.ma K (He.ga K "BitReader") "__init__") fd := (T.c 1 rfl).def_ 57 (d := df_BitReader___init__) rfl
theorem Top.f_BitReader_bits_left : ∃ fd, FunD K "bits_left" "BitReader.bits_left" (defArgs st_BitReader_bits_left) (defBody st_BitReader_bits_left) (defScope st_BitReader_bits_left) [] [] (He.ma K (He.ga K "BitReader") "bits_left") fd := (T.c 1 rfl).def_ 58 (d := df_BitReader_bits_left) rfl
theorem Top.f_BitReader_take_bit : ∃ fd, FunD K "take_bit" "BitReader.take_bit" (defArgs st_BitReader_take_bit) (defBody st_BitReader_take_bit) (defScope st_BitReader_take_bit) [] [] (He.ma K (He.ga K "BitReader") "take_bit") fd := (T.c 1 rfl).def_ 59 (d := df_BitReader_take_bit) rfl
theorem Top.f_BitReader_take_digits : ∃ fd, FunD K "take_digits" "BitReader.take_digits" (defArgs st_BitReader_take_digits) (defBody st_BitReader_take_digits) (defScope st_BitReader_take_digits) [] [] (He.ma K (He.ga K "BitReader") "take_digits") fd := (T.c 1 rfl).def_ 60 (d := df_BitReader_take_digits) rfl
theorem Top.f_BitReader_take_in_bits : ∃ fd, FunD K "take_in_bits" "BitReader.take_in_bits" (defArgs st_BitReader_take_in_bits) (defBody st_BitReader_take_in_bits) (defScope st_BitReader_take_in_bits) [] [] (He.ma K (He.ga K "BitReader") "take_in_bits") fd := (T.c 1 rfl).def_ 61 (d := df_BitReader_take_in_bits) rfl
theorem Top.f_BitReader_take_folded : ∃ fd, FunD K "take_folded" "BitReader.take_folded" (defArgs st_BitReader_take_folded) (defBody st_BitReader_take_folded) (defScope st_BitReader_take_folded) [] [] (He.ma K (He.ga K "BitReader") "take_folded") fd := (T.c 1 rfl).def_ 62 (d := df_BitReader_take_folded) rfl
theorem Top.f_BitReader_take_self_ending : ∃ fd, FunD K "take_self_ending" "BitReader.take_self_ending" (defArgs st_BitReader_take_self_ending) (defBody st_BitReader_take_self_ending) (defScope st_BitReader_take_self_ending) [] [] (He.ma K (He.ga K "BitReader") "take_self_ending") fd := (T.c 1 rfl).def_ 63 (d := df_BitReader_take_self_ending) rfl
theorem Top.f_BitReader_take_folded_self_ending : ∃ fd, FunD K "take_folded_self_ending" "BitReader.take_folded_self_ending" (defArgs st_BitReader_take_folded_self_ending) (defBody st_BitReader_take_folded_self_ending) (defScope st_BitReader_take_folded_self_ending) [] [] (He.ma K (He.ga K "BitReader") "take_folded_self_ending") fd := (T.c 1 rfl).def_ 64 (d := df_BitReader_take_folded_self_ending) rfl
theorem Top.f_sums_from : ∃ fd, FunD K "sums_from" "sums_from" (defArgs st_sums_from) (defBody st_sums_from) (defScope st_sums_from) [] [] (He.ga K "sums_from") fd := (T.c 1 rfl).def_ 65 (d := df_sums_from) rfl
theorem Top.f_read_plain_code : ∃ fd, FunD K "read_plain_code" "read_plain_code" (defArgs st_read_plain_code) (defBody st_read_plain_code) (defScope st_read_plain_code) [] [] (He.ga K "read_plain_code") fd := (T.c 1 rfl).def_ 66 (d := df_read_plain_code) rfl
theorem Top.f_read_step_code : ∃ fd, FunD K "read_step_code" "read_step_code" (defArgs st_read_step_code) (defBody st_read_step_code) (defScope st_read_step_code) [] [] (He.ga K "read_step_code") fd := (T.c 1 rfl).def_ 67 (d := df_read_step_code) rfl
theorem Top.f_read_change_of_step_code : ∃ fd, FunD K "read_change_of_step_code" "read_change_of_step_code" (defArgs st_read_change_of_step_code) (defBody st_read_change_of_step_code) (defScope st_read_change_of_step_code) [] [] (He.ga K "read_change_of_step_code") fd := (T.c 1 rfl).def_ 68 (d := df_read_change_of_step_code) rfl
theorem Top.f_read_run_code : ∃ fd, FunD K "read_run_code" "read_run_code" (defArgs st_read_run_code) (defBody st_read_run_code) (defScope st_read_run_code) [] [] (He.ga K "read_run_code") fd := (T.c 1 rfl).def_ 69 (d := df_read_run_code) rfl
theorem Top.f_read_in_code : ∃ fd, FunD K "read_in_code" "read_in_code" (defArgs st_read_in_code) (defBody st_read_in_code) (defScope st_read_in_code) [] [] (He.ga K "read_in_code") fd := (T.c 1 rfl).def_ 70 (d := df_read_in_code) rfl
theorem Top.f_read_readings : ∃ fd, FunD K "read_readings" "read_readings" (defArgs st_read_readings) (defBody st_read_readings) (defScope st_read_readings) [] [] (He.ga K "read_readings") fd := (T.c 1 rfl).def_ 71 (d := df_read_readings) rfl
theorem Top.f_read_marks : ∃ fd, FunD K "read_marks" "read_marks" (defArgs st_read_marks) (defBody st_read_marks) (defScope st_read_marks) [] [] (He.ga K "read_marks") fd := (T.c 1 rfl).def_ 72 (d := df_read_marks) rfl
theorem Top.f_with_gaps : ∃ fd, FunD K "with_gaps" "with_gaps" (defArgs st_with_gaps) (defBody st_with_gaps) (defScope st_with_gaps) [] [] (He.ga K "with_gaps") fd := (T.c 1 rfl).def_ 73 (d := df_with_gaps) rfl
theorem Top.f_read_values : ∃ fd, FunD K "read_values" "read_values" (defArgs st_read_values) (defBody st_read_values) (defScope st_read_values) [] [] (He.ga K "read_values") fd := (T.c 1 rfl).def_ 74 (d := df_read_values) rfl
theorem Top.f_is_filling : ∃ fd, FunD K "is_filling" "is_filling" (defArgs st_is_filling) (defBody st_is_filling) (defScope st_is_filling) [] [] (He.ga K "is_filling") fd := (T.c 1 rfl).def_ 75 (d := df_is_filling) rfl
theorem Top.f_read_block : ∃ fd, FunD K "read_block" "read_block" (defArgs st_read_block) (defBody st_read_block) (defScope st_read_block) [] [] (He.ga K "read_block") fd := (T.c 1 rfl).def_ 76 (d := df_read_block) rfl
theorem Top.f_unpack_row : ∃ fd, FunD K "unpack_row" "unpack_row" (defArgs st_unpack_row) (defBody st_unpack_row) (defScope st_unpack_row) [] [] (He.ga K "unpack_row") fd := (T.c 1 rfl).def_ 77 (d := df_unpack_row) rfl
theorem Top.f_load_row : ∃ fd, FunD K "load_row" "load_row" (defArgs st_load_row) (defBody st_load_row) (defScope st_load_row) [] [] (He.ga K "load_row") fd := (T.c 1 rfl).def_ 78 (d := df_load_row) rfl
theorem Top.f_change_or_look : ∃ fd, FunD K "change_or_look" "change_or_look" (defArgs st_change_or_look) (defBody st_change_or_look) (defScope st_change_or_look) [] [] (He.ga K "change_or_look") fd := (T.c 1 rfl).def_ 79 (d := df_change_or_look) rfl
theorem Top.f_survey : ∃ fd, FunD K "survey" "survey" (defArgs st_survey) (defBody st_survey) (defScope st_survey) [] [] (He.ga K "survey") fd := (T.c 1 rfl).def_ 80 (d := df_survey) rfl
theorem Top.f_read_or_code : ∃ fd, FunD K "read_or_code" "read_or_code" (defArgs st_read_or_code) (defBody st_read_or_code) (defScope st_read_or_code) [] [] (He.ga K "read_or_code") fd := (T.c 1 rfl).def_ 81 (d := df_read_or_code) rfl
theorem Top.f_pair_or_trace : ∃ fd, FunD K "pair_or_trace" "pair_or_trace" (defArgs st_pair_or_trace) (defBody st_pair_or_trace) (defScope st_pair_or_trace) [] [] (He.ga K "pair_or_trace") fd := (T.c 1 rfl).def_ 82 (d := df_pair_or_trace) rfl
theorem Top.f_answer_of : ∃ fd, FunD K "answer_of" "answer_of" (defArgs st_answer_of) (defBody st_answer_of) (defScope st_answer_of) [] [] (He.ga K "answer_of") fd := (T.c 1 rfl).def_ 83 (d := df_answer_of) rfl
theorem Top.f_Series___init__ : ∃ fd, FunD K "__init__" "Series.__init__" (defArgs st_Series___init__) (defBody st_Series___init__) (defScope st_Series___init__) [] [] (He.ma K (He.ga K "Series") "__init__") fd := (T.c 1 rfl).def_ 84 (d := df_Series___init__) rfl
theorem Top.f_Series_make_empty : ∃ fd, FunD K "make_empty" "Series.make_empty" (defArgs st_Series_make_empty) (defBody st_Series_make_empty) (defScope st_Series_make_empty) [] [] (He.ma K (He.ga K "Series") "make_empty") fd := (T.c 1 rfl).def_ 85 (d := df_Series_make_empty) rfl
theorem Top.f_Series_place_count : ∃ fd, FunD K "place_count" "Series.place_count" (defArgs st_Series_place_count) (defBody st_Series_place_count) (defScope st_Series_place_count) [] [] (He.ma K (He.ga K "Series") "place_count") fd := (T.c 1 rfl).def_ 86 (d := df_Series_place_count) rfl
theorem Top.f_Series_has_place : ∃ fd, FunD K "has_place" "Series.has_place" (defArgs st_Series_has_place) (defBody st_Series_has_place) (defScope st_Series_has_place) [] [] (He.ma K (He.ga K "Series") "has_place") fd := (T.c 1 rfl).def_ 87 (d := df_Series_has_place) rfl
theorem Top.f_Series_correction_count : ∃ fd, FunD K "correction_count" "Series.correction_count" (defArgs st_Series_correction_count) (defBody st_Series_correction_count) (defScope st_Series_correction_count) [] [] (He.ma K (He.ga K "Series") "correction_count") fd := (T.c 1 rfl).def_ 88 (d := df_Series_correction_count) rfl
theorem Top.f_Series_put_behind : ∃ fd, FunD K "put_behind" "Series.put_behind" (defArgs st_Series_put_behind) (defBody st_Series_put_behind) (defScope st_Series_put_behind) [] [] (He.ma K (He.ga K "Series") "put_behind") fd := (T.c 1 rfl).def_ 89 (d := df_Series_put_behind) rfl
theorem Top.f_Series_correct : ∃ fd, FunD K "correct" "Series.correct" (defArgs st_Series_correct) (defBody st_Series_correct) (defScope st_Series_correct) [] [] (He.ma K (He.ga K "Series") "correct") fd := (T.c 1 rfl).def_ 90 (d := df_Series_correct) rfl
theorem Top.f_Series_take_over : ∃ fd, FunD K "take_over" "Series.take_over" (defArgs st_Series_take_over) (defBody st_Series_take_over) (defScope st_Series_take_over) [] [] (He.ma K (He.ga K "Series") "take_over") fd := (T.c 1 rfl).def_ 91 (d := df_Series_take_over) rfl
theorem Top.f_Series_cut_from : ∃ fd, FunD K "cut_from" "Series.cut_from" (defArgs st_Series_cut_from) (defBody st_Series_cut_from) (defScope st_Series_cut_from) [] [] (He.ma K (He.ga K "Series") "cut_from") fd := (T.c 1 rfl).def_ 92 (d := df_Series_cut_from) rfl
theorem Top.f_Series_values_up_to : ∃ fd, FunD K "values_up_to" "Series.values_up_to" (defArgs st_Series_values_up_to) (defBody st_Series_values_up_to) (defScope st_Series_values_up_to) [] [] (He.ma K (He.ga K "Series") "values_up_to") fd := (T.c 1 rfl).def_ 93 (d := df_Series_values_up_to) rfl
theorem Top.f_Series_value_as_of : ∃ fd, FunD K "value_as_of" "Series.value_as_of" (defArgs st_Series_value_as_of) (defBody st_Series_value_as_of) (defScope st_Series_value_as_of) [] [] (He.ma K (He.ga K "Series") "value_as_of") fd := (T.c 1 rfl).def_ 94 (d := df_Series_value_as_of) rfl
theorem Top.f_Reader___init__ : ∃ fd, FunD K "__init__" "Reader.__init__" (defArgs st_Reader___init__) (defBody st_Reader___init__) (defScope st_Reader___init__) [] [] (He.ma K (He.ga K "Reader") "__init__") fd := (T.c 1 rfl).def_ 95 (d := df_Reader___init__) rfl
theorem Top.f_Reader_has_more : ∃ fd, FunD K "has_more" "Reader.has_more" (defArgs st_Reader_has_more) (defBody st_Reader_has_more) (defScope st_Reader_has_more) [] [] (He.ma K (He.ga K "Reader") "has_more") fd := (T.c 1 rfl).def_ 96 (d := df_Reader_has_more) rfl
theorem Top.f_Reader_take_number : ∃ fd, FunD K "take_number" "Reader.take_number" (defArgs st_Reader_take_number) (defBody st_Reader_take_number) (defScope st_Reader_take_number) [] [] (He.ma K (He.ga K "Reader") "take_number") fd := (T.c 1 rfl).def_ 97 (d := df_Reader_take_number) rfl
theorem Top.f_Reader_take_row : ∃ fd, FunD K "take_row" "Reader.take_row" (defArgs st_Reader_take_row) (defBody st_Reader_take_row) (defScope st_Reader_take_row) [] [] (He.ma K (He.ga K "Reader") "take_row") fd := (T.c 1 rfl).def_ 98 (d := df_Reader_take_row) rfl
theorem Top.f_Reader_take_kind : ∃ fd, FunD K "take_kind" "Reader.take_kind" (defArgs st_Reader_take_kind) (defBody st_Reader_take_kind) (defScope st_Reader_take_kind) [] [] (He.ma K (He.ga K "Reader") "take_kind") fd := (T.c 1 rfl).def_ 99 (d := df_Reader_take_kind) rfl
theorem Top.f_take_givens : ∃ fd, FunD K "take_givens" "take_givens" (defArgs st_take_givens) (defBody st_take_givens) (defScope st_take_givens) [] [] (He.ga K "take_givens") fd := (T.c 1 rfl).def_ 100 (d := df_take_givens) rfl
theorem Top.f_answers : ∃ fd, FunD K "answers" "answers" (defArgs st_answers) (defBody st_answers) (defScope st_answers) [] [] (He.ga K "answers") fd := (T.c 1 rfl).def_ 101 (d := df_answers) rfl
theorem Top.kv_RANGES_0 : KDct K w (He.ga K "RANGES") "series" (.ref (tS K (He.ga K "RANGES") "series")) := valS_ok T.kd_RANGES ((T.c 2 rfl).look 0 rfl)
theorem Top.kt_RANGES_0 : ∀ H : Hp, SqT K H (tS K (He.ga K "RANGES") "series") [(.int (0) : V), (.int (3) : V)] := tupAt_ok ((T.c 2 rfl).look 1 rfl)
theorem Top.kv_RANGES_1 : KDct K w (He.ga K "RANGES") "place" (.ref (tS K (He.ga K "RANGES") "place")) := valS_ok T.kd_RANGES ((T.c 2 rfl).look 2 rfl)
theorem Top.kt_RANGES_1 : ∀ H : Hp, SqT K H (tS K (He.ga K "RANGES") "place") [(.int (0) : V), (.int (400) : V)] := tupAt_ok ((T.c 2 rfl).look 3 rfl)
theorem Top.kv_RANGES_2 : KDct K w (He.ga K "RANGES") "correction count" (.ref (tS K (He.ga K "RANGES") "correction count")) := valS_ok T.kd_RANGES ((T.c 2 rfl).look 4 rfl)
theorem Top.kt_RANGES_2 : ∀ H : Hp, SqT K H (tS K (He.ga K "RANGES") "correction count") [(.int (0) : V), (.int (100) : V)] := tupAt_ok ((T.c 2 rfl).look 5 rfl)
theorem Top.kv_RANGES_3 : KDct K w (He.ga K "RANGES") "seek bound" (.ref (tS K (He.ga K "RANGES") "seek bound")) := valS_ok T.kd_RANGES ((T.c 2 rfl).look 6 rfl)
theorem Top.kt_RANGES_3 : ∀ H : Hp, SqT K H (tS K (He.ga K "RANGES") "seek bound") [(.int (-2000000000) : V), (.int (2000000000) : V)] := tupAt_ok ((T.c 2 rfl).look 7 rfl)
theorem Top.kv_RANGES_4 : KDct K w (He.ga K "RANGES") "piece length" (.ref (tS K (He.ga K "RANGES") "piece length")) := valS_ok T.kd_RANGES ((T.c 2 rfl).look 8 rfl)
theorem Top.kt_RANGES_4 : ∀ H : Hp, SqT K H (tS K (He.ga K "RANGES") "piece length") [(.int (1) : V), (.int (96) : V)] := tupAt_ok ((T.c 2 rfl).look 9 rfl)
theorem Top.kv_RANGES_5 : KDct K w (He.ga K "RANGES") "block number" (.ref (tS K (He.ga K "RANGES") "block number")) := valS_ok T.kd_RANGES ((T.c 2 rfl).look 10 rfl)
theorem Top.kt_RANGES_5 : ∀ H : Hp, SqT K H (tS K (He.ga K "RANGES") "block number") [(.int (0) : V), (.int (30) : V)] := tupAt_ok ((T.c 2 rfl).look 11 rfl)
theorem Top.kv_RANGES_6 : KDct K w (He.ga K "RANGES") "byte" (.ref (tS K (He.ga K "RANGES") "byte")) := valS_ok T.kd_RANGES ((T.c 2 rfl).look 12 rfl)
theorem Top.kt_RANGES_6 : ∀ H : Hp, SqT K H (tS K (He.ga K "RANGES") "byte") [(.int (0) : V), (.int (255) : V)] := tupAt_ok ((T.c 2 rfl).look 13 rfl)
theorem Top.kv_RANGES_7 : KDct K w (He.ga K "RANGES") "self-ending number" (.ref (tS K (He.ga K "RANGES") "self-ending number")) := valS_ok T.kd_RANGES ((T.c 2 rfl).look 14 rfl)
theorem Top.kt_RANGES_7 : ∀ H : Hp, SqT K H (tS K (He.ga K "RANGES") "self-ending number") [(.int (1) : V), (.int (4294967296) : V)] := tupAt_ok ((T.c 2 rfl).look 15 rfl)
theorem Top.kv_ROW_LENGTHS_0 : KDct K w (He.ga K "ROW_LENGTHS") "values" (.ref (tS K (He.ga K "ROW_LENGTHS") "values")) := valS_ok T.kd_ROW_LENGTHS ((T.c 2 rfl).look 16 rfl)
theorem Top.kt_ROW_LENGTHS_0 : ∀ H : Hp, SqT K H (tS K (He.ga K "ROW_LENGTHS") "values") [(.int (1) : V), (.int (64) : V)] := tupAt_ok ((T.c 2 rfl).look 17 rfl)
theorem Top.kv_ROW_LENGTHS_1 : KDct K w (He.ga K "ROW_LENGTHS") "block values" (.ref (tS K (He.ga K "ROW_LENGTHS") "block values")) := valS_ok T.kd_ROW_LENGTHS ((T.c 2 rfl).look 18 rfl)
theorem Top.kt_ROW_LENGTHS_1 : ∀ H : Hp, SqT K H (tS K (He.ga K "ROW_LENGTHS") "block values") [(.int (1) : V), (.int (16) : V)] := tupAt_ok ((T.c 2 rfl).look 19 rfl)
theorem Top.kv_ROW_LENGTHS_2 : KDct K w (He.ga K "ROW_LENGTHS") "bytes" (.ref (tS K (He.ga K "ROW_LENGTHS") "bytes")) := valS_ok T.kd_ROW_LENGTHS ((T.c 2 rfl).look 20 rfl)
theorem Top.kt_ROW_LENGTHS_2 : ∀ H : Hp, SqT K H (tS K (He.ga K "ROW_LENGTHS") "bytes") [(.int (0) : V), (.int (200) : V)] := tupAt_ok ((T.c 2 rfl).look 21 rfl)
theorem Top.kv_ROW_MEMBERS_0 : KDct K w (He.ga K "ROW_MEMBERS") "values" (.str "value") := valS_ok T.kd_ROW_MEMBERS ((T.c 2 rfl).look 22 rfl)
theorem Top.kv_ROW_MEMBERS_1 : KDct K w (He.ga K "ROW_MEMBERS") "block values" (.str "value") := valS_ok T.kd_ROW_MEMBERS ((T.c 2 rfl).look 23 rfl)
theorem Top.kv_ROW_MEMBERS_2 : KDct K w (He.ga K "ROW_MEMBERS") "bytes" (.str "byte") := valS_ok T.kd_ROW_MEMBERS ((T.c 2 rfl).look 24 rfl)
theorem Top.kv_SHAPES_0 : KIDct K (He.ga K "SHAPES") (0) (.ref (tI K (He.ga K "SHAPES") (0))) := kidB_ok ((T.c 2 rfl).look 25 rfl)
theorem Top.kt_SHAPES_0 : ∀ H : Hp, SqT K H (tI K (He.ga K "SHAPES") (0)) [(.str "series" : V)] := tupAt_ok ((T.c 2 rfl).look 26 rfl)
theorem Top.kv_SHAPES_1 : KIDct K (He.ga K "SHAPES") (1) (.ref (tI K (He.ga K "SHAPES") (1))) := kidB_ok ((T.c 2 rfl).look 27 rfl)
theorem Top.kt_SHAPES_1 : ∀ H : Hp, SqT K H (tI K (He.ga K "SHAPES") (1)) [(.str "series" : V), (.str "values" : V)] := tupAt_ok ((T.c 2 rfl).look 28 rfl)
theorem Top.kv_SHAPES_2 : KIDct K (He.ga K "SHAPES") (2) (.ref (tI K (He.ga K "SHAPES") (2))) := kidB_ok ((T.c 2 rfl).look 29 rfl)
theorem Top.kt_SHAPES_2 : ∀ H : Hp, SqT K H (tI K (He.ga K "SHAPES") (2)) [(.str "series" : V), (.str "place" : V), (.str "value" : V)] := tupAt_ok ((T.c 2 rfl).look 30 rfl)
theorem Top.kv_SHAPES_3 : KIDct K (He.ga K "SHAPES") (3) (.ref (tI K (He.ga K "SHAPES") (3))) := kidB_ok ((T.c 2 rfl).look 31 rfl)
theorem Top.kt_SHAPES_3 : ∀ H : Hp, SqT K H (tI K (He.ga K "SHAPES") (3)) [(.str "series" : V), (.str "place" : V)] := tupAt_ok ((T.c 2 rfl).look 32 rfl)
theorem Top.kv_SHAPES_4 : KIDct K (He.ga K "SHAPES") (4) (.ref (tI K (He.ga K "SHAPES") (4))) := kidB_ok ((T.c 2 rfl).look 33 rfl)
theorem Top.kt_SHAPES_4 : ∀ H : Hp, SqT K H (tI K (He.ga K "SHAPES") (4)) [(.str "series" : V), (.str "place" : V), (.str "correction count" : V)] := tupAt_ok ((T.c 2 rfl).look 34 rfl)
theorem Top.kv_SHAPES_5 : KIDct K (He.ga K "SHAPES") (5) (.ref (tI K (He.ga K "SHAPES") (5))) := kidB_ok ((T.c 2 rfl).look 35 rfl)
theorem Top.kt_SHAPES_5 : ∀ H : Hp, SqT K H (tI K (He.ga K "SHAPES") (5)) [(.str "series" : V), (.str "place" : V), (.str "place" : V)] := tupAt_ok ((T.c 2 rfl).look 36 rfl)
theorem Top.kv_SHAPES_6 : KIDct K (He.ga K "SHAPES") (6) (.ref (tI K (He.ga K "SHAPES") (6))) := kidB_ok ((T.c 2 rfl).look 37 rfl)
theorem Top.kt_SHAPES_6 : ∀ H : Hp, SqT K H (tI K (He.ga K "SHAPES") (6)) [(.str "series" : V), (.str "place" : V), (.str "place" : V)] := tupAt_ok ((T.c 2 rfl).look 38 rfl)
theorem Top.kv_SHAPES_7 : KIDct K (He.ga K "SHAPES") (7) (.ref (tI K (He.ga K "SHAPES") (7))) := kidB_ok ((T.c 2 rfl).look 39 rfl)
theorem Top.kt_SHAPES_7 : ∀ H : Hp, SqT K H (tI K (He.ga K "SHAPES") (7)) [(.str "series" : V), (.str "place" : V), (.str "seek bound" : V)] := tupAt_ok ((T.c 2 rfl).look 40 rfl)
theorem Top.kv_SHAPES_8 : KIDct K (He.ga K "SHAPES") (8) (.ref (tI K (He.ga K "SHAPES") (8))) := kidB_ok ((T.c 2 rfl).look 41 rfl)
theorem Top.kt_SHAPES_8 : ∀ H : Hp, SqT K H (tI K (He.ga K "SHAPES") (8)) [(.str "series" : V), (.str "piece length" : V)] := tupAt_ok ((T.c 2 rfl).look 42 rfl)
theorem Top.kv_SHAPES_9 : KIDct K (He.ga K "SHAPES") (9) (.ref (tI K (He.ga K "SHAPES") (9))) := kidB_ok ((T.c 2 rfl).look 43 rfl)
theorem Top.kt_SHAPES_9 : ∀ H : Hp, SqT K H (tI K (He.ga K "SHAPES") (9)) [(.str "series" : V)] := tupAt_ok ((T.c 2 rfl).look 44 rfl)
theorem Top.kv_SHAPES_10 : KIDct K (He.ga K "SHAPES") (10) (.ref (tI K (He.ga K "SHAPES") (10))) := kidB_ok ((T.c 2 rfl).look 45 rfl)
theorem Top.kt_SHAPES_10 : ∀ H : Hp, SqT K H (tI K (He.ga K "SHAPES") (10)) [(.str "series" : V), (.str "block number" : V)] := tupAt_ok ((T.c 2 rfl).look 46 rfl)
theorem Top.kv_SHAPES_11 : KIDct K (He.ga K "SHAPES") (11) (.ref (tI K (He.ga K "SHAPES") (11))) := kidB_ok ((T.c 2 rfl).look 47 rfl)
theorem Top.kt_SHAPES_11 : ∀ H : Hp, SqT K H (tI K (He.ga K "SHAPES") (11)) [(.str "bytes" : V)] := tupAt_ok ((T.c 2 rfl).look 48 rfl)
theorem Top.kv_SHAPES_12 : KIDct K (He.ga K "SHAPES") (12) (.ref (tI K (He.ga K "SHAPES") (12))) := kidB_ok ((T.c 2 rfl).look 49 rfl)
theorem Top.kt_SHAPES_12 : ∀ H : Hp, SqT K H (tI K (He.ga K "SHAPES") (12)) [(.str "series" : V), (.str "bytes" : V)] := tupAt_ok ((T.c 2 rfl).look 50 rfl)
theorem Top.kv_SHAPES_13 : KIDct K (He.ga K "SHAPES") (13) (.ref (tI K (He.ga K "SHAPES") (13))) := kidB_ok ((T.c 2 rfl).look 51 rfl)
theorem Top.kt_SHAPES_13 : ∀ H : Hp, SqT K H (tI K (He.ga K "SHAPES") (13)) [(.str "block values" : V)] := tupAt_ok ((T.c 2 rfl).look 52 rfl)
theorem Top.kv_SHAPES_14 : KIDct K (He.ga K "SHAPES") (14) (.ref (tI K (He.ga K "SHAPES") (14))) := kidB_ok ((T.c 2 rfl).look 53 rfl)
theorem Top.kt_SHAPES_14 : ∀ H : Hp, SqT K H (tI K (He.ga K "SHAPES") (14)) [(.str "self-ending number" : V)] := tupAt_ok ((T.c 2 rfl).look 54 rfl)
theorem Top.kv_SHAPES_15 : KIDct K (He.ga K "SHAPES") (15) (.ref (tI K (He.ga K "SHAPES") (15))) := kidB_ok ((T.c 2 rfl).look 55 rfl)
theorem Top.kt_SHAPES_15 : ∀ H : Hp, SqT K H (tI K (He.ga K "SHAPES") (15)) [(.str "series" : V), (.str "series" : V)] := tupAt_ok ((T.c 2 rfl).look 56 rfl)
theorem Top.kv_SHAPES_16 : KIDct K (He.ga K "SHAPES") (16) (.ref (tI K (He.ga K "SHAPES") (16))) := kidB_ok ((T.c 2 rfl).look 57 rfl)
theorem Top.kt_SHAPES_16 : ∀ H : Hp, SqT K H (tI K (He.ga K "SHAPES") (16)) [(.str "series" : V), (.str "series" : V), (.str "place" : V)] := tupAt_ok ((T.c 2 rfl).look 58 rfl)
theorem Top.kv_SHAPES_17 : KIDct K (He.ga K "SHAPES") (17) (.ref (tI K (He.ga K "SHAPES") (17))) := kidB_ok ((T.c 2 rfl).look 59 rfl)
theorem Top.kt_SHAPES_17 : ∀ H : Hp, SqT K H (tI K (He.ga K "SHAPES") (17)) [(.str "series" : V), (.str "series" : V)] := tupAt_ok ((T.c 2 rfl).look 60 rfl)
theorem Top.kv_SHAPES_18 : KIDct K (He.ga K "SHAPES") (18) (.ref (tI K (He.ga K "SHAPES") (18))) := kidB_ok ((T.c 2 rfl).look 61 rfl)
theorem Top.kt_SHAPES_18 : ∀ H : Hp, SqT K H (tI K (He.ga K "SHAPES") (18)) [(.str "series" : V), (.str "place" : V)] := tupAt_ok ((T.c 2 rfl).look 62 rfl)
theorem Top.kv_SHAPES_19 : KIDct K (He.ga K "SHAPES") (19) (.ref (tI K (He.ga K "SHAPES") (19))) := kidB_ok ((T.c 2 rfl).look 63 rfl)
theorem Top.kt_SHAPES_19 : ∀ H : Hp, SqT K H (tI K (He.ga K "SHAPES") (19)) [(.str "series" : V), (.str "place" : V)] := tupAt_ok ((T.c 2 rfl).look 64 rfl)
theorem Top.kv_SHAPES_20 : KIDct K (He.ga K "SHAPES") (20) (.ref (tI K (He.ga K "SHAPES") (20))) := kidB_ok ((T.c 2 rfl).look 65 rfl)
theorem Top.kt_SHAPES_20 : ∀ H : Hp, SqT K H (tI K (He.ga K "SHAPES") (20)) [] := tupAt_ok ((T.c 2 rfl).look 66 rfl)
theorem Top.xe_BitsLack : PySem.W.excIn K (He.ga K "BitsLack") exBase "Exception.__new__" = true := (T.c 2 rfl).look 67 rfl
theorem Top.xk_BitsLack : PySem.W.keepIn K (.ref (He.ga K "BitsLack")) = true := (T.c 2 rfl).look 68 rfl
theorem Top.xb_BitsLack : PySem.W.subIn K (.ref (He.ga K "BitsLack")) (.type "BaseException") = some true := of_decide_eq_true ((T.c 2 rfl).look 69 rfl)
theorem Top.xt_BitsLack : PySem.W.typeIn K (.ref (He.ga K "BitsLack")) = some (.type "type") := of_decide_eq_true ((T.c 2 rfl).look 70 rfl)
theorem Top.xm_BitsLack_BitsLack : PySem.W.exmOne K (.ref (He.ga K "BitsLack")) (.ref (He.ga K "BitsLack")) = some true := of_decide_eq_true ((T.c 2 rfl).look 71 rfl)
theorem Top.xm_BitsLack_WrongNumber : PySem.W.exmOne K (.ref (He.ga K "BitsLack")) (.ref (He.ga K "WrongNumber")) = some false := of_decide_eq_true ((T.c 2 rfl).look 72 rfl)
theorem Top.xe_WrongNumber : PySem.W.excIn K (He.ga K "WrongNumber") exBase "Exception.__new__" = true := (T.c 2 rfl).look 73 rfl
theorem Top.xk_WrongNumber : PySem.W.keepIn K (.ref (He.ga K "WrongNumber")) = true := (T.c 2 rfl).look 74 rfl
theorem Top.xb_WrongNumber : PySem.W.subIn K (.ref (He.ga K "WrongNumber")) (.type "BaseException") = some true := of_decide_eq_true ((T.c 2 rfl).look 75 rfl)
theorem Top.xt_WrongNumber : PySem.W.typeIn K (.ref (He.ga K "WrongNumber")) = some (.type "type") := of_decide_eq_true ((T.c 2 rfl).look 76 rfl)
theorem Top.xm_WrongNumber_BitsLack : PySem.W.exmOne K (.ref (He.ga K "WrongNumber")) (.ref (He.ga K "BitsLack")) = some false := of_decide_eq_true ((T.c 2 rfl).look 77 rfl)
theorem Top.xm_WrongNumber_WrongNumber : PySem.W.exmOne K (.ref (He.ga K "WrongNumber")) (.ref (He.ga K "WrongNumber")) = some true := of_decide_eq_true ((T.c 2 rfl).look 78 rfl)
theorem Top.ka_ROW_LENGTHS_0 : PySem.W.nsIn K (He.ga K "ROW_LENGTHS") "series" = some none := He.eqO_ok ((T.c 2 rfl).look 79 rfl)
theorem Top.ka_ROW_LENGTHS_1 : PySem.W.nsIn K (He.ga K "ROW_LENGTHS") "place" = some none := He.eqO_ok ((T.c 2 rfl).look 80 rfl)
theorem Top.ka_ROW_LENGTHS_2 : PySem.W.nsIn K (He.ga K "ROW_LENGTHS") "correction count" = some none := He.eqO_ok ((T.c 2 rfl).look 81 rfl)
theorem Top.ka_ROW_LENGTHS_3 : PySem.W.nsIn K (He.ga K "ROW_LENGTHS") "seek bound" = some none := He.eqO_ok ((T.c 2 rfl).look 82 rfl)
theorem Top.ka_ROW_LENGTHS_4 : PySem.W.nsIn K (He.ga K "ROW_LENGTHS") "piece length" = some none := He.eqO_ok ((T.c 2 rfl).look 83 rfl)
theorem Top.ka_ROW_LENGTHS_5 : PySem.W.nsIn K (He.ga K "ROW_LENGTHS") "block number" = some none := He.eqO_ok ((T.c 2 rfl).look 84 rfl)
theorem Top.ka_ROW_LENGTHS_6 : PySem.W.nsIn K (He.ga K "ROW_LENGTHS") "byte" = some none := He.eqO_ok ((T.c 2 rfl).look 85 rfl)
theorem Top.ka_ROW_LENGTHS_7 : PySem.W.nsIn K (He.ga K "ROW_LENGTHS") "self-ending number" = some none := He.eqO_ok ((T.c 2 rfl).look 86 rfl)
theorem Top.ka_ROW_LENGTHS_8 : PySem.W.nsIn K (He.ga K "ROW_LENGTHS") "value" = some none := He.eqO_ok ((T.c 2 rfl).look 87 rfl)
end
end PR
set_option Elab.async false
set_option linter.all false
set_option maxRecDepth 100000
set_option maxHeartbeats 0
namespace PR
open PySem PySem.Spec PyProof.Rows L2
abbrev RR : PySem.W.OpenSpec := PySem.Challenge.rw_packedreadings_s01_answers
abbrev qv : Program := PySem.W.view RR.prog [122]
def names0 : List Str := ["SERIES_COUNT", "MOST_PLACES", "MOST_CORRECTIONS", "BLOCK_LENGTH", "NOT_AS_TOLD", "WRONG_BYTES", "NO_SUCH_PLACE", "FULL", "TOO_FEW_CORRECTIONS", "SAME_SERIES", "STANDS_ALREADY", "NO_READING", "clear_series", "add_row", "fix_place", "trim_series", "folded", "unfolded", "width", "in_bits", "all_in_bits", "self_ending", "folded_self_ending", "byte_at", "as_bytes", "LEAST_READING", "GREATEST_READING", "GAP", "is_reading", "readings_in"]
def names1 : List Str := ["steps_between", "greatest_width", "plain_code", "step_code", "change_of_step_code", "run_end", "run_code", "in_each_code", "shortest_code", "gap_bits", "reading_bits", "block_bits", "told_value", "told_values", "told_row", "blocks_of", "sizes_of_blocks", "bytes_of_block", "codes_of_row", "bits_of_self_ending", "copy_series", "differ_at", "first_difference", "is_to_fill", "fill_gaps", "get_place", "was_at_place", "is_span", "sum_of_span", "extremes_of_span"]
def names2 : List Str := ["seek_from", "told_piece", "coarse_pieces", "history_of_place", "state_of_all", "RANGES", "ROW_LENGTHS", "ROW_MEMBERS", "SHAPES", "shape_of", "is_row", "lies_within", "number_fits", "row_fits", "fits", "all_fit", "MOST_ZEROS", "BitsLack", "WrongNumber", "BitReader", "NOTHING_WRONG", "BITS_LACK", "WRONG_NUMBER", "BITS_LEFT_OVER", "OTHER_BYTES", "sums_from", "read_plain_code", "read_step_code", "read_change_of_step_code", "read_run_code"]
def names3 : List Str := ["read_in_code", "read_readings", "read_marks", "with_gaps", "read_values", "is_filling", "read_block", "unpack_row", "load_row", "change_or_look", "survey", "read_or_code", "pair_or_trace", "answer_of", "Series", "Reader", "take_givens"]
def asL0 : List Addr := [3, 6, 4, 21, 28, 35, 42, 49, 56, 63, 68, 75, 82, 89, 96, 101, 108, 113, 118, 125, 130, 135, 142, 149, 156, 163, 168, 173, 180, 187, 194, 201, 208, 213, 218, 225, 230, 237, 244, 251, 258, 265, 270, 277, 284, 291, 298, 305, 312, 319, 326, 333, 340, 341, 350, 354, 355, 384, 391, 398, 405, 410, 417, 422, 432, 445, 514, 525, 530, 535, 540, 547, 554, 559, 564, 571, 578, 585, 592, 599, 606, 613, 620, 627, 634, 641, 724, 773, 784, 789, 0, 20, 27, 34, 41, 48, 55, 62, 67, 74]
def asL1 : List Addr := [81, 88, 95, 100, 107, 112, 117, 124, 129, 134, 141, 148, 155, 162, 167, 172, 179, 186, 193, 200, 207, 212, 217, 224, 229, 236, 243, 250, 257, 264, 269, 276, 283, 290, 297, 304, 311, 318, 325, 332, 339, 342, 343, 344, 345, 346, 347, 348, 349, 351, 352, 353, 356, 357, 358, 359, 360, 361, 362, 363, 364, 365, 366, 367, 368, 369, 370, 371, 372, 374, 375, 376, 377, 383, 390, 397, 404, 409, 416, 421, 431, 444, 513, 524, 529, 534, 539, 546, 553, 558, 563, 570, 577, 584, 591, 598, 605, 612, 619, 626]
def asL2 : List Addr := [633, 640, 723, 772, 783, 788, 15, 16, 17, 18, 19, 22, 23, 24, 25, 26, 29, 30, 31, 32, 33, 36, 37, 38, 39, 40, 43, 44, 45, 46, 47, 50, 51, 52, 53, 54, 57, 58, 59, 60, 61, 64, 65, 66, 69, 70, 71, 72, 73, 76, 77, 78, 79, 80, 83, 84, 85, 86, 87, 90, 91, 92, 93, 94, 97, 98, 99, 102, 103, 104, 105, 106, 109, 110, 111, 114, 115, 116, 119, 120, 121, 122, 123, 126, 127, 128, 131, 132, 133, 136, 137, 138, 139, 140, 143, 144, 145, 146, 147, 150]
def asL3 : List Addr := [151, 152, 153, 154, 157, 158, 159, 160, 161, 164, 165, 166, 169, 170, 171, 174, 175, 176, 177, 178, 181, 182, 183, 184, 185, 188, 189, 190, 191, 192, 195, 196, 197, 198, 199, 202, 203, 204, 205, 206, 209, 210, 211, 214, 215, 216, 219, 220, 221, 222, 223, 226, 227, 228, 231, 232, 233, 234, 235, 238, 239, 240, 241, 242, 245, 246, 247, 248, 249, 252, 253, 254, 255, 256, 259, 260, 261, 262, 263, 266, 267, 268, 271, 272, 273, 274, 275, 278, 279, 280, 281, 282, 285, 286, 287, 288, 289, 292, 293, 294]
def asL4 : List Addr := [295, 296, 299, 300, 301, 302, 303, 306, 307, 308, 309, 310, 313, 314, 315, 316, 317, 320, 321, 322, 323, 324, 327, 328, 329, 330, 331, 334, 335, 336, 337, 338, 378, 379, 380, 381, 382, 385, 386, 387, 388, 389, 392, 393, 394, 395, 396, 399, 400, 401, 402, 403, 406, 407, 408, 411, 412, 413, 414, 415, 418, 419, 420, 430, 433, 443, 446, 462, 469, 476, 483, 490, 497, 504, 511, 512, 515, 516, 519, 520, 521, 522, 523, 526, 527, 528, 531, 532, 533, 536, 537, 538, 541, 542, 543, 544, 545, 548, 549, 550]
def asL5 : List Addr := [551, 552, 555, 556, 557, 560, 561, 562, 565, 566, 567, 568, 569, 572, 573, 574, 575, 576, 579, 580, 581, 582, 583, 586, 587, 588, 589, 590, 593, 594, 595, 596, 597, 600, 601, 602, 603, 604, 607, 608, 609, 610, 611, 614, 615, 616, 617, 618, 621, 622, 623, 624, 625, 628, 629, 630, 631, 632, 635, 636, 637, 638, 639, 655, 662, 669, 676, 683, 690, 697, 704, 709, 714, 721, 722, 725, 726, 742, 749, 756, 763, 770, 771, 774, 775, 778, 779, 780, 781, 782, 785, 786, 787, 461, 468, 475, 482, 489, 496, 503]
def asL6 : List Addr := [510, 654, 661, 668, 675, 682, 689, 696, 703, 708, 713, 720, 741, 748, 755, 762, 769, 456, 457, 458, 459, 460, 463, 464, 465, 466, 467, 470, 471, 472, 473, 474, 477, 478, 479, 480, 481, 484, 485, 486, 487, 488, 491, 492, 493, 494, 495, 498, 499, 500, 501, 502, 505, 506, 507, 508, 509, 649, 650, 651, 652, 653, 656, 657, 658, 659, 660, 663, 664, 665, 666, 667, 670, 671, 672, 673, 674, 677, 678, 679, 680, 681, 684, 685, 686, 687, 688, 691, 692, 693, 694, 695, 698, 699, 700, 701, 702, 705, 706, 707]
def asL7 : List Addr := [710, 711, 712, 715, 716, 717, 718, 719, 736, 737, 738, 739, 740, 743, 744, 745, 746, 747, 750, 751, 752, 753, 754, 757, 758, 759, 760, 761, 764, 765, 766, 767, 768]
def asL : List Addr := asL0 ++ asL1 ++ asL2 ++ asL3 ++ asL4 ++ asL5 ++ asL6 ++ asL7
def names : List Str := names0 ++ names1 ++ names2 ++ names3
theorem run_ch0_false (w : World) : RunC RR qv asL 8000 names ch0 (w.withFollow "special-get-raises" false) := by
  intro os
  kernel_rfl
theorem run_ch0_true (w : World) : RunC RR qv asL 8000 names ch0 (w.withFollow "special-get-raises" true) := by
  intro os
  kernel_rfl
theorem run_ch0 (w : World) : RunC RR qv asL 8000 names ch0 w := PySem.W.byRow2 "special-get-raises" (P := fun w => RunC RR qv asL 8000 names ch0 w) run_ch0_false run_ch0_true w
theorem run_ch1_false (w : World) : RunC RR qv asL 8000 names ch1 (w.withFollow "special-get-raises" false) := by
  intro os
  kernel_rfl
theorem run_ch1_true (w : World) : RunC RR qv asL 8000 names ch1 (w.withFollow "special-get-raises" true) := by
  intro os
  kernel_rfl
theorem run_ch1 (w : World) : RunC RR qv asL 8000 names ch1 w := PySem.W.byRow2 "special-get-raises" (P := fun w => RunC RR qv asL 8000 names ch1 w) run_ch1_false run_ch1_true w
theorem run_ch2_false (w : World) : RunC RR qv asL 8000 names ch2 (w.withFollow "special-get-raises" false) := by
  intro os
  kernel_rfl
theorem run_ch2_true (w : World) : RunC RR qv asL 8000 names ch2 (w.withFollow "special-get-raises" true) := by
  intro os
  kernel_rfl
theorem run_ch2 (w : World) : RunC RR qv asL 8000 names ch2 w := PySem.W.byRow2 "special-get-raises" (P := fun w => RunC RR qv asL 8000 names ch2 w) run_ch2_false run_ch2_true w
theorem run (w : World) : HandSHeadRun.RunEqS RR qv (hookL asL chunks) (obL asL chunks) 8000 names w := runs_join (run_ch0 w) (by
  intro c hc
  simp only [List.mem_cons, List.not_mem_nil, or_false] at hc
  rcases hc with rfl | rfl
  · exact run_ch1 w
  · exact run_ch2 w)
end PR
set_option maxRecDepth 100000
namespace PR
open Vbemaz
/-! ### steps -/
theorem steps_len : ∀ l : List Int, (steps l).length = l.length - 1
  | [] => rfl
  | [_] => rfl
  | a :: b :: l => by
    show (steps (b :: l)).length + 1 = _
    rw [steps_len (b :: l)]
    simp
theorem steps_range : ∀ l : List Int, steps l = (List.range (l.length - 1)).map fun i => l.getD (i + 1) 0 - l.getD i 0
  | [] => rfl
  | [_] => rfl
  | a :: b :: l => by
    show (b - a) :: steps (b :: l) = _
    rw [steps_range (b :: l)]
    have e : (a :: b :: l).length - 1 = ((b :: l).length - 1) + 1 := by simp
    rw [e, List.range_succ_eq_map, List.map_cons, List.map_map]
    rfl
theorem steps_at {l : List Int} {i : Nat} {x y : Int} (h0 : l[i]? = some x) (h1 : l[i + 1]? = some y) : (steps l)[i]? = some (y - x) := by
  rw [steps_range]
  have hl : i + 1 < l.length := (List.getElem?_eq_some_iff.mp h1).1
  rw [List.getElem?_map, List.getElem?_range (by omega)]
  simp [List.getD_eq_getElem?_getD, h0, h1]
theorem steps_mem {l : List Int} {m : Nat} (h : ∀ x ∈ l, x.natAbs ≤ m) : ∀ s ∈ steps l, s.natAbs ≤ 2 * m := by
  intro s hs
  obtain ⟨i, hi, rfl⟩ := List.getElem_of_mem hs
  rw [steps_len] at hi
  have e0 : l[i]? = some l[i] := List.getElem?_eq_getElem (by omega)
  have e1 : l[i + 1]? = some l[i + 1] := List.getElem?_eq_getElem (by omega)
  have e := steps_at e0 e1
  rw [List.getElem?_eq_getElem (by rw [steps_len]; omega)] at e
  rw [Option.some.inj e]
  have a := h _ (List.getElem_mem (show i < l.length by omega))
  have b := h _ (List.getElem_mem (show i + 1 < l.length by omega))
  omega
/-! ### the greatest -/
theorem greatest_le {l : List Nat} {m : Nat} (h : ∀ x ∈ l, x ≤ m) : greatest l ≤ m := by
  unfold greatest
  suffices hh : ∀ (l : List Nat) (a : Nat), a ≤ m → (∀ x ∈ l, x ≤ m) → l.foldl max a ≤ m from hh l 0 (by omega) h
  intro l
  induction l with
  | nil => intro a ha _; exact ha
  | cons x l ih =>
    intro a ha hl
    exact ih _ (by have := hl x List.mem_cons_self; omega) (fun y hy => hl y (List.mem_cons_of_mem _ hy))
theorem greatest_int (l : List Nat) : (l.map fun (n : Nat) => (n : Int)).foldl max 0 = ((greatest l : Nat) : Int) := by
  unfold greatest
  suffices hh : ∀ (l : List Nat) (a : Nat), (l.map fun (n : Nat) => (n : Int)).foldl max (a : Int) = ((l.foldl max a : Nat) : Int) from hh l 0
  intro l
  induction l with
  | nil => intro a; rfl
  | cons x l ih =>
    intro a
    rw [List.map_cons, List.foldl_cons, List.foldl_cons, ← ih]
    congr 1
    omega
/-! ### bends -/
def bends : Int → List Int → Bits
  | _, [] => []
  | p, s :: r => gammaOf (s - p) ++ bends s r
theorem bends_steps : ∀ (s : Int) (r : List Int), bends s r = (steps (s :: r)).flatMap gammaOf
  | _, [] => rfl
  | s, t :: r => by
    show gammaOf (t - s) ++ bends t r = ((t - s) :: steps (t :: r)).flatMap gammaOf
    rw [bends_steps t r, List.flatMap_cons]
theorem bend_is (a : Int) (r : List Int) : bendCode (a :: r) = gammaOf a ++ bends 0 (steps (a :: r)) := by
  cases r with
  | nil => show gammaOf a = gammaOf a ++ []; rw [List.append_nil]
  | cons b r =>
    show gammaOf a ++ (gammaOf (b - a) ++ (steps (steps (a :: b :: r))).flatMap gammaOf) = gammaOf a ++ (gammaOf (b - a - 0) ++ bends (b - a) (steps (b :: r)))
    rw [bends_steps, Int.sub_zero]
    rfl
theorem bends_more : ∀ (l : List Int) (p : Int) (i : Nat) (s : Int), l[i]? = some s → bends p (l.take (i + 1)) = bends p (l.take i) ++ gammaOf (s - (p :: l).getD i 0)
  | [], p, i, s, h => by simp at h
  | x :: l, p, 0, s, h => by
    have e : x = s := Option.some.inj h
    subst e
    show gammaOf (x - p) ++ bends x [] = [] ++ gammaOf (x - p)
    simp [bends]
  | x :: l, p, i + 1, s, h => by
    have ih := bends_more l x i s h
    show gammaOf (x - p) ++ bends x (l.take (i + 1)) = (gammaOf (x - p) ++ bends x (l.take i)) ++ gammaOf (s - (x :: l).getD i 0)
    rw [ih, List.append_assoc]
theorem gammaOf_len {v : Int} (h : v.natAbs < 2 ^ 60) : (gammaOf v).length ≤ 128 := by
  unfold gammaOf
  exact gamma_len (by have := zig_le (v := v) (m := 2 ^ 60) (by omega); omega)
theorem bends_len : ∀ (l : List Int) (p : Int), p.natAbs < 2 ^ 58 → (∀ x ∈ l, x.natAbs < 2 ^ 58) → (bends p l).length ≤ 128 * l.length
  | [], _, _, _ => by simp [bends]
  | x :: l, p, hp, h => by
    have hx := h x List.mem_cons_self
    have ih := bends_len l x hx (fun y hy => h y (List.mem_cons_of_mem _ hy))
    show (gammaOf (x - p) ++ bends x l).length ≤ _
    rw [List.length_append, List.length_cons]
    have := gammaOf_len (v := x - p) (by omega)
    omega
/-! ### flat rows of bits -/
theorem flat_fixed_len (w : Nat) : ∀ l : List Nat, (l.flatMap (fixed w)).length = w * l.length
  | [] => by simp
  | x :: l => by
    rw [List.flatMap_cons, List.length_append, fixed_len, flat_fixed_len w l, List.length_cons]
    rw [Nat.mul_add, Nat.mul_one, Nat.add_comm]
/-! ### runs -/
theorem runs_rep : ∀ (k : Nat) (v : Int) (r : List Int), (∀ x, r.head? = some x → x ≠ v) → runs (List.replicate (k + 1) v ++ r) = (v, k + 1) :: runs r
  | 0, v, r, h => by
    show runs (v :: r) = _
    rw [show runs (v :: r) = (match runs r with
      | (w, n) :: r => if v = w then (w, n + 1) :: r else (v, 1) :: (w, n) :: r
      | [] => [(v, 1)]) from rfl]
    cases hr : runs r with
    | nil => rfl
    | cons p q =>
      obtain ⟨w, n⟩ := p
      have : r.head? = some w := by
        cases r with
        | nil => simp [runs] at hr
        | cons x r' =>
          unfold runs at hr
          cases h2 : runs r' with
          | nil => rw [h2] at hr; simp at hr; simp [hr.1.1]
          | cons p2 q2 =>
            obtain ⟨w2, n2⟩ := p2
            rw [h2] at hr
            simp only at hr
            split at hr
            · rename_i e; simp at hr; simp [e, hr.1.1]
            · simp at hr; simp [hr.1.1]
      have hne := h w this
      simp only
      rw [if_neg (fun e => hne e.symm)]
  | k + 1, v, r, h => by
    have ih := runs_rep k v r h
    rw [List.replicate_succ, List.cons_append]
    conv => lhs; unfold runs
    rw [ih]
    simp only [if_true]
/-- the place behind the run that begins at s -/
def runEnd (l : List Int) (s : Nat) : Nat := s + 1 + ((l.drop (s + 1)).takeWhile fun x => x == l.getD s 0).length
theorem runEnd_le {l : List Int} {s : Nat} (h : s < l.length) : runEnd l s ≤ l.length := by
  unfold runEnd
  have e : ((l.drop (s + 1)).takeWhile fun x => x == l.getD s 0).length ≤ (l.drop (s + 1)).length := by
    have := congrArg List.length (List.takeWhile_append_dropWhile (p := fun x => x == l.getD s 0) (l := l.drop (s + 1)))
    rw [List.length_append] at this
    omega
  rw [List.length_drop] at e
  omega
theorem take_while_rep {v : Int} : ∀ r : List Int, r.takeWhile (fun x => x == v) = List.replicate (r.takeWhile fun x => x == v).length v
  | [] => rfl
  | x :: r => by
    by_cases h : x = v
    · subst h
      simp only [List.takeWhile_cons, beq_self_eq_true, if_true, List.length_cons, List.replicate_succ]
      rw [← take_while_rep r]
    · simp [List.takeWhile_cons, h]
theorem runs_drop {l : List Int} {s : Nat} (h : s < l.length) : runs (l.drop s) = (l.getD s 0, runEnd l s - s) :: runs (l.drop (runEnd l s)) := by
  have e0 : l.drop s = l.getD s 0 :: l.drop (s + 1) := by
    rw [List.drop_eq_getElem_cons h]
    simp [List.getD_eq_getElem?_getD, h]
  generalize hv : l.getD s 0 = v at e0
  have b : (l.drop (s + 1)).dropWhile (fun x => x == v) = l.drop (runEnd l s) := by
    have c := congrArg (List.drop ((l.drop (s + 1)).takeWhile fun x => x == v).length) (List.takeWhile_append_dropWhile (p := fun x => x == v) (l := l.drop (s + 1)))
    rw [List.drop_left, List.drop_drop] at c
    rw [c]
    unfold runEnd
    rw [hv]
  have e1 : l.drop (s + 1) = List.replicate ((l.drop (s + 1)).takeWhile fun x => x == v).length v ++ l.drop (runEnd l s) := by
    have a := (List.takeWhile_append_dropWhile (p := fun x => x == v) (l := l.drop (s + 1))).symm
    rw [b] at a
    rw [← take_while_rep]
    exact a
  have hd : ∀ x, (l.drop (runEnd l s)).head? = some x → x ≠ v := by
    intro x hx e
    rw [← b] at hx
    have := List.head?_dropWhile_not (fun x => x == v) (l.drop (s + 1))
    rw [hx] at this
    simp [e] at this
  have r := runs_rep ((l.drop (s + 1)).takeWhile fun x => x == v).length v (l.drop (runEnd l s)) hd
  rw [List.replicate_succ, List.cons_append, ← e1, ← e0] at r
  rw [r]
  congr 2
  unfold runEnd
  rw [hv]
  omega
theorem runCode_drop {l : List Int} {s : Nat} (h : s < l.length) : runCode (l.drop s) = gammaOf (l.getD s 0) ++ (gamma (runEnd l s - s) ++ runCode (l.drop (runEnd l s))) := by
  unfold runCode
  rw [runs_drop h, List.flatMap_cons, List.append_assoc]
theorem runEnd_gt (l : List Int) (s : Nat) : s < runEnd l s := by unfold runEnd; omega
end PR
set_option maxRecDepth 100000
namespace PR
open Vbemaz
theorem runCode_len {l : List Int} (hl : l.length < 2 ^ 60) (h : ∀ x ∈ l, x.natAbs < 2 ^ 60) : ∀ (n s : Nat), l.length - s = n → (runCode (l.drop s)).length ≤ 256 * n := by
  intro n
  induction n using Nat.strongRecOn with
  | _ n ih =>
    intro s hs
    by_cases hlt : s < l.length
    · rw [runCode_drop hlt, List.length_append, List.length_append]
      have h1 := runEnd_gt l s
      have h2 := runEnd_le hlt
      have := ih (l.length - runEnd l s) (by omega) (runEnd l s) rfl
      have hv : (l.getD s 0).natAbs < 2 ^ 60 := by
        rw [List.getD_eq_getElem?_getD, List.getElem?_eq_getElem hlt]
        exact h _ (List.getElem_mem hlt)
      have := gammaOf_len hv
      have := gamma_len (n := runEnd l s - s) (by omega)
      omega
    · rw [List.drop_eq_nil_of_le (by omega)]
      simp [runCode, runs]
theorem code_len {l : List Int} (h1 : l.length ≤ 16) (h2 : ∀ x ∈ l, x.natAbs ≤ 1000000000) (c : Nat) : (codeOf c l).length ≤ 5000 := by
  have hst := steps_mem h2
  have hsl := steps_len l
  unfold codeOf
  split
  · unfold plainCode
    simp only
    rw [← List.flatMap_map, List.length_append, fixed_len, flat_fixed_len, List.length_map]
    have hg : greatest (l.map zigzag) ≤ 2000000000 := greatest_le (fun x hx => by
      obtain ⟨v, hv, rfl⟩ := List.mem_map.mp hx
      exact zig_le (h2 v hv))
    have := digits_le (n := greatest (l.map zigzag)) (k := 31) (by omega) (by omega)
    have := Nat.mul_le_mul this h1
    omega
  · split
    · cases l with
      | nil => simp [stepCode]
      | cons a r =>
        unfold stepCode
        simp only
        rw [← List.flatMap_map, List.length_append, List.length_append, fixed_len, flat_fixed_len, List.length_map]
        have hg : greatest ((steps (a :: r)).map zigzag) ≤ 4000000000 := greatest_le (fun x hx => by
          obtain ⟨v, hv, rfl⟩ := List.mem_map.mp hx
          exact zig_le (hst v hv))
        have h3 := digits_le (n := greatest ((steps (a :: r)).map zigzag)) (k := 33) (by omega) (by omega)
        have := Nat.mul_le_mul h3 (show (steps (a :: r)).length ≤ 16 by omega)
        have := gammaOf_len (v := a) (by have := h2 a List.mem_cons_self; omega)
        omega
    · split
      · cases l with
        | nil => simp [bendCode]
        | cons a r =>
          rw [bend_is, List.length_append]
          have := gammaOf_len (v := a) (by have := h2 a List.mem_cons_self; omega)
          have := bends_len (steps (a :: r)) 0 (by decide) (fun x hx => by have := hst x hx; omega)
          omega
      · have := runCode_len (l := l) (by omega) (fun x hx => by have := h2 x hx; omega) l.length 0 rfl
        rw [List.drop_zero] at this
        omega
/-! ### the code that is taken -/
def lens (l : List Int) : List Nat := (List.range 4).map fun c => (codeOf c l).length
def least (n : List Nat) : Nat := n.foldl min (n.headD 0)
theorem foldl_min_le : ∀ (l : List Nat) (a : Nat), l.foldl min a ≤ a ∧ ∀ x ∈ l, l.foldl min a ≤ x
  | [], a => ⟨Nat.le_refl _, by simp⟩
  | y :: l, a => by
    obtain ⟨h1, h2⟩ := foldl_min_le l (min a y)
    rw [List.foldl_cons]
    refine ⟨by omega, fun x hx => ?_⟩
    rcases List.mem_cons.mp hx with rfl | hx
    · omega
    · exact h2 x hx
theorem foldl_min_mem : ∀ (l : List Nat) (a : Nat), l.foldl min a = a ∨ l.foldl min a ∈ l
  | [], a => .inl rfl
  | y :: l, a => by
    rw [List.foldl_cons]
    rcases foldl_min_mem l (min a y) with h | h
    · rw [h]
      by_cases hy : a ≤ y
      · left; omega
      · right
        have : min a y = y := by omega
        rw [this]
        exact List.mem_cons_self
    · right; exact List.mem_cons_of_mem _ h
theorem least_le {n : List Nat} {x : Nat} (h : x ∈ n) : least n ≤ x := (foldl_min_le n _).2 x h
theorem least_mem {n : List Nat} (h : n ≠ []) : least n ∈ n := by
  obtain ⟨a, r, rfl⟩ := List.exists_cons_of_ne_nil h
  rcases foldl_min_mem (a :: r) a with z | z
  · show (a :: r).foldl min a ∈ _
    rw [z]
    exact List.mem_cons_self
  · exact z
theorem findIdx_facts (n : List Nat) (m : Nat) (h : m ∈ n) : n[(n.findIdx? fun x => x == m).getD 0]? = some m ∧ ∀ j, j < (n.findIdx? fun x => x == m).getD 0 → ∀ y, n[j]? = some y → y ≠ m := by
  cases e : n.findIdx? (fun x => x == m) with
  | none =>
    rw [List.findIdx?_eq_none_iff] at e
    have := e m h
    simp at this
  | some i =>
    rw [List.findIdx?_eq_some_iff_getElem] at e
    obtain ⟨hi, h1, h2⟩ := e
    refine ⟨?_, fun j hj y hy => ?_⟩
    · rw [Option.getD_some, List.getElem?_eq_getElem hi]
      exact congrArg some (eq_of_beq h1)
    · have hj : j < i := hj
      have := h2 j hj
      rw [List.getElem?_eq_getElem (by omega)] at hy
      have hy := Option.some.inj hy
      rw [hy] at this
      simpa using this
theorem chosen_at (l : List Int) : (lens l)[chosen l]? = some (least (lens l)) ∧ ∀ j, j < chosen l → ∀ y, (lens l)[j]? = some y → y ≠ least (lens l) :=
  findIdx_facts (lens l) (least (lens l)) (least_mem (fun z => nomatch z))
theorem chosen_lt (l : List Int) : chosen l < 4 := by
  have h := (List.getElem?_eq_some_iff.mp (chosen_at l).1).1
  unfold lens at h
  simpa using h
/-! ### a block -/
def gapPart (l : List Val) : Bits := if (present l).length = l.length then [false] else true :: l.map fun v => v.isSome
def readPart (p : List Int) : Bits := if p.isEmpty = true then [] else fixed 2 (chosen p) ++ codeOf (chosen p) p
theorem packed_is (l : List Val) : packed l = fixed 4 (l.length - 1) ++ (gapPart l ++ readPart (present l)) := rfl
theorem gapPart_len (l : List Val) : (gapPart l).length ≤ l.length + 1 := by
  unfold gapPart
  split <;> simp
theorem readPart_len {p : List Int} (h1 : p.length ≤ 16) (h2 : ∀ x ∈ p, x.natAbs ≤ 1000000000) : (readPart p).length ≤ 5002 := by
  unfold readPart
  split
  · simp
  · rw [List.length_append, fixed_len]
    have := code_len h1 h2 (chosen p)
    omega
theorem any_gap (l : List Val) : (l.any fun v => v.isNone) = !decide ((present l).length = l.length) := by
  induction l with
  | nil => rfl
  | cons x l ih =>
    have hle : (present l).length ≤ l.length := List.length_filterMap_le _ _
    cases x with
    | none =>
      show (true || _) = !decide ((present l).length = l.length + 1)
      rw [decide_eq_false (by omega)]
      rfl
    | some v =>
      show (false || l.any fun v => v.isNone) = !decide ((present l).length + 1 = l.length + 1)
      rw [ih, Bool.false_or]
      congr 2
      exact propext ⟨fun h => by omega, fun h => by omega⟩
end PR
set_option maxRecDepth 100000
namespace PR
open Vbemaz
/-! ### a series -/
/-- what a series keeps to -/
structure GoodS (s : Series) : Prop where
  add : ∀ x, some x ∈ s.added → x.natAbs ≤ 1000000000
  fix : ∀ f ∈ s.fixes, ∀ x, f.2 = some x → x.natAbs ≤ 1000000000
  at_ : ∀ f ∈ s.fixes, f.1 < s.added.length
  la : s.added.length ≤ 400
  lf : s.fixes.length ≤ 60
theorem foldl_set_len (fs : List (Nat × Val)) : ∀ l : List Val, (fs.foldl (fun l f => l.set f.1 f.2) l).length = l.length := by
  induction fs with
  | nil => intro l; rfl
  | cons f fs ih => intro l; rw [List.foldl_cons, ih, List.length_set]
theorem asOf_len (s : Series) (n : Nat) : (asOf s n).length = s.added.length := foldl_set_len _ _
theorem now_len (s : Series) : (now s).length = s.added.length := asOf_len _ _
theorem now_fold (s : Series) : now s = s.fixes.foldl (fun l f => l.set f.1 f.2) s.added := by
  unfold now asOf
  rw [List.take_length]
theorem foldl_set_mem (fs : List (Nat × Val)) : ∀ (l : List Val) (v : Val), v ∈ fs.foldl (fun l f => l.set f.1 f.2) l → v ∈ l ∨ ∃ f ∈ fs, f.2 = v := by
  induction fs with
  | nil => intro l v h; exact .inl h
  | cons f fs ih =>
    intro l v h
    rw [List.foldl_cons] at h
    rcases ih _ v h with h | ⟨g, hg, e⟩
    · rcases List.mem_or_eq_of_mem_set h with h | h
      · exact .inl h
      · exact .inr ⟨f, List.mem_cons_self, h.symm⟩
    · exact .inr ⟨g, List.mem_cons_of_mem _ hg, e⟩
theorem asOf_ok {s : Series} (h : GoodS s) (n : Nat) : ∀ x, some x ∈ asOf s n → x.natAbs ≤ 1000000000 := by
  intro x hx
  rcases foldl_set_mem _ _ _ hx with a | ⟨f, hf, e⟩
  · exact h.add x a
  · exact h.fix f (List.mem_of_mem_take hf) x e
theorem now_ok {s : Series} (h : GoodS s) : ∀ x, some x ∈ now s → x.natAbs ≤ 1000000000 := asOf_ok h _
theorem foldl_set_append (fs : List (Nat × Val)) : ∀ (l r : List Val), (∀ f ∈ fs, f.1 < l.length) → fs.foldl (fun l f => l.set f.1 f.2) (l ++ r) = fs.foldl (fun l f => l.set f.1 f.2) l ++ r := by
  induction fs with
  | nil => intro l r _; rfl
  | cons f fs ih =>
    intro l r h
    rw [List.foldl_cons, List.foldl_cons, List.set_append_left _ _ (h f List.mem_cons_self)]
    exact ih _ _ (fun g hg => by rw [List.length_set]; exact h g (List.mem_cons_of_mem _ hg))
theorem now_added {s : Series} (h : GoodS s) (l : List Val) : now { s with added := s.added ++ l } = now s ++ l := by
  rw [now_fold, now_fold]
  exact foldl_set_append _ _ _ h.at_
theorem now_fixed (s : Series) (k : Nat) (v : Val) : now { s with fixes := s.fixes ++ [(k, v)] } = (now s).set k v := by
  rw [now_fold, now_fold, List.foldl_append]
  rfl
theorem asOf_succ {s : Series} {n : Nat} {f : Nat × Val} (h : s.fixes[n]? = some f) : asOf s (n + 1) = (asOf s n).set f.1 f.2 := by
  unfold asOf
  rw [List.take_succ, h, Option.toList_some, List.foldl_append]
  rfl
theorem good_empty : GoodS ⟨[], []⟩ := ⟨by simp, by simp, by simp, by simp, by simp⟩
theorem good_add {s : Series} (h : GoodS s) {l : List Val} (hl : ∀ x, some x ∈ l → x.natAbs ≤ 1000000000) (hn : s.added.length + l.length ≤ 400) : GoodS { s with added := s.added ++ l } :=
  ⟨fun x hx => (List.mem_append.mp hx).elim (h.add x) (hl x), h.fix, fun f hf => by have := h.at_ f hf; show f.1 < (s.added ++ l).length; rw [List.length_append]; omega, by show (s.added ++ l).length ≤ 400; rw [List.length_append]; exact hn, h.lf⟩
theorem good_fix {s : Series} (h : GoodS s) {k : Nat} {v : Val} (hk : k < s.added.length) (hv : ∀ x, v = some x → x.natAbs ≤ 1000000000) (hn : s.fixes.length < 60) : GoodS { s with fixes := s.fixes ++ [(k, v)] } :=
  ⟨h.add, fun f hf => (List.mem_append.mp hf).elim (h.fix f) (fun e => by rw [List.mem_singleton.mp e]; exact hv), fun f hf => (List.mem_append.mp hf).elim (h.at_ f) (fun e => by rw [List.mem_singleton.mp e]; exact hk), h.la, by show (s.fixes ++ [(k, v)]).length ≤ 60; rw [List.length_append]; simp; omega⟩
end PR
set_option maxRecDepth 100000
namespace PR
open Vbemaz
/-! ### what the calls on one series answer -/
def aGet (s : Series) (k : Nat) : List Int := if s.added.length ≤ k then [-4] else 0 :: told ((now s).getD k none)
def aWas (s : Series) (k n : Nat) : List Int := if s.added.length ≤ k then [-4] else if s.fixes.length < n then [-6] else 0 :: told ((asOf s n).getD k none)
def aSum (s : Series) (i j : Nat) : List Int := if j < i ∨ s.added.length < j then [-4] else [0, ((present (span (now s) i j)).length : Int), sumOf (span (now s) i j)]
def aSpan (s : Series) (i j : Nat) : List Int := if j < i ∨ s.added.length < j then [-4] else match leastIn i (span (now s) i j), greatestIn i (span (now s) i j) with
  | some a, some b => [0, a.1, (a.2 : Int), b.1, (b.2 : Int)]
  | _, _ => [-8]
def aSeek (s : Series) (i : Nat) (x : Int) : List Int := if s.added.length < i then [-4] else match seekIn x i ((now s).drop i) with
  | some k => [0, (k : Int)]
  | none => [-8]
def aCoarse (s : Series) (n : Nat) : List Int := 0 :: row ((coarse n (now s)).flatMap told)
def aSizes (s : Series) : List Int := 0 :: (bitsIn (now s) : Int) :: row ((blocks (now s)).map fun b => ((packed b).length : Int))
def aBlock (s : Series) (b : Nat) : List Int := match (blocks (now s))[b]? with
  | none => [-4]
  | some l => 0 :: row (nats (pack l))
def cAdd (s : Series) (l : List Val) : Series × List Int := if 400 < s.added.length + l.length then (s, [-5]) else ({ s with added := s.added ++ l }, [0, ((s.added.length + l.length : Nat) : Int)])
def cFix (s : Series) (k : Nat) (v : Val) : Series × List Int := if s.added.length ≤ k then (s, [-4]) else if (now s).getD k none = v then (s, [-7]) else if 60 ≤ s.fixes.length then (s, [-5]) else ({ s with fixes := s.fixes ++ [(k, v)] }, [0, ((s.fixes.length + 1 : Nat) : Int)])
/-! ### spans -/
theorem span_is (l : List Val) (i j : Nat) : span l i j = (l.drop i).take (j - i) := by
  unfold span
  rw [List.drop_take]
theorem span_mem {l : List Val} {i j : Nat} {v : Val} (h : v ∈ span l i j) : v ∈ l := List.mem_of_mem_take (List.mem_of_mem_drop h)
theorem span_len {l : List Val} {i j : Nat} (h : j ≤ l.length) : (span l i j).length = j - i := by
  rw [span_is, List.length_take, List.length_drop]
  omega
theorem leastIn_none : ∀ (l : List Val) (k : Nat), leastIn k l = none ↔ present l = []
  | [], _ => by simp [leastIn, present]
  | none :: l, k => by
    show leastIn (k + 1) l = none ↔ present l = []
    exact leastIn_none l (k + 1)
  | some v :: l, k => by
    have e : present (some v :: l) = v :: present l := rfl
    rw [e]
    unfold leastIn
    cases h : leastIn (k + 1) l with
    | none => simp
    | some x => simp only; split <;> simp
theorem leastIn_some : ∀ (l : List Val) (k : Nat) (m : Int) (p : Nat), leastIn k l = some (m, p) → m ∈ present l ∧ (∀ y ∈ present l, m ≤ y) ∧ ∃ j, p = k + j ∧ l[j]? = some (some m) ∧ ∀ j', j' < j → l[j']? ≠ some (some m)
  | [], k, m, p, h => by simp [leastIn] at h
  | none :: l, k, m, p, h => by
    have h : leastIn (k + 1) l = some (m, p) := h
    obtain ⟨a, b, j, c, d, e⟩ := leastIn_some l (k + 1) m p h
    refine ⟨a, b, j + 1, by omega, d, fun j' hj => ?_⟩
    cases j' with
    | zero => simp
    | succ j' => exact e j' (by omega)
  | some v :: l, k, m, p, h => by
    have e0 : present (some v :: l) = v :: present l := rfl
    rw [e0]
    unfold leastIn at h
    cases h1 : leastIn (k + 1) l with
    | none =>
      rw [h1] at h
      simp only [Option.some.injEq, Prod.mk.injEq] at h
      obtain ⟨rfl, rfl⟩ := h
      have e1 := (leastIn_none l (k + 1)).mp h1
      rw [e1]
      exact ⟨by simp, by simp, 0, rfl, rfl, fun j' hj => by omega⟩
    | some x =>
      rw [h1] at h
      obtain ⟨x1, x2⟩ := x
      obtain ⟨a, b, j, c, d, e⟩ := leastIn_some l (k + 1) x1 x2 h1
      simp only at h
      split at h
      · rename_i hlt
        simp only [Option.some.injEq, Prod.mk.injEq] at h
        obtain ⟨rfl, rfl⟩ := h
        refine ⟨List.mem_cons_of_mem _ a, fun y hy => ?_, j + 1, by omega, d, fun j' hj => ?_⟩
        · rcases List.mem_cons.mp hy with rfl | hy
          · omega
          · exact b y hy
        · cases j' with
          | zero => simp; omega
          | succ j' => exact e j' (by omega)
      · rename_i hlt
        simp only [Option.some.injEq, Prod.mk.injEq] at h
        obtain ⟨rfl, rfl⟩ := h
        refine ⟨List.mem_cons_self, fun y hy => ?_, 0, rfl, rfl, fun j' hj => by omega⟩
        rcases List.mem_cons.mp hy with rfl | hy
        · exact Int.le_refl _
        · have := b y hy
          omega
theorem greatestIn_none : ∀ (l : List Val) (k : Nat), greatestIn k l = none ↔ present l = []
  | [], _ => by simp [greatestIn, present]
  | none :: l, k => by
    show greatestIn (k + 1) l = none ↔ present l = []
    exact greatestIn_none l (k + 1)
  | some v :: l, k => by
    have e : present (some v :: l) = v :: present l := rfl
    rw [e]
    unfold greatestIn
    cases h : greatestIn (k + 1) l with
    | none => simp
    | some x => simp only; split <;> simp
theorem greatestIn_some : ∀ (l : List Val) (k : Nat) (m : Int) (p : Nat), greatestIn k l = some (m, p) → m ∈ present l ∧ (∀ y ∈ present l, y ≤ m) ∧ ∃ j, p = k + j ∧ l[j]? = some (some m) ∧ ∀ j', j' < j → l[j']? ≠ some (some m)
  | [], k, m, p, h => by simp [greatestIn] at h
  | none :: l, k, m, p, h => by
    have h : greatestIn (k + 1) l = some (m, p) := h
    obtain ⟨a, b, j, c, d, e⟩ := greatestIn_some l (k + 1) m p h
    refine ⟨a, b, j + 1, by omega, d, fun j' hj => ?_⟩
    cases j' with
    | zero => simp
    | succ j' => exact e j' (by omega)
  | some v :: l, k, m, p, h => by
    have e0 : present (some v :: l) = v :: present l := rfl
    rw [e0]
    unfold greatestIn at h
    cases h1 : greatestIn (k + 1) l with
    | none =>
      rw [h1] at h
      simp only [Option.some.injEq, Prod.mk.injEq] at h
      obtain ⟨rfl, rfl⟩ := h
      have e1 := (greatestIn_none l (k + 1)).mp h1
      rw [e1]
      exact ⟨by simp, by simp, 0, rfl, rfl, fun j' hj => by omega⟩
    | some x =>
      rw [h1] at h
      obtain ⟨x1, x2⟩ := x
      obtain ⟨a, b, j, c, d, e⟩ := greatestIn_some l (k + 1) x1 x2 h1
      simp only at h
      split at h
      · rename_i hlt
        simp only [Option.some.injEq, Prod.mk.injEq] at h
        obtain ⟨rfl, rfl⟩ := h
        refine ⟨List.mem_cons_of_mem _ a, fun y hy => ?_, j + 1, by omega, d, fun j' hj => ?_⟩
        · rcases List.mem_cons.mp hy with rfl | hy
          · omega
          · exact b y hy
        · cases j' with
          | zero => simp; omega
          | succ j' => exact e j' (by omega)
      · rename_i hlt
        simp only [Option.some.injEq, Prod.mk.injEq] at h
        obtain ⟨rfl, rfl⟩ := h
        refine ⟨List.mem_cons_self, fun y hy => ?_, 0, rfl, rfl, fun j' hj => by omega⟩
        rcases List.mem_cons.mp hy with rfl | hy
        · exact Int.le_refl _
        · have := b y hy
          omega
theorem seek_some {l : List Val} {x y : Int} {k : Nat} (h : l[k]? = some (some y)) : seekIn x k (l.drop k) = if x ≤ y then some k else seekIn x (k + 1) (l.drop (k + 1)) := by
  have hk := (List.getElem?_eq_some_iff.mp h)
  rw [List.drop_eq_getElem_cons hk.1, hk.2]
  rfl
theorem seek_gap {l : List Val} {x : Int} {k : Nat} (h : l[k]? = some none) : seekIn x k (l.drop k) = seekIn x (k + 1) (l.drop (k + 1)) := by
  have hk := (List.getElem?_eq_some_iff.mp h)
  rw [List.drop_eq_getElem_cons hk.1, hk.2]
  rfl
theorem total_sum (l : List Int) : total l = l.sum := rfl
end PR
set_option maxRecDepth 100000
namespace PR
open Vbemaz
/-! ### pieces -/
theorem pieces_whole {n : Nat} (hn : 0 < n) : ∀ (k : Nat) (l : List Val), l.length < k → (pieces n k l).filter (fun p => p.length == n) = (List.range (l.length / n)).map fun i => (l.drop (i * n)).take n
  | 0, l, h => by omega
  | k + 1, l, h => by
    unfold pieces
    by_cases he : l = []
    · subst he
      simp
    · have hpos : 0 < l.length := List.length_pos_iff.mpr he
      rw [if_neg (by simpa using he), List.filter_cons]
      have ih := pieces_whole hn k (l.drop n) (by rw [List.length_drop]; omega)
      by_cases hle : n ≤ l.length
      · have e1 : (l.take n).length == n := by rw [List.length_take, Nat.min_eq_left hle]; exact beq_self_eq_true n
        rw [if_pos e1, ih, List.length_drop]
        have e2 : l.length / n = (l.length - n) / n + 1 := Nat.div_eq_sub_div hn hle
        rw [e2, List.range_succ_eq_map, List.map_cons, List.map_map, Nat.zero_mul, List.drop_zero]
        congr 1
        apply List.map_congr_left
        intro i _
        show (List.drop (i * n) (List.drop n l)).take n = (l.drop ((i + 1) * n)).take n
        rw [List.drop_drop, Nat.succ_mul, Nat.add_comm]
      · have e1 : ¬ ((l.take n).length == n) = true := by
          rw [List.length_take, Nat.min_eq_right (by omega)]
          simp
          omega
        rw [if_neg e1, ih, List.length_drop]
        have e2 : l.length - n = 0 := by omega
        rw [e2, Nat.zero_div, Nat.div_eq_of_lt (by omega)]
        rfl
theorem pieces_all {n : Nat} (hn : 0 < n) : ∀ (k : Nat) (l : List Val), l.length < k → pieces n k l = (List.range ((l.length + (n - 1)) / n)).map fun i => (l.drop (i * n)).take n
  | 0, l, h => by omega
  | k + 1, l, h => by
    unfold pieces
    by_cases he : l = []
    · subst he
      rw [if_pos (show ([] : List Val).isEmpty = true from rfl)]
      have : (([] : List Val).length + (n - 1)) / n = 0 := Nat.div_eq_of_lt (by simp; omega)
      rw [this]
      rfl
    · have hpos : 0 < l.length := List.length_pos_iff.mpr he
      rw [if_neg (by simpa using he)]
      have ih := pieces_all hn k (l.drop n) (by rw [List.length_drop]; omega)
      rw [ih, List.length_drop]
      have e2 : (l.length + (n - 1)) / n = (l.length - n + (n - 1)) / n + 1 := by
        by_cases hle : n ≤ l.length
        · have : l.length + (n - 1) = (l.length - n + (n - 1)) + n := by omega
          rw [this, Nat.add_div_right _ hn]
        · have a : l.length - n = 0 := by omega
          rw [a, Nat.zero_add, Nat.div_eq_of_lt (show n - 1 < n by omega)]
          have : l.length + (n - 1) = (l.length - 1) + n := by omega
          rw [this, Nat.add_div_right _ hn, Nat.div_eq_of_lt (by omega)]
      rw [e2, List.range_succ_eq_map, List.map_cons, List.map_map, Nat.zero_mul, List.drop_zero]
      congr 1
      apply List.map_congr_left
      intro i _
      show (List.drop (i * n) (List.drop n l)).take n = (l.drop ((i + 1) * n)).take n
      rw [List.drop_drop, Nat.succ_mul, Nat.add_comm]
theorem blocks_range (l : List Val) : blocks l = (List.range ((l.length + 15) / 16)).map fun i => (l.drop (i * 16)).take 16 := pieces_all (n := 16) (by decide) _ l (by omega)
def toldPiece (p : List Val) : List Int := told (if p.all (fun v => v.isSome) = true then some (sumOf p) else none)
theorem coarse_range {n : Nat} (hn : 0 < n) (l : List Val) : (coarse n l).flatMap told = (List.range (l.length / n)).flatMap fun i => toldPiece ((l.drop (i * n)).take n) := by
  unfold coarse
  rw [pieces_whole hn _ l (by omega), List.map_map, List.flatMap_map]
  rfl
theorem all_some (p : List Val) : p.all (fun v => v.isSome) = !p.any fun v => v.isNone := by
  rw [List.not_any_eq_all_not]
  congr 1
  funext v
  cases v <;> rfl
theorem present_all {p : List Val} (h : p.all (fun v => v.isSome) = true) : p = (present p).map some := by
  induction p with
  | nil => rfl
  | cons v p ih =>
    rw [List.all_cons, Bool.and_eq_true] at h
    cases v with
    | none => cases h.1
    | some x =>
      show some x :: p = some x :: (present p).map some
      rw [← ih h.2]
theorem foldl_add (l : List Nat) : ∀ a : Nat, l.foldl (fun a b => a + b) a = a + l.sum := by
  induction l with
  | nil => intro a; rfl
  | cons x l ih => intro a; rw [List.foldl_cons, ih, List.sum_cons]; omega
theorem bitsIn_sum (l : List Val) : ((bitsIn l : Nat) : Int) = ((blocks l).map fun b => ((packed b).length : Int)).sum := by
  unfold bitsIn
  rw [foldl_add, Nat.zero_add]
  generalize blocks l = bs
  induction bs with
  | nil => rfl
  | cons b bs ih =>
    rw [List.map_cons, List.map_cons, List.sum_cons, List.sum_cons, Int.natCast_add, ih]
theorem packed_len {l : List Val} (h1 : l.length ≤ 16) (h2 : ∀ x, some x ∈ l → x.natAbs ≤ 1000000000) : (packed l).length ≤ 5100 := by
  rw [packed_is, List.length_append, List.length_append, fixed_len]
  have hp : (present l).length ≤ l.length := List.length_filterMap_le _ _
  have := gapPart_len l
  have := readPart_len (p := present l) (by omega) (fun x hx => h2 x (by
    obtain ⟨v, hv, e⟩ := List.mem_filterMap.mp hx
    have e : v = some x := e
    rw [← e]; exact hv))
  omega
theorem toBytes_len (b : Bits) : (toBytes b).length = (b.length + 7) / 8 := by
  rw [toBytes_range, List.length_map, List.length_range]
end PR
set_option maxRecDepth 100000
namespace PR
open Vbemaz
/-! ### the list of calls -/
theorem whole_id (c : List (List Int)) : PyVbemaz.whole c = c := by
  unfold PyVbemaz.whole
  split <;> rfl
/-- a list of numbers and the calls that it holds -/
inductive Parses : List Int → List (List (List Int)) → Prop where
  | nil : Parses [] []
  | plain {p : Int} {r : List Int} {n : Nat} {cs : List (List (List Int))} : PyVbemaz.shape p = some (n, 0) → n ≤ r.length → Parses (r.drop n) cs → Parses (p :: r) ([p :: r.take n] :: cs)
  | row {p m : Int} {r r' : List Int} {n : Nat} {cs : List (List (List Int))} : PyVbemaz.shape p = some (n, 1) → n ≤ r.length → r.drop n = m :: r' → 0 ≤ m → m.toNat ≤ r'.length → Parses (r'.drop m.toNat) cs → Parses (p :: r) ([p :: r.take n, r'.take m.toNat] :: cs)
theorem shape_rows {p : Int} {n k : Nat} (h : PyVbemaz.shape p = some (n, k)) : (k = 0 ∨ k = 1) ∧ 0 ≤ p ∧ p ≤ 20 := by
  unfold PyVbemaz.shape at h
  by_cases h0 : p = 0
  · rw [if_pos h0] at h; cases h; exact ⟨by decide, by omega, by omega⟩
  rw [if_neg h0] at h
  by_cases h1 : p = 1
  · rw [if_pos h1] at h; cases h; exact ⟨by decide, by omega, by omega⟩
  rw [if_neg h1] at h
  by_cases h2 : p = 2
  · rw [if_pos h2] at h; cases h; exact ⟨by decide, by omega, by omega⟩
  rw [if_neg h2] at h
  by_cases h3 : p = 3
  · rw [if_pos h3] at h; cases h; exact ⟨by decide, by omega, by omega⟩
  rw [if_neg h3] at h
  by_cases h4 : p = 4
  · rw [if_pos h4] at h; cases h; exact ⟨by decide, by omega, by omega⟩
  rw [if_neg h4] at h
  by_cases h5 : p = 5
  · rw [if_pos h5] at h; cases h; exact ⟨by decide, by omega, by omega⟩
  rw [if_neg h5] at h
  by_cases h6 : p = 6
  · rw [if_pos h6] at h; cases h; exact ⟨by decide, by omega, by omega⟩
  rw [if_neg h6] at h
  by_cases h7 : p = 7
  · rw [if_pos h7] at h; cases h; exact ⟨by decide, by omega, by omega⟩
  rw [if_neg h7] at h
  by_cases h8 : p = 8
  · rw [if_pos h8] at h; cases h; exact ⟨by decide, by omega, by omega⟩
  rw [if_neg h8] at h
  by_cases h9 : p = 9
  · rw [if_pos h9] at h; cases h; exact ⟨by decide, by omega, by omega⟩
  rw [if_neg h9] at h
  by_cases h10 : p = 10
  · rw [if_pos h10] at h; cases h; exact ⟨by decide, by omega, by omega⟩
  rw [if_neg h10] at h
  by_cases h11 : p = 11
  · rw [if_pos h11] at h; cases h; exact ⟨by decide, by omega, by omega⟩
  rw [if_neg h11] at h
  by_cases h12 : p = 12
  · rw [if_pos h12] at h; cases h; exact ⟨by decide, by omega, by omega⟩
  rw [if_neg h12] at h
  by_cases h13 : p = 13
  · rw [if_pos h13] at h; cases h; exact ⟨by decide, by omega, by omega⟩
  rw [if_neg h13] at h
  by_cases h14 : p = 14
  · rw [if_pos h14] at h; cases h; exact ⟨by decide, by omega, by omega⟩
  rw [if_neg h14] at h
  by_cases h15 : p = 15
  · rw [if_pos h15] at h; cases h; exact ⟨by decide, by omega, by omega⟩
  rw [if_neg h15] at h
  by_cases h16 : p = 16
  · rw [if_pos h16] at h; cases h; exact ⟨by decide, by omega, by omega⟩
  rw [if_neg h16] at h
  by_cases h17 : p = 17
  · rw [if_pos h17] at h; cases h; exact ⟨by decide, by omega, by omega⟩
  rw [if_neg h17] at h
  by_cases h18 : p = 18
  · rw [if_pos h18] at h; cases h; exact ⟨by decide, by omega, by omega⟩
  rw [if_neg h18] at h
  by_cases h19 : p = 19
  · rw [if_pos h19] at h; cases h; exact ⟨by decide, by omega, by omega⟩
  rw [if_neg h19] at h
  by_cases h20 : p = 20
  · rw [if_pos h20] at h; cases h; exact ⟨by decide, by omega, by omega⟩
  rw [if_neg h20] at h
  cases h
theorem parses_of : ∀ (f : Nat) (l : List Int) (cs : List (List (List Int))), PyFlat.calls PyVbemaz.shape f l = some cs → Parses l cs
  | f, [], cs, h => by
    have e : cs = [] := by
      cases f <;> (unfold PyFlat.calls at h; exact (Option.some.inj h).symm)
    subst e
    exact .nil
  | 0, p :: r, cs, h => by
    unfold PyFlat.calls at h
    cases h
  | f + 1, p :: r, cs, h => by
    unfold PyFlat.calls at h
    cases hc : PyFlat.call PyVbemaz.shape (p :: r) with
    | none => rw [hc] at h; cases h
    | some ct =>
      obtain ⟨c, t⟩ := ct
      rw [hc] at h
      simp only at h
      cases hr : PyFlat.calls PyVbemaz.shape f t with
      | none => rw [hr] at h; cases h
      | some cs' =>
        rw [hr] at h
        simp only [Option.some.injEq] at h
        subst h
        have ih := parses_of f t cs' hr
        have hc : (match PyVbemaz.shape p with
          | none => none
          | some (n, k) => if r.length < n then none else match PyFlat.rows k (r.drop n) with
            | none => none
            | some (xs, t) => some ((p :: r.take n) :: xs, t)) = some (c, t) := hc
        cases hs : PyVbemaz.shape p with
        | none => rw [hs] at hc; cases hc
        | some nk =>
          obtain ⟨n, k⟩ := nk
          rw [hs] at hc
          simp only at hc
          split at hc
          · cases hc
          · rename_i hn
            rcases (shape_rows hs).1 with rfl | rfl
            · simp only [PyFlat.rows, Option.some.injEq, Prod.mk.injEq] at hc
              obtain ⟨rfl, rfl⟩ := hc
              exact .plain hs (by omega) ih
            · cases hd : r.drop n with
              | nil => simp [PyFlat.rows, PyFlat.row, hd] at hc
              | cons m r' =>
                simp only [PyFlat.rows, PyFlat.row, hd] at hc
                split at hc
                · cases hc
                · rename_i xs t2 hx
                  split at hx
                  · cases hx
                  · rename_i x s hx2
                    split at hx2
                    · rename_i hm
                      simp only [Option.some.injEq, Prod.mk.injEq] at hx2 hx hc
                      obtain ⟨rfl, rfl⟩ := hx2
                      obtain ⟨rfl, rfl⟩ := hx
                      obtain ⟨rfl, rfl⟩ := hc
                      exact .row hs (by omega) hd hm.1 hm.2 ih
                    · cases hx2
/-! ### what is asked of a list -/
/-- the answers told one behind another -/
theorem told_cons (a : List Int) (r : List (List Int)) : PyFlat.told (a :: r) = (a.length : Int) :: (a ++ PyFlat.told r) := rfl
theorem asked_facts {l : List Int} (h : PyVbemaz.answers_asked l = true) : ∃ cs, Parses l cs ∧ cs.length ≤ 100 ∧ PyInside.calls PyVbemaz.bound cs = true ∧ PyVbemaz.answers l = PyFlat.told (PyFlat.played Vbemaz.stepNumbers Vbemaz.start cs) := by
  unfold PyVbemaz.answers_asked at h
  cases hc : PyFlat.calls PyVbemaz.shape l.length l with
  | none => rw [hc] at h; cases h
  | some raw =>
    rw [hc] at h
    simp only [Bool.and_eq_true] at h
    obtain ⟨⟨⟨⟨_, h2⟩, h3⟩, _⟩, _⟩ := h
    refine ⟨raw, parses_of _ _ _ hc, of_decide_eq_true h2, h3, ?_⟩
    unfold PyVbemaz.answers PyVbemaz.calls
    rw [hc]
    simp only
    have e : raw.map PyVbemaz.whole = raw := by
      rw [show PyVbemaz.whole = id from funext whole_id, List.map_id]
    rw [e]
    rfl
end PR
set_option maxRecDepth 100000
namespace PR
open Vbemaz
/-! ### one call taken from the list -/
/-- behind place i stand the numbers and the rows of a call of place p; the next call begins at i' -/
def Takes (ns : List Int) (i : Nat) (p : Int) (nums : List Int) (rows : List (List Int)) (i' : Nat) : Prop := ∃ n : Nat, nums = (ns.drop i).take n ∧ nums.length = n ∧
  ((PyVbemaz.shape p = some (n, 0) ∧ i + n ≤ ns.length ∧ rows = [] ∧ i' = i + n) ∨
   (PyVbemaz.shape p = some (n, 1) ∧ ∃ m : Nat, ns[i + n]? = some (m : Int) ∧ i + n + 1 + m ≤ ns.length ∧ rows = [(ns.drop (i + n + 1)).take m] ∧ i' = i + n + 1 + m))
theorem parse_step {ns : List Int} {i : Nat} {cs : List (List (List Int))} (h : Parses (ns.drop i) cs) (hi : i < ns.length) : ∃ p nums rows i' cs', ns[i]? = some p ∧ cs = ((p :: nums) :: rows) :: cs' ∧ Takes ns (i + 1) p nums rows i' ∧ Parses (ns.drop i') cs' ∧ i < i' ∧ i' ≤ ns.length ∧ 0 ≤ p ∧ p ≤ 20 := by
  have e : ns.drop i = ns[i] :: ns.drop (i + 1) := List.drop_eq_getElem_cons hi
  have hg : ns[i]? = some ns[i] := List.getElem?_eq_getElem hi
  rw [e] at h
  generalize ns[i] = p at e h hg
  cases h with
  | @plain _ _ n cs' hs hn hp =>
    rw [List.length_drop] at hn
    rw [List.drop_drop] at hp
    refine ⟨p, _, [], i + 1 + n, cs', hg, rfl, ⟨n, rfl, by rw [List.length_take, List.length_drop]; omega, .inl ⟨hs, by omega, rfl, rfl⟩⟩, hp, by omega, by omega, (shape_rows hs).2⟩
  | @row _ m _ r' n cs' hs hn hd hm hl hp =>
    rw [List.length_drop] at hn
    rw [List.drop_drop] at hd
    have hlt : i + 1 + n < ns.length := by
      have := congrArg List.length hd
      rw [List.length_drop] at this
      simp at this
      omega
    have e2 : ns.drop (i + 1 + n) = ns[i + 1 + n] :: ns.drop (i + 1 + n + 1) := List.drop_eq_getElem_cons hlt
    rw [e2] at hd
    obtain ⟨h1, h2⟩ := List.cons.inj hd
    subst h2
    rw [List.length_drop] at hl
    rw [List.drop_drop] at hp
    have hg2 : ns[i + 1 + n]? = some ((m.toNat : Nat) : Int) := by
      rw [List.getElem?_eq_getElem hlt, h1, Int.toNat_of_nonneg hm]
    refine ⟨p, _, _, i + 1 + n + 1 + m.toNat, cs', hg, rfl, ⟨n, rfl, by rw [List.length_take, List.length_drop]; omega, .inr ⟨hs, m.toNat, hg2, by omega, rfl, rfl⟩⟩, hp, by omega, by omega, (shape_rows hs).2⟩
/-! ### the answers are short -/
theorem inside_cons {c : List (List Int)} {cs : List (List (List Int))} (h : PyInside.calls PyVbemaz.bound (c :: cs) = true) : PyInside.call PyVbemaz.bound c = true ∧ PyInside.calls PyVbemaz.bound cs = true := by
  unfold PyInside.calls at h ⊢
  rw [List.all_cons, Bool.and_eq_true] at h
  exact h
theorem played_cons (S : State) (c : List (List Int)) (cs : List (List (List Int))) : PyFlat.played stepNumbers S (c :: cs) = (stepNumbers S c).2 :: PyFlat.played stepNumbers (stepNumbers S c).1 cs := rfl
end PR
set_option maxRecDepth 100000
namespace PR
open Vbemaz
/-! ### trim, fill -/
theorem trim_fold (n : Nat) (fs : List (Nat × Val)) : ∀ l : List Val, (fs.filter fun f => decide (f.1 < n)).foldl (fun l f => l.set f.1 f.2) (l.take n) = (fs.foldl (fun l f => l.set f.1 f.2) l).take n := by
  induction fs with
  | nil => intro l; rfl
  | cons f fs ih =>
    intro l
    rw [List.foldl_cons, List.filter_cons]
    by_cases h : f.1 < n
    · rw [if_pos (by simpa using h), List.foldl_cons, ← ih, List.take_set]
    · rw [if_neg (by simpa using h), ← ih]
      congr 1
      rw [List.take_set, List.set_eq_of_length_le (by rw [List.length_take]; omega)]
theorem now_trim (s : Series) (n : Nat) : now ⟨s.added.take n, s.fixes.filter fun f => decide (f.1 < n)⟩ = (now s).take n := by
  rw [now_fold, now_fold]
  exact trim_fold n s.fixes s.added
theorem good_trim {s : Series} (h : GoodS s) (n : Nat) : GoodS ⟨s.added.take n, s.fixes.filter fun f => decide (f.1 < n)⟩ := by
  refine ⟨fun x hx => h.add x (List.mem_of_mem_take hx), fun f hf => h.fix f (List.mem_filter.mp hf).1, fun f hf => ?_, ?_, ?_⟩
  · obtain ⟨h1, h2⟩ := List.mem_filter.mp hf
    have := h.at_ f h1
    have h2 : f.1 < n := of_decide_eq_true h2
    show f.1 < (s.added.take n).length
    rw [List.length_take]
    omega
  · show (s.added.take n).length ≤ 400
    have := h.la
    rw [List.length_take]
    omega
  · show (s.fixes.filter _).length ≤ 60
    have := h.lf
    have := List.length_filter_le (fun f : Nat × Val => decide (f.1 < n)) s.fixes
    omega
/-- the corrections that fill makes at the places below n -/
def fillsTo (l r : List Val) (n : Nat) : List (Nat × Val) := ((List.range n).filter fun k => l.getD k none == none && (r.getD k none).isSome).map fun k => (k, r.getD k none)
theorem fillsTo_succ (l r : List Val) (n : Nat) : fillsTo l r (n + 1) = if (l.getD n none == none && (r.getD n none).isSome) = true then fillsTo l r n ++ [(n, r.getD n none)] else fillsTo l r n := by
  unfold fillsTo
  rw [List.range_succ, List.filter_append, List.map_append]
  by_cases h : (l.getD n none == none && (r.getD n none).isSome) = true
  · rw [if_pos h, List.filter_cons, if_pos h]
    rfl
  · rw [if_neg h, List.filter_cons, if_neg h]
    simp
theorem fillsTo_mem {l r : List Val} {n : Nat} {f : Nat × Val} (h : f ∈ fillsTo l r n) : f.1 < n ∧ f.2 = r.getD f.1 none ∧ l.getD f.1 none = none ∧ (r.getD f.1 none).isSome = true := by
  unfold fillsTo at h
  obtain ⟨k, hk, rfl⟩ := List.mem_map.mp h
  obtain ⟨h1, h2⟩ := List.mem_filter.mp hk
  rw [Bool.and_eq_true] at h2
  exact ⟨List.mem_range.mp h1, rfl, eq_of_beq h2.1, h2.2⟩
/-! ### reading bits -/
theorem bindR {α β : Type} (p : R α) (f : α → R β) (b : Bits) : (p >>= f) b = (match p b with
    | .error e => .error e
    | .ok (a, r) => f a r) := by
  show (StateT.bind p f b) = _
  unfold StateT.bind
  show (Except.bind (p b) _) = _
  unfold Except.bind
  cases p b with
  | error e => rfl
  | ok x => rfl
theorem pureR {α : Type} (a : α) (b : Bits) : (pure a : R α) b = .ok (a, b) := rfl
theorem giveR {α : Type} (a : α) (b : Bits) : give a b = .ok (a, b) := rfl
theorem take_short {n : Nat} {b : Bits} (h : b.length < n) : Vbemaz.take n b = .error 1 := if_pos h
theorem take_long {n : Nat} {b : Bits} (h : n ≤ b.length) : Vbemaz.take n b = .ok (b.take n, b.drop n) := if_neg (by omega)
theorem number_short {n : Nat} {b : Bits} (h : b.length < n) : number n b = .error 1 := by
  unfold number
  rw [bindR, take_short h]
theorem number_long {n : Nat} {b : Bits} (h : n ≤ b.length) : number n b = .ok (valueOf (b.take n), b.drop n) := by
  unfold number
  rw [bindR, take_long h]
  rfl
theorem valueOf_lt : ∀ (b : Bits), valueOf b < 2 ^ b.length := by
  intro b
  suffices h : ∀ (b : Bits) (n : Nat), b.foldl (fun n x => 2 * n + (if x = true then 1 else 0)) n < (n + 1) * 2 ^ b.length by
    have := h b 0
    simpa [valueOf] using this
  intro b
  induction b with
  | nil => intro n; simp
  | cons x b ih =>
    intro n
    rw [List.foldl_cons, List.length_cons, Nat.pow_succ]
    have := ih (2 * n + (if x = true then 1 else 0))
    have h2 : (2 * n + (if x = true then 1 else 0) + 1) * 2 ^ b.length ≤ (2 * n + 2) * 2 ^ b.length := Nat.mul_le_mul_right _ (by split <;> omega)
    have h3 : (2 * n + 2) * 2 ^ b.length = (n + 1) * (2 ^ b.length * 2) := by
      rw [show 2 * n + 2 = (n + 1) * 2 by omega, Nat.mul_assoc, Nat.mul_comm 2]
    omega
/-- how many zero bits stand in front -/
def lead (b : Bits) : Nat := (b.takeWhile fun x => !x).length
theorem lead_cons_true (b : Bits) : lead (true :: b) = 0 := rfl
theorem lead_cons_false (b : Bits) : lead (false :: b) = lead b + 1 := rfl
theorem lead_le (b : Bits) : lead b ≤ b.length := by
  induction b with
  | nil => exact Nat.le_refl _
  | cons x b ih => cases x with
    | true => rw [lead_cons_true]; omega
    | false => rw [lead_cons_false, List.length_cons]; omega
theorem zeros_eq : ∀ (k : Nat) (b : Bits), zeros k b = if k ≤ lead b then .error 2 else if lead b = b.length then .error 1 else .ok (lead b, b.drop (lead b))
  | 0, b => by
    rw [if_pos (Nat.zero_le _)]
    rfl
  | k + 1, [] => by
    show (Except.error 1 : Except Wrong (Nat × Bits)) = _
    rw [if_neg (by show ¬ k + 1 ≤ 0; omega), if_pos (show lead [] = ([] : Bits).length from rfl)]
  | k + 1, true :: b => by
    show (Except.ok (0, true :: b) : Except Wrong (Nat × Bits)) = _
    rw [lead_cons_true, if_neg (by omega), if_neg (by simp)]
    rfl
  | k + 1, false :: b => by
    have ih := zeros_eq k b
    show (match zeros k b with
      | .error e => (Except.error e : Except Wrong (Nat × Bits))
      | .ok (n, s) => .ok (n + 1, s)) = _
    rw [ih, lead_cons_false, List.length_cons]
    by_cases h1 : k ≤ lead b
    · rw [if_pos h1, if_pos (show k + 1 ≤ lead b + 1 by omega)]
    · rw [if_neg h1, if_neg (show ¬ k + 1 ≤ lead b + 1 by omega)]
      by_cases h2 : lead b = b.length
      · rw [if_pos h2, if_pos (show lead b + 1 = b.length + 1 by omega)]
      · rw [if_neg h2, if_neg (show ¬ lead b + 1 = b.length + 1 by omega)]
        rfl
theorem readGamma_eq (b : Bits) : readGamma b = if 41 ≤ lead b then .error 2 else if lead b = b.length then .error 1 else if b.length < lead b + (lead b + 1) then .error 1 else .ok (valueOf ((b.drop (lead b)).take (lead b + 1)), b.drop (lead b + (lead b + 1))) := by
  unfold readGamma
  rw [bindR, zeros_eq]
  by_cases h1 : 41 ≤ lead b
  · rw [if_pos h1, if_pos h1]
  · rw [if_neg h1, if_neg h1]
    by_cases h2 : lead b = b.length
    · rw [if_pos h2, if_pos h2]
    · rw [if_neg h2, if_neg h2]
      show number (lead b + 1) (b.drop (lead b)) = _
      have := lead_le b
      by_cases h3 : b.length < lead b + (lead b + 1)
      · rw [if_pos h3, number_short (by rw [List.length_drop]; omega)]
      · rw [if_neg h3, number_long (by rw [List.length_drop]; omega), List.drop_drop]
theorem readZig_eq (b : Bits) : readZig b = (match readGamma b with
    | .error e => .error e
    | .ok (n, r) => .ok (unzigzag (n - 1), r)) := by
  unfold readZig
  rw [bindR]
  cases readGamma b with
  | error e => rfl
  | ok x => rfl
theorem allIn_eq : ∀ (l : List Int) (b : Bits), allIn l b = if l.all (fun v => decide (-1000000000 ≤ v) && decide (v ≤ 1000000000)) = true then .ok (l, b) else .error 2
  | [], b => rfl
  | v :: l, b => by
    unfold allIn
    rw [bindR]
    unfold inRange
    by_cases h : -MOST ≤ v ∧ v ≤ MOST
    · rw [if_pos h]
      show (allIn l >>= fun r => pure (v :: r)) b = _
      rw [bindR, allIn_eq l b, List.all_cons]
      have h2 : (decide (-1000000000 ≤ v) && decide (v ≤ 1000000000)) = true := by
        rw [Bool.and_eq_true]
        exact ⟨decide_eq_true h.1, decide_eq_true h.2⟩
      rw [h2, Bool.true_and]
      by_cases h3 : l.all (fun v => decide (-1000000000 ≤ v) && decide (v ≤ 1000000000)) = true
      · rw [if_pos h3, if_pos h3]
        rfl
      · rw [if_neg h3, if_neg h3]
    · rw [if_neg h, List.all_cons]
      have h2 : ¬ ((decide (-1000000000 ≤ v) && decide (v ≤ 1000000000)) && l.all (fun v => decide (-1000000000 ≤ v) && decide (v ≤ 1000000000))) = true := by
        intro z
        rw [Bool.and_eq_true, Bool.and_eq_true] at z
        exact h ⟨of_decide_eq_true z.1.1, of_decide_eq_true z.1.2⟩
      rw [if_neg h2]
/-! ### what is read as a block is short and in range -/
theorem placed_len : ∀ (m : List Bool) (l : List Int), (placed m l).length = m.length
  | [], _ => rfl
  | true :: m, v :: l => by show (placed m l).length + 1 = _; rw [placed_len m l]; rfl
  | true :: m, [] => by show (placed m []).length + 1 = _; rw [placed_len m []]; rfl
  | false :: m, l => by show (placed m l).length + 1 = _; rw [placed_len m l]; rfl
theorem placed_mem : ∀ (m : List Bool) (l : List Int) (x : Int), some x ∈ placed m l → x ∈ l
  | [], _, x, h => by cases h
  | true :: m, v :: l, x, h => by
    rcases List.mem_cons.mp (show some x ∈ some v :: placed m l from h) with z | z
    · rw [Option.some.inj z]; exact List.mem_cons_self
    · exact List.mem_cons_of_mem _ (placed_mem m l x z)
  | true :: m, [], x, h => by
    rcases List.mem_cons.mp (show some x ∈ none :: placed m [] from h) with z | z
    · cases z
    · exact placed_mem m [] x z
  | false :: m, l, x, h => by
    rcases List.mem_cons.mp (show some x ∈ none :: placed m l from h) with z | z
    · cases z
    · exact placed_mem m l x z
/-- whatever comes out well keeps to P -/
def Outs {α : Type} (P : α → Prop) (p : R α) : Prop := ∀ b a r, p b = .ok (a, r) → P a
theorem outs_bind {α β : Type} {P : β → Prop} {p : R α} {f : α → R β} (h : ∀ a, Outs P (f a)) : Outs P (p >>= f) := by
  intro b x r e
  rw [bindR] at e
  cases hp : p b with
  | error z => rw [hp] at e; cases e
  | ok y =>
    obtain ⟨a, s⟩ := y
    rw [hp] at e
    exact h a s x r e
theorem outs_bind2 {α β : Type} {A : α → Prop} {P : β → Prop} {p : R α} {f : α → R β} (hp : Outs A p) (h : ∀ a, A a → Outs P (f a)) : Outs P (p >>= f) := by
  intro b x r e
  rw [bindR] at e
  cases hq : p b with
  | error z => rw [hq] at e; cases e
  | ok y =>
    obtain ⟨a, s⟩ := y
    rw [hq] at e
    exact h a (hp b a s hq) s x r e
theorem outs_pure {α : Type} {P : α → Prop} {a : α} (h : P a) : Outs P (pure a) := by
  intro b x r e
  rw [pureR] at e
  cases e
  exact h
theorem outs_give {α : Type} {P : α → Prop} {a : α} (h : P a) : Outs P (give a) := by
  intro b x r e
  rw [giveR] at e
  cases e
  exact h
theorem outs_take (n : Nat) : Outs (fun b : Bits => b.length = n) (Vbemaz.take n) := by
  intro b x r e
  by_cases h : b.length < n
  · rw [take_short h] at e; cases e
  · rw [take_long (by omega)] at e
    cases e
    rw [List.length_take]
    omega
theorem outs_number (n : Nat) : Outs (fun k => k < 2 ^ n) (number n) := by
  intro b x r e
  by_cases h : b.length < n
  · rw [number_short h] at e; cases e
  · rw [number_long (by omega)] at e
    cases e
    have := valueOf_lt (b.take n)
    rw [List.length_take, Nat.min_eq_left (by omega)] at this
    exact this
abbrev InR (l : List Int) : Prop := ∀ x ∈ l, x.natAbs ≤ 1000000000
theorem outs_allIn (l : List Int) : Outs InR (allIn l) := by
  intro b x r e
  rw [allIn_eq] at e
  split at e
  · rename_i h
    cases e
    intro v hv
    have := List.all_eq_true.mp h v hv
    rw [Bool.and_eq_true] at this
    have h1 := of_decide_eq_true this.1
    have h2 := of_decide_eq_true this.2
    omega
  · cases e
theorem outs_readCode (c m : Nat) : Outs InR (readCode c m) := by
  unfold readCode
  split
  · exact outs_bind fun w => outs_bind fun l => outs_allIn _
  · split
    · exact outs_bind fun a => outs_bind fun w => outs_bind fun l => outs_allIn _
    · split
      · refine outs_bind fun a => ?_
        split
        · exact outs_allIn _
        · exact outs_bind fun d => outs_bind fun l => outs_allIn _
      · exact outs_bind fun l => outs_allIn _
theorem outs_readBlock : Outs (fun l : List Val => 1 ≤ l.length ∧ l.length ≤ 16 ∧ ∀ x, some x ∈ l → x.natAbs ≤ 1000000000) readBlock := by
  unfold readBlock
  refine outs_bind2 (outs_number 4) fun n hn => outs_bind fun g => outs_bind2 (A := fun mask : Bits => mask.length = n + 1) ?_ fun mask hm => ?_
  · split
    · exact outs_take (n + 1)
    · exact outs_give (by rw [List.length_replicate])
  · have hn : n < 16 := hn
    simp only
    split
    · refine outs_pure ⟨by rw [List.length_map, hm]; omega, by rw [List.length_map, hm]; omega, fun x hx => ?_⟩
      obtain ⟨_, _, z⟩ := List.mem_map.mp hx
      cases z
    · exact outs_bind fun c => outs_bind2 (outs_readCode c _) fun l hl => outs_pure ⟨by rw [placed_len, hm]; omega, by rw [placed_len, hm]; omega, fun x hx => hl x (placed_mem _ _ x hx)⟩
theorem unpack_ok {b : List Nat} {l : List Val} (h : unpack b = .ok l) : 1 ≤ l.length ∧ l.length ≤ 16 ∧ ∀ x, some x ∈ l → x.natAbs ≤ 1000000000 := by
  unfold unpack at h
  cases hr : readBlock (toBits b) with
  | error e => rw [hr] at h; cases h
  | ok y =>
    obtain ⟨l', r⟩ := y
    rw [hr] at h
    simp only at h
    split at h
    · cases h
    · split at h
      · cases h
        exact outs_readBlock _ _ _ hr
      · cases h
end PR
set_option maxRecDepth 100000
namespace PR
open Vbemaz
/-! ### the specification's step, call by call -/
def aHistory (s : Series) (k : Nat) : List Int := if s.added.length ≤ k then [-4] else 0 :: row ((s.added.getD k none :: (s.fixes.filter fun f => f.1 == k).map fun f => f.2).flatMap told)
def aDiffer (x y : Series) (i : Nat) : List Int := match (List.range (max ((now x).drop i).length ((now y).drop i).length)).find? fun k => ((now x).drop i)[k]? != ((now y).drop i)[k]? with
  | some k => [0, ((i + k : Nat) : Int)]
  | none => [0, -1]
def fills (x y : Series) : List (Nat × Val) := fillsTo (now x) (now y) (now x).length
def cFill (x y : Series) : Series × List Int := if 60 < x.fixes.length + (fills x y).length then (x, [-5]) else ({ x with fixes := x.fixes ++ fills x y }, [0, ((fills x y).length : Int)])
def cTrim (s : Series) (n : Nat) : Series × List Int := if s.added.length < n then (s, [-4]) else (⟨s.added.take n, s.fixes.filter fun f => decide (f.1 < n)⟩, [0])
def aUnpack (b : List Nat) : List Int := match unpack b with
  | .error e => [0, (e : Int)]
  | .ok l => 0 :: 0 :: row (l.flatMap told)
def cLoad (s : Series) (b : List Nat) : Series × List Int := match unpack b with
  | .error _ => (s, [-3])
  | .ok l => cAdd s l
def aCodes (l : List Val) : List Int := if (present l).isEmpty = true then [-8] else 0 :: (chosen (present l) : Int) :: ((List.range 4).map fun c => ((codeOf c (present l)).length : Int))
def aGamma (n : Nat) : List Int := 0 :: row ((Vbemaz.gamma n).map bit)
def aState (S : State) : List Int := 0 :: S.series.flatMap fun x => [(x.added.length : Int), (x.fixes.length : Int)]
theorem when_yes {b : Bool} {c : Call} (h : b = true) : when_ b c = some c := if_pos h
theorem when_no {b : Bool} {c : Call} (h : b = false) : when_ b c = none := if_neg (by rw [h]; decide)
section
variable {S : State} {s t k n i j b : Int} {l : List Int}
theorem put_at {S : State} {i : Nat} (h : i < S.series.length) : put S i (at_ S i) = S := by
  unfold put at_
  rw [List.getD_eq_getElem?_getD, List.getElem?_eq_getElem h, Option.getD_some, List.set_getElem_self]
theorem sn_clear (h : isSeries s = true) : stepNumbers S [[0, s]] = (put S s.toNat ⟨[], []⟩, [0]) := by
  show (match when_ (isSeries s) (.clear s.toNat) with | some k => step S k | none => (S, [-1])) = _
  rw [when_yes h]
  rfl
theorem sn_clear_no (h : isSeries s = false) : stepNumbers S [[0, s]] = (S, [-1]) := by
  show (match when_ (isSeries s) (.clear s.toNat) with | some k => step S k | none => (S, [-1])) = _
  rw [when_no h]
theorem sn_add (h : isSeries s = true) {v : List Val} (hv : valsOf l = some v) (hs : s.toNat < S.series.length) : stepNumbers S [[1, s], l] = (put S s.toNat (cAdd (at_ S s.toNat) v).1, (cAdd (at_ S s.toNat) v).2) := by
  show (match (if isSeries s = true then (valsOf l).map (Call.add s.toNat) else none) with | some k => step S k | none => (S, [-1])) = _
  rw [if_pos h, hv]
  show added S s.toNat v = _
  unfold added cAdd LONG
  simp only
  split
  · rw [put_at hs]
  · rfl
theorem sn_add_no (h : isSeries s = false ∨ valsOf l = none) : stepNumbers S [[1, s], l] = (S, [-1]) := by
  show (match (if isSeries s = true then (valsOf l).map (Call.add s.toNat) else none) with | some k => step S k | none => (S, [-1])) = _
  rcases h with h | h
  · rw [if_neg (by rw [h]; decide)]
  · rw [h]
    by_cases h2 : isSeries s = true
    · rw [if_pos h2]; rfl
    · rw [if_neg h2]
theorem sn_fix {v : Int} (h : (isSeries s && (isPlace k && isVal v)) = true) (hs : s.toNat < S.series.length) : stepNumbers S [[2, s, k, v]] = (put S s.toNat (cFix (at_ S s.toNat) k.toNat (valOf v)).1, (cFix (at_ S s.toNat) k.toNat (valOf v)).2) := by
  show (match when_ (isSeries s && (isPlace k && isVal v)) (.fix s.toNat k.toNat (valOf v)) with | some k => step S k | none => (S, [-1])) = _
  rw [when_yes h]
  show step S (.fix s.toNat k.toNat (valOf v)) = _
  unfold step cFix FIXES
  simp only
  split
  · rw [put_at hs]
  · split
    · rw [put_at hs]
    · split
      · rw [put_at hs]
      · rfl
theorem sn_fix_no {v : Int} (h : (isSeries s && (isPlace k && isVal v)) = false) : stepNumbers S [[2, s, k, v]] = (S, [-1]) := by
  show (match when_ (isSeries s && (isPlace k && isVal v)) (.fix s.toNat k.toNat (valOf v)) with | some k => step S k | none => (S, [-1])) = _
  rw [when_no h]
theorem sn_get (h : (isSeries s && isPlace k) = true) : stepNumbers S [[3, s, k]] = (S, aGet (at_ S s.toNat) k.toNat) := by
  show (match when_ (isSeries s && isPlace k) (.get s.toNat k.toNat) with | some k => step S k | none => (S, [-1])) = _
  rw [when_yes h]
  show step S (.get s.toNat k.toNat) = _
  unfold step aGet
  simp only
  split <;> rfl
theorem sn_get_no (h : (isSeries s && isPlace k) = false) : stepNumbers S [[3, s, k]] = (S, [-1]) := by
  show (match when_ (isSeries s && isPlace k) (.get s.toNat k.toNat) with | some k => step S k | none => (S, [-1])) = _
  rw [when_no h]
theorem sn_was (h : (isSeries s && (isPlace k && within n 0 100)) = true) : stepNumbers S [[4, s, k, n]] = (S, aWas (at_ S s.toNat) k.toNat n.toNat) := by
  show (match when_ (isSeries s && (isPlace k && within n 0 100)) (.was s.toNat k.toNat n.toNat) with | some k => step S k | none => (S, [-1])) = _
  rw [when_yes h]
  show step S (.was s.toNat k.toNat n.toNat) = _
  unfold step aWas
  simp only
  split
  · rfl
  · split <;> rfl
theorem sn_was_no (h : (isSeries s && (isPlace k && within n 0 100)) = false) : stepNumbers S [[4, s, k, n]] = (S, [-1]) := by
  show (match when_ (isSeries s && (isPlace k && within n 0 100)) (.was s.toNat k.toNat n.toNat) with | some k => step S k | none => (S, [-1])) = _
  rw [when_no h]
theorem sn_sum (h : (isSeries s && (isPlace i && isPlace j)) = true) : stepNumbers S [[5, s, i, j]] = (S, aSum (at_ S s.toNat) i.toNat j.toNat) := by
  show (match when_ (isSeries s && (isPlace i && isPlace j)) (.sum s.toNat i.toNat j.toNat) with | some k => step S k | none => (S, [-1])) = _
  rw [when_yes h]
  show step S (.sum s.toNat i.toNat j.toNat) = _
  unfold step aSum
  simp only
  split <;> rfl
theorem sn_sum_no (h : (isSeries s && (isPlace i && isPlace j)) = false) : stepNumbers S [[5, s, i, j]] = (S, [-1]) := by
  show (match when_ (isSeries s && (isPlace i && isPlace j)) (.sum s.toNat i.toNat j.toNat) with | some k => step S k | none => (S, [-1])) = _
  rw [when_no h]
theorem sn_span (h : (isSeries s && (isPlace i && isPlace j)) = true) : stepNumbers S [[6, s, i, j]] = (S, aSpan (at_ S s.toNat) i.toNat j.toNat) := by
  show (match when_ (isSeries s && (isPlace i && isPlace j)) (.span s.toNat i.toNat j.toNat) with | some k => step S k | none => (S, [-1])) = _
  rw [when_yes h]
  show step S (.span s.toNat i.toNat j.toNat) = _
  unfold step aSpan
  simp only
  split
  · rfl
  · cases h1 : leastIn i.toNat (Vbemaz.span (now (at_ S s.toNat)) i.toNat j.toNat) <;> cases h2 : greatestIn i.toNat (Vbemaz.span (now (at_ S s.toNat)) i.toNat j.toNat) <;> rfl
theorem sn_span_no (h : (isSeries s && (isPlace i && isPlace j)) = false) : stepNumbers S [[6, s, i, j]] = (S, [-1]) := by
  show (match when_ (isSeries s && (isPlace i && isPlace j)) (.span s.toNat i.toNat j.toNat) with | some k => step S k | none => (S, [-1])) = _
  rw [when_no h]
theorem sn_seek {x : Int} (h : (isSeries s && (isPlace i && within x (-GAP) GAP)) = true) : stepNumbers S [[7, s, i, x]] = (S, aSeek (at_ S s.toNat) i.toNat x) := by
  show (match when_ (isSeries s && (isPlace i && within x (-GAP) GAP)) (.seek s.toNat i.toNat x) with | some k => step S k | none => (S, [-1])) = _
  rw [when_yes h]
  show step S (.seek s.toNat i.toNat x) = _
  unfold step aSeek
  simp only
  split
  · rfl
  · cases seekIn x i.toNat ((now (at_ S s.toNat)).drop i.toNat) <;> rfl
theorem sn_seek_no {x : Int} (h : (isSeries s && (isPlace i && within x (-GAP) GAP)) = false) : stepNumbers S [[7, s, i, x]] = (S, [-1]) := by
  show (match when_ (isSeries s && (isPlace i && within x (-GAP) GAP)) (.seek s.toNat i.toNat x) with | some k => step S k | none => (S, [-1])) = _
  rw [when_no h]
theorem sn_coarse (h : (isSeries s && within n 1 96) = true) : stepNumbers S [[8, s, n]] = (S, aCoarse (at_ S s.toNat) n.toNat) := by
  show (match when_ (isSeries s && within n 1 96) (.coarse s.toNat n.toNat) with | some k => step S k | none => (S, [-1])) = _
  rw [when_yes h]
  rfl
theorem sn_coarse_no (h : (isSeries s && within n 1 96) = false) : stepNumbers S [[8, s, n]] = (S, [-1]) := by
  show (match when_ (isSeries s && within n 1 96) (.coarse s.toNat n.toNat) with | some k => step S k | none => (S, [-1])) = _
  rw [when_no h]
theorem sn_sizes (h : isSeries s = true) : stepNumbers S [[9, s]] = (S, aSizes (at_ S s.toNat)) := by
  show (match when_ (isSeries s) (.sizes s.toNat) with | some k => step S k | none => (S, [-1])) = _
  rw [when_yes h]
  rfl
theorem sn_sizes_no (h : isSeries s = false) : stepNumbers S [[9, s]] = (S, [-1]) := by
  show (match when_ (isSeries s) (.sizes s.toNat) with | some k => step S k | none => (S, [-1])) = _
  rw [when_no h]
theorem sn_block (h : (isSeries s && within b 0 30) = true) : stepNumbers S [[10, s, b]] = (S, aBlock (at_ S s.toNat) b.toNat) := by
  show (match when_ (isSeries s && within b 0 30) (.block s.toNat b.toNat) with | some k => step S k | none => (S, [-1])) = _
  rw [when_yes h]
  show step S (.block s.toNat b.toNat) = _
  unfold step aBlock
  simp only
  cases (blocks (now (at_ S s.toNat)))[b.toNat]? <;> rfl
theorem sn_block_no (h : (isSeries s && within b 0 30) = false) : stepNumbers S [[10, s, b]] = (S, [-1]) := by
  show (match when_ (isSeries s && within b 0 30) (.block s.toNat b.toNat) with | some k => step S k | none => (S, [-1])) = _
  rw [when_no h]
theorem sn_unpack {v : List Nat} (hv : bytesIn l = some v) : stepNumbers S [[11], l] = (S, aUnpack v) := by
  show (match (bytesIn l).map Call.unpack with | some k => step S k | none => (S, [-1])) = _
  rw [hv]
  show step S (.unpack v) = _
  unfold step aUnpack
  rfl
theorem sn_unpack_no (hv : bytesIn l = none) : stepNumbers S [[11], l] = (S, [-1]) := by
  show (match (bytesIn l).map Call.unpack with | some k => step S k | none => (S, [-1])) = _
  rw [hv]
  rfl
theorem sn_load (h : isSeries s = true) {v : List Nat} (hv : bytesIn l = some v) (hs : s.toNat < S.series.length) : stepNumbers S [[12, s], l] = (put S s.toNat (cLoad (at_ S s.toNat) v).1, (cLoad (at_ S s.toNat) v).2) := by
  show (match (if isSeries s = true then (bytesIn l).map (Call.load s.toNat) else none) with | some k => step S k | none => (S, [-1])) = _
  rw [if_pos h, hv]
  show step S (.load s.toNat v) = _
  unfold step cLoad
  simp only
  cases Vbemaz.unpack v with
  | error e => simp only; rw [put_at hs]
  | ok l =>
    show added S s.toNat l = _
    unfold added cAdd LONG
    simp only
    split
    · rw [put_at hs]
    · rfl
theorem sn_load_no (h : isSeries s = false ∨ bytesIn l = none) : stepNumbers S [[12, s], l] = (S, [-1]) := by
  show (match (if isSeries s = true then (bytesIn l).map (Call.load s.toNat) else none) with | some k => step S k | none => (S, [-1])) = _
  rcases h with h | h
  · rw [if_neg (by rw [h]; decide)]
  · rw [h]
    by_cases h2 : isSeries s = true
    · rw [if_pos h2]; rfl
    · rw [if_neg h2]
theorem sn_codes {v : List Val} (hv : valsOf l = some v) (hl : v.length ≤ 16) : stepNumbers S [[13], l] = (S, aCodes v) := by
  show (match (match valsOf l with | some v => when_ (decide (v.length ≤ BLOCK)) (.codes v) | none => none) with | some k => step S k | none => (S, [-1])) = _
  rw [hv]
  simp only
  rw [when_yes (decide_eq_true (show v.length ≤ BLOCK from hl))]
  show step S (.codes v) = _
  unfold step aCodes
  simp only
  split <;> rfl
theorem sn_codes_no (h : valsOf l = none ∨ ∃ v, valsOf l = some v ∧ ¬ v.length ≤ 16) : stepNumbers S [[13], l] = (S, [-1]) := by
  show (match (match valsOf l with | some v => when_ (decide (v.length ≤ BLOCK)) (.codes v) | none => none) with | some k => step S k | none => (S, [-1])) = _
  rcases h with h | ⟨v, h, hl⟩
  · rw [h]
  · rw [h]
    simp only
    rw [when_no (decide_eq_false (show ¬ v.length ≤ BLOCK from hl))]
theorem sn_gamma (h : within n 1 4294967296 = true) : stepNumbers S [[14, n]] = (S, aGamma n.toNat) := by
  show (match when_ (within n 1 4294967296) (.gamma n) with | some k => step S k | none => (S, [-1])) = _
  rw [when_yes h]
  rfl
theorem sn_gamma_no (h : within n 1 4294967296 = false) : stepNumbers S [[14, n]] = (S, [-1]) := by
  show (match when_ (within n 1 4294967296) (.gamma n) with | some k => step S k | none => (S, [-1])) = _
  rw [when_no h]
theorem sn_copy (h : (isSeries s && isSeries t) = true) : stepNumbers S [[15, s, t]] = if s.toNat = t.toNat then (S, [-6]) else (put S t.toNat (at_ S s.toNat), [0]) := by
  show (match when_ (isSeries s && isSeries t) (.copy s.toNat t.toNat) with | some k => step S k | none => (S, [-1])) = _
  rw [when_yes h]
  rfl
theorem sn_copy_no (h : (isSeries s && isSeries t) = false) : stepNumbers S [[15, s, t]] = (S, [-1]) := by
  show (match when_ (isSeries s && isSeries t) (.copy s.toNat t.toNat) with | some k => step S k | none => (S, [-1])) = _
  rw [when_no h]
theorem sn_differ (h : (isSeries s && (isSeries t && isPlace i)) = true) : stepNumbers S [[16, s, t, i]] = (S, aDiffer (at_ S s.toNat) (at_ S t.toNat) i.toNat) := by
  show (match when_ (isSeries s && (isSeries t && isPlace i)) (.differ s.toNat t.toNat i.toNat) with | some k => step S k | none => (S, [-1])) = _
  rw [when_yes h]
  rfl
theorem sn_differ_no (h : (isSeries s && (isSeries t && isPlace i)) = false) : stepNumbers S [[16, s, t, i]] = (S, [-1]) := by
  show (match when_ (isSeries s && (isSeries t && isPlace i)) (.differ s.toNat t.toNat i.toNat) with | some k => step S k | none => (S, [-1])) = _
  rw [when_no h]
theorem sn_fill (h : (isSeries s && isSeries t) = true) (hs : s.toNat < S.series.length) : stepNumbers S [[17, s, t]] = (put S s.toNat (cFill (at_ S s.toNat) (at_ S t.toNat)).1, (cFill (at_ S s.toNat) (at_ S t.toNat)).2) := by
  show (match when_ (isSeries s && isSeries t) (.fill s.toNat t.toNat) with | some k => step S k | none => (S, [-1])) = _
  rw [when_yes h]
  show step S (.fill s.toNat t.toNat) = _
  unfold step cFill fills fillsTo FIXES
  simp only
  split
  · rw [put_at hs]
  · rfl
theorem sn_fill_no (h : (isSeries s && isSeries t) = false) : stepNumbers S [[17, s, t]] = (S, [-1]) := by
  show (match when_ (isSeries s && isSeries t) (.fill s.toNat t.toNat) with | some k => step S k | none => (S, [-1])) = _
  rw [when_no h]
theorem sn_trim (h : (isSeries s && isPlace n) = true) (hs : s.toNat < S.series.length) : stepNumbers S [[18, s, n]] = (put S s.toNat (cTrim (at_ S s.toNat) n.toNat).1, (cTrim (at_ S s.toNat) n.toNat).2) := by
  show (match when_ (isSeries s && isPlace n) (.trim s.toNat n.toNat) with | some k => step S k | none => (S, [-1])) = _
  rw [when_yes h]
  show step S (.trim s.toNat n.toNat) = _
  unfold step cTrim
  simp only
  split
  · rw [put_at hs]
  · rfl
theorem sn_trim_no (h : (isSeries s && isPlace n) = false) : stepNumbers S [[18, s, n]] = (S, [-1]) := by
  show (match when_ (isSeries s && isPlace n) (.trim s.toNat n.toNat) with | some k => step S k | none => (S, [-1])) = _
  rw [when_no h]
theorem sn_history (h : (isSeries s && isPlace k) = true) : stepNumbers S [[19, s, k]] = (S, aHistory (at_ S s.toNat) k.toNat) := by
  show (match when_ (isSeries s && isPlace k) (.history s.toNat k.toNat) with | some k => step S k | none => (S, [-1])) = _
  rw [when_yes h]
  show step S (.history s.toNat k.toNat) = _
  unfold step aHistory
  simp only
  split <;> rfl
theorem sn_history_no (h : (isSeries s && isPlace k) = false) : stepNumbers S [[19, s, k]] = (S, [-1]) := by
  show (match when_ (isSeries s && isPlace k) (.history s.toNat k.toNat) with | some k => step S k | none => (S, [-1])) = _
  rw [when_no h]
theorem sn_state : stepNumbers S [[20]] = (S, aState S) := rfl
end
end PR
set_option maxRecDepth 100000
namespace PR
open Vbemaz
/-! ### the answers are short -/
theorem told_len2 (v : Val) : (told v).length = 2 := by cases v <;> rfl
theorem tolds_len (l : List Val) : (l.flatMap told).length = 2 * l.length := by
  induction l with
  | nil => rfl
  | cons v l ih => rw [List.flatMap_cons, List.length_append, ih, told_len2, List.length_cons]; omega
theorem row_len (l : List Int) : (row l).length = l.length + 1 := rfl
theorem len_get (s : Series) (k : Nat) : (aGet s k).length ≤ 900 := by
  unfold aGet; split
  · decide
  · rw [List.length_cons, told_len2]; omega
theorem len_was (s : Series) (k n : Nat) : (aWas s k n).length ≤ 900 := by
  unfold aWas; split
  · decide
  · split
    · decide
    · rw [List.length_cons, told_len2]; omega
theorem len_sum (s : Series) (i j : Nat) : (aSum s i j).length ≤ 900 := by
  unfold aSum; split
  · decide
  · simp
theorem len_span (s : Series) (i j : Nat) : (aSpan s i j).length ≤ 900 := by
  unfold aSpan; split
  · decide
  · split <;> simp
theorem len_seek (s : Series) (i : Nat) (x : Int) : (aSeek s i x).length ≤ 900 := by
  unfold aSeek; split
  · decide
  · split <;> simp
theorem len_coarse {s : Series} (h : GoodS s) {n : Nat} (hn : 0 < n) : (aCoarse s n).length ≤ 900 := by
  unfold aCoarse
  rw [List.length_cons, row_len, coarse_range hn, now_len]
  have h1 : ∀ t, ((List.range t).flatMap fun i => toldPiece (((now s).drop (i * n)).take n)).length = 2 * t := by
    intro t
    induction t with
    | zero => rfl
    | succ t ih =>
      rw [List.range_succ, List.flatMap_append, List.length_append, ih]
      simp [toldPiece, told_len2]
      omega
  rw [h1]
  have := Nat.div_le_self s.added.length n
  have := h.la
  omega
theorem blocks_len {s : Series} (h : GoodS s) : (blocks (now s)).length ≤ 25 := by
  rw [blocks_range, List.length_map, List.length_range, now_len]
  have := h.la
  omega
theorem len_sizes {s : Series} (h : GoodS s) : (aSizes s).length ≤ 900 := by
  unfold aSizes
  rw [List.length_cons, List.length_cons, row_len, List.length_map]
  have := blocks_len h
  omega
theorem len_block {s : Series} (h : GoodS s) (b : Nat) : (aBlock s b).length ≤ 900 := by
  unfold aBlock
  cases e : (blocks (now s))[b]? with
  | none => decide
  | some l =>
    simp only
    rw [List.length_cons, row_len]
    unfold nats pack
    rw [List.length_map, toBytes_len]
    have hl : l ∈ blocks (now s) := List.mem_of_getElem? e
    rw [blocks_range] at hl
    obtain ⟨i, _, rfl⟩ := List.mem_map.mp hl
    have := packed_len (l := ((now s).drop (i * 16)).take 16) (by rw [List.length_take]; omega) (fun x hx => now_ok h x (List.mem_of_mem_drop (List.mem_of_mem_take hx)))
    omega
theorem len_add (s : Series) (l : List Val) : (cAdd s l).2.length ≤ 900 := by
  unfold cAdd; split <;> simp
theorem len_fix (s : Series) (k : Nat) (v : Val) : (cFix s k v).2.length ≤ 900 := by
  unfold cFix; split
  · simp
  · split
    · simp
    · split <;> simp
theorem len_history {s : Series} (h : GoodS s) (k : Nat) : (aHistory s k).length ≤ 900 := by
  unfold aHistory; split
  · decide
  · rw [List.length_cons, row_len, tolds_len, List.length_cons, List.length_map]
    have := List.length_filter_le (fun f : Nat × Val => f.1 == k) s.fixes
    have := h.lf
    omega
theorem len_differ (x y : Series) (i : Nat) : (aDiffer x y i).length ≤ 900 := by
  unfold aDiffer; split <;> simp
theorem len_fill (x y : Series) : (cFill x y).2.length ≤ 900 := by
  unfold cFill; split <;> simp
theorem len_trim (s : Series) (n : Nat) : (cTrim s n).2.length ≤ 900 := by
  unfold cTrim; split <;> simp
theorem len_unpack (b : List Nat) : (aUnpack b).length ≤ 900 := by
  unfold aUnpack
  cases e : unpack b with
  | error z => simp
  | ok l =>
    have := unpack_ok e
    simp only
    rw [List.length_cons, List.length_cons, row_len, tolds_len]
    omega
theorem len_load (s : Series) (b : List Nat) : (cLoad s b).2.length ≤ 900 := by
  unfold cLoad
  cases e : unpack b with
  | error z => simp
  | ok l => exact len_add s l
theorem len_codes (l : List Val) : (aCodes l).length ≤ 900 := by
  unfold aCodes; split
  · decide
  · simp
theorem len_gamma {n : Nat} (h : n < 2 ^ 64) : (aGamma n).length ≤ 900 := by
  unfold aGamma
  rw [List.length_cons, row_len, List.length_map]
  have := gamma_len h
  omega
theorem len_state {S : State} (h : S.series.length = 4) : (aState S).length ≤ 900 := by
  unfold aState
  have : ∀ l : List Series, (l.flatMap fun x => [(x.added.length : Int), (x.fixes.length : Int)]).length = 2 * l.length := by
    intro l
    induction l with
    | nil => rfl
    | cons v l ih => rw [List.flatMap_cons, List.length_append, ih, List.length_cons]; simp; omega
  rw [List.length_cons, this, h]
  decide
/-! ### good series stay good -/
theorem good_cAdd {s : Series} (h : GoodS s) {l : List Val} (hl : ∀ x, some x ∈ l → x.natAbs ≤ 1000000000) : GoodS (cAdd s l).1 := by
  unfold cAdd; split
  · exact h
  · exact good_add h hl (by omega)
theorem good_cLoad {s : Series} (h : GoodS s) (b : List Nat) : GoodS (cLoad s b).1 := by
  unfold cLoad
  cases e : unpack b with
  | error z => exact h
  | ok l => exact good_cAdd h (unpack_ok e).2.2
theorem good_cTrim {s : Series} (h : GoodS s) (n : Nat) : GoodS (cTrim s n).1 := by
  unfold cTrim; split
  · exact h
  · exact good_trim h n
theorem good_cFill {x y : Series} (h : GoodS x) (hy : GoodS y) : GoodS (cFill x y).1 := by
  unfold cFill; split
  · exact h
  · rename_i hn
    refine ⟨h.add, fun f hf => ?_, fun f hf => ?_, h.la, ?_⟩
    · rcases List.mem_append.mp hf with z | z
      · exact h.fix f z
      · obtain ⟨_, h2, _, _⟩ := fillsTo_mem z
        intro v hv
        rw [h2, List.getD_eq_getElem?_getD] at hv
        cases e : (now y)[f.1]? with
        | none => rw [e] at hv; cases hv
        | some u =>
          rw [e] at hv
          have hv : u = some v := hv
          exact now_ok hy v (by rw [← hv]; exact List.mem_of_getElem? e)
    · rcases List.mem_append.mp hf with z | z
      · exact h.at_ f z
      · obtain ⟨h1, _⟩ := fillsTo_mem z
        rw [now_len] at h1
        exact h1
    · show (x.fixes ++ fills x y).length ≤ 60
      rw [List.length_append]
      omega
end PR
set_option maxRecDepth 100000
namespace PR
open Vbemaz
/-! ### what stood at a place, one behind another -/
def valsTo (s : Series) (k n : Nat) : List Val := s.added.getD k none :: ((s.fixes.take n).filter fun f => f.1 == k).map fun f => f.2
theorem fold_last (k : Nat) (fs : List (Nat × Val)) : ∀ l : List Val, k < l.length → (fs.foldl (fun l f => l.set f.1 f.2) l).getD k none = ((fs.filter fun f => f.1 == k).map fun f => f.2).getLastD (l.getD k none) := by
  induction fs with
  | nil => intro l _; rfl
  | cons f fs ih =>
    intro l hl
    rw [List.foldl_cons, ih _ (by rw [List.length_set]; exact hl), List.filter_cons]
    by_cases h : f.1 = k
    · rw [if_pos (by simpa using h), List.map_cons, List.getLastD_cons]
      congr 1
      rw [h, List.getD_eq_getElem?_getD, List.getElem?_set_self hl]
      rfl
    · rw [if_neg (by simpa using h)]
      congr 1
      rw [List.getD_eq_getElem?_getD, List.getElem?_set_ne h, List.getD_eq_getElem?_getD]
theorem valsTo_last {s : Series} {k n : Nat} (h : k < s.added.length) : (valsTo s k n)[(valsTo s k n).length - 1]? = some ((asOf s n).getD k none) := by
  unfold asOf
  rw [fold_last k _ _ h, ← List.getLast?_eq_getElem?]
  unfold valsTo
  rw [List.getLast?_cons, List.getLastD_eq_getLast?]
theorem valsTo_ok {s : Series} (h : GoodS s) {k n : Nat} : ∀ x, some x ∈ valsTo s k n → x.natAbs ≤ 1000000000 := by
  intro x hx
  unfold valsTo at hx
  rcases List.mem_cons.mp hx with z | z
  · rw [List.getD_eq_getElem?_getD] at z
    cases e : s.added[k]? with
    | none => rw [e] at z; cases z
    | some v =>
      rw [e] at z
      have z : some x = v := z
      exact h.add x (by rw [z]; exact List.mem_of_getElem? e)
  · obtain ⟨f, hf, e⟩ := List.mem_map.mp z
    exact h.fix f (List.mem_of_mem_take (List.mem_filter.mp hf).1) x e
theorem valsTo_len (s : Series) (k n : Nat) : (valsTo s k n).length ≤ 1 + s.fixes.length := by
  unfold valsTo
  rw [List.length_cons, List.length_map]
  have h1 := List.length_filter_le (fun f : Nat × Val => f.1 == k) (s.fixes.take n)
  have h2 := List.length_take_le n s.fixes
  have h3 := List.length_take_le' n s.fixes
  omega
theorem aHistory_vals (s : Series) (k : Nat) : aHistory s k = if s.added.length ≤ k then [-4] else 0 :: row ((valsTo s k s.fixes.length).flatMap told) := by
  unfold aHistory valsTo
  rw [List.take_length]
end PR
set_option maxRecDepth 100000
namespace PR
open Vbemaz
/-! ### differ, fill: as the program goes -/
theorem find_range_some {n k : Nat} {p : Nat → Bool} (hk : k < n) (h : p k = true) (h0 : ∀ j, j < k → p j = false) : (List.range n).find? p = some k := by
  rw [List.find?_range_eq_some]
  exact ⟨h, List.mem_range.mpr hk, fun j hj => by rw [h0 j hj]; rfl⟩
theorem find_range_none {n : Nat} {p : Nat → Bool} (h : ∀ j, j < n → p j = false) : (List.range n).find? p = none := by
  rw [List.find?_range_eq_none]
  intro j hj
  rw [h j hj]
  rfl
theorem aDiffer_some {x y : Series} {i k : Nat} (hk : i + k < max x.added.length y.added.length) (h : (now x)[i + k]? ≠ (now y)[i + k]?) (h0 : ∀ j, j < k → (now x)[i + j]? = (now y)[i + j]?) : aDiffer x y i = [0, ((i + k : Nat) : Int)] := by
  unfold aDiffer
  rw [find_range_some (k := k)]
  · rw [List.length_drop, List.length_drop, now_len, now_len]
    omega
  · rw [List.getElem?_drop, List.getElem?_drop]
    simpa using h
  · intro j hj
    rw [List.getElem?_drop, List.getElem?_drop, h0 j hj]
    simp
theorem aDiffer_none {x y : Series} {i : Nat} (h0 : ∀ j, i + j < max x.added.length y.added.length → (now x)[i + j]? = (now y)[i + j]?) : aDiffer x y i = [0, -1] := by
  unfold aDiffer
  rw [find_range_none]
  intro j hj
  rw [List.length_drop, List.length_drop, now_len, now_len] at hj
  rw [List.getElem?_drop, List.getElem?_drop, h0 j (by omega)]
  simp
/-- beyond the second series nothing is filled -/
theorem fillsTo_min (l r : List Val) : ∀ n, r.length ≤ n → fillsTo l r n = fillsTo l r r.length := by
  intro n
  induction n with
  | zero => intro h; rw [show r.length = 0 by omega]
  | succ n ih =>
    intro h
    by_cases e : r.length = n + 1
    · rw [e]
    · rw [fillsTo_succ, ih (by omega), if_neg]
      have : r.getD n none = none := by
        rw [List.getD_eq_getElem?_getD, List.getElem?_eq_none (by omega)]
        rfl
      rw [this]
      simp
theorem fills_shared (x y : Series) : fills x y = fillsTo (now x) (now y) (min x.added.length y.added.length) := by
  unfold fills
  rw [now_len]
  by_cases h : x.added.length ≤ y.added.length
  · rw [Nat.min_eq_left h]
  · rw [Nat.min_eq_right (by omega), fillsTo_min _ _ _ (by rw [now_len]; omega), now_len]
theorem fills_self (x : Series) : fills x x = [] := by
  unfold fills fillsTo
  rw [List.filter_eq_nil_iff.mpr]
  · rfl
  · intro k _
    cases (now x).getD k none <;> simp
end PR
set_option maxRecDepth 100000
namespace PR
open Vbemaz
/-! ### the reader of bits, as the program goes -/
def digitsFrom (h : Nat) (b : Bits) : Nat := b.foldl (fun n x => 2 * n + (if x = true then 1 else 0)) h
theorem digitsFrom_snoc (h : Nat) (b : Bits) (x : Bool) : digitsFrom h (b ++ [x]) = 2 * digitsFrom h b + (if x = true then 1 else 0) := by
  unfold digitsFrom
  rw [List.foldl_append]
  rfl
def bitR : R Bool := fun b => match b with
  | [] => .error 1
  | x :: r => .ok (x, r)
def digitsR (h c : Nat) : R Nat := fun b => if b.length < c then .error 1 else .ok (digitsFrom h (b.take c), b.drop c)
theorem number_digits (c : Nat) : number c = digitsR 0 c := by
  funext b
  unfold digitsR
  by_cases h : b.length < c
  · rw [if_pos h, number_short h]
  · rw [if_neg h, number_long (by omega)]
    rfl
theorem bitR_ok {bs : Bits} {i i' : Nat} {x : Bool} (h : bitR (bs.drop i) = .ok (x, bs.drop i')) (hi : i' ≤ bs.length) : i' = i + 1 ∧ bs[i]? = some x ∧ i < bs.length := by
  cases e : bs.drop i with
  | nil => rw [e] at h; cases h
  | cons y r =>
    rw [e] at h
    have h : (Except.ok (y, r) : Except Wrong (Bool × Bits)) = .ok (x, bs.drop i') := h
    obtain ⟨h1, h2⟩ := Prod.mk.inj (Except.ok.inj h)
    have hl := congrArg List.length e
    rw [List.length_drop, List.length_cons, h2, List.length_drop] at hl
    refine ⟨by omega, ?_, by omega⟩
    have : (bs.drop i)[0]? = some y := by rw [e]; rfl
    rw [List.getElem?_drop, Nat.add_zero] at this
    rw [this, h1]
theorem bitR_err {bs : Bits} {i e : Nat} (h : bitR (bs.drop i) = .error e) : e = 1 ∧ bs.length ≤ i := by
  cases q : bs.drop i with
  | nil =>
    rw [q] at h
    have h : (Except.error 1 : Except Wrong (Bool × Bits)) = .error e := h
    have hl := congrArg List.length q
    rw [List.length_drop, List.length_nil] at hl
    exact ⟨(Except.error.inj h).symm, by omega⟩
  | cons y r =>
    rw [q] at h
    cases h
theorem bitR_at {bs : Bits} {i : Nat} (h : i < bs.length) : bitR (bs.drop i) = .ok (bs[i], bs.drop (i + 1)) := by
  rw [List.drop_eq_getElem_cons h]
  rfl
theorem digitsR_long {bs : Bits} {i h c : Nat} (hc : i + c ≤ bs.length) : digitsR h c (bs.drop i) = .ok (digitsFrom h ((bs.drop i).take c), bs.drop (i + c)) := by
  unfold digitsR
  rw [if_neg (by rw [List.length_drop]; omega), List.drop_drop]
theorem digitsR_short {bs : Bits} {i h c : Nat} (hc : bs.length < i + c) (hi : i ≤ bs.length) : digitsR h c (bs.drop i) = .error 1 := by
  unfold digitsR
  rw [if_pos (by rw [List.length_drop]; omega)]
/-- numbers in front -/
theorem readGamma_short {bs : Bits} {i z : Nat} (hz : ∀ j, j < z → bs[i + j]? = some false) (h41 : 41 ≤ z) : readGamma (bs.drop i) = .error 2 := by
  rw [readGamma_eq, if_pos]
  have : ∀ (z : Nat) (b : Bits), (∀ j, j < z → b[j]? = some false) → z ≤ lead b := by
    intro z
    induction z with
    | zero => intro b _; omega
    | succ z ih =>
      intro b hb
      cases b with
      | nil => have := hb 0 (by omega); cases this
      | cons x b =>
        have h0 : x = false := Option.some.inj (hb 0 (by omega))
        subst h0
        rw [lead_cons_false]
        have := ih b (fun j hj => by have := hb (j + 1) (by omega); simpa using this)
        omega
  have := this z (bs.drop i) (fun j hj => by rw [List.getElem?_drop]; exact hz j hj)
  omega
theorem lead_at : ∀ (z : Nat) (b : Bits), (∀ j, j < z → b[j]? = some false) → b[z]? = some true → lead b = z := by
  intro z
  induction z with
  | zero =>
    intro b _ h
    cases b with
    | nil => cases h
    | cons x b =>
      obtain rfl : x = true := Option.some.inj h
      rfl
  | succ z ih =>
    intro b hb h
    cases b with
    | nil => cases h
    | cons x b =>
      obtain rfl : x = false := Option.some.inj (hb 0 (by omega))
      rw [lead_cons_false, ih b (fun j hj => by have := hb (j + 1) (by omega); simpa using this) (by simpa using h)]
theorem lead_all : ∀ (b : Bits), (∀ j, j < b.length → b[j]? = some false) → lead b = b.length := by
  intro b
  induction b with
  | nil => intro _; rfl
  | cons x b ih =>
    intro hb
    obtain rfl : x = false := Option.some.inj (hb 0 (by simp))
    rw [lead_cons_false, ih (fun j hj => by have := hb (j + 1) (by simp; omega); simpa using this)]
    rfl
/-- the bits end within the zeros -/
theorem readGamma_end {bs : Bits} {i z : Nat} (hz : ∀ j, j < z → bs[i + j]? = some false) (hl : bs.length ≤ i + z) (hi : i ≤ bs.length) (h41 : z ≤ 40) : readGamma (bs.drop i) = .error 1 := by
  have h1 : lead (bs.drop i) = (bs.drop i).length := lead_all _ (fun j hj => by
    rw [List.length_drop] at hj
    rw [List.getElem?_drop]
    exact hz j (by omega))
  have h2 : (bs.drop i).length ≤ 40 := by rw [List.length_drop]; omega
  rw [readGamma_eq, if_neg (by omega), if_pos h1]
/-- the bits behind the zeros -/
theorem readGamma_at {bs : Bits} {i z : Nat} (hz : ∀ j, j < z → bs[i + j]? = some false) (h1 : bs[i + z]? = some true) (h41 : z ≤ 40) : readGamma (bs.drop i) = digitsR 1 z (bs.drop (i + z + 1)) := by
  have hl : lead (bs.drop i) = z := lead_at z _ (fun j hj => by rw [List.getElem?_drop]; exact hz j hj) (by rw [List.getElem?_drop]; exact h1)
  have hlt : i + z < bs.length := (List.getElem?_eq_some_iff.mp h1).1
  rw [readGamma_eq, hl, if_neg (by omega), if_neg (by rw [List.length_drop]; omega)]
  unfold digitsR
  by_cases h : bs.length < i + z + 1 + z
  · rw [if_pos (by rw [List.length_drop]; omega), if_pos (by rw [List.length_drop]; omega)]
  · rw [if_neg (by rw [List.length_drop]; omega), if_neg (by rw [List.length_drop]; omega), List.drop_drop, List.drop_drop, List.drop_drop]
    have e : bs.drop (i + z) = true :: bs.drop (i + z + 1) := by
      rw [List.drop_eq_getElem_cons hlt]
      have := List.getElem?_eq_getElem hlt
      rw [h1] at this
      rw [← Option.some.inj this]
    rw [e, List.take_succ_cons]
    rw [show i + (z + (z + 1)) = i + z + 1 + z by omega]
    rfl
theorem digitsFrom_ge (b : Bits) : ∀ h : Nat, h ≤ digitsFrom h b := by
  induction b with
  | nil => intro h; exact Nat.le_refl _
  | cons x b ih =>
    intro h
    have := ih (2 * h + (if x = true then 1 else 0))
    show h ≤ digitsFrom (2 * h + (if x = true then 1 else 0)) b
    omega
/-- what is read this way is 1 or more -/
theorem readGamma_pos {b r : Bits} {n : Nat} (h : readGamma b = .ok (n, r)) : 1 ≤ n := by
  rw [readGamma_eq] at h
  split at h
  · cases h
  · split at h
    · cases h
    · rename_i h2
      split at h
      · cases h
      · obtain ⟨h1, _⟩ := Prod.mk.inj (Except.ok.inj h)
        subst h1
        have : ∀ b : Bits, lead b ≠ b.length → ∃ r, b.drop (lead b) = true :: r := by
          intro b
          induction b with
          | nil => intro h; exact absurd rfl h
          | cons x b ih =>
            intro h
            cases x with
            | true => exact ⟨b, rfl⟩
            | false =>
              rw [lead_cons_false, List.length_cons] at h
              obtain ⟨r, hr⟩ := ih (by omega)
              exact ⟨r, by rw [lead_cons_false, List.drop_succ_cons]; exact hr⟩
        obtain ⟨r, hr⟩ := this b h2
        rw [hr, List.take_succ_cons]
        exact digitsFrom_ge _ 1
/-! ### many -/
def many {α : Type} (p : R α) : Nat → R (List α)
  | 0 => give []
  | k + 1 => do
    let v ← p
    let l ← many p k
    return v :: l
def pre {α : Type} (acc : List α) : Except Wrong (List α × Bits) → Except Wrong (List α × Bits)
  | .error e => .error e
  | .ok (l, r) => .ok (acc ++ l, r)
theorem many_step {α : Type} (p : R α) (k : Nat) (b : Bits) : many p (k + 1) b = (match p b with
    | .error e => .error e
    | .ok (v, r) => pre [v] (many p k r)) := by
  show (p >>= fun v => many p k >>= fun l => pure (v :: l)) b = _
  rw [bindR]
  cases p b with
  | error e => rfl
  | ok x =>
    obtain ⟨v, r⟩ := x
    show (many p k >>= fun l => pure (v :: l)) r = pre [v] (many p k r)
    rw [bindR]
    cases many p k r with
    | error e => rfl
    | ok y => rfl
theorem pre_pre {α : Type} (a b : List α) (x : Except Wrong (List α × Bits)) : pre a (pre b x) = pre (a ++ b) x := by
  cases x with
  | error e => rfl
  | ok y => show Except.ok (a ++ (b ++ y.1), y.2) = Except.ok (a ++ b ++ y.1, y.2); rw [List.append_assoc]
theorem pre_nil {α : Type} (x : Except Wrong (List α × Bits)) : pre [] x = x := by
  cases x with
  | error e => rfl
  | ok y => rfl
theorem readMany_many (w : Nat) : ∀ k, readMany k w = many (number w) k
  | 0 => rfl
  | k + 1 => by
    unfold readMany many
    rw [readMany_many w k]
theorem readZigs_many : ∀ k, readZigs k = many readZig k
  | 0 => rfl
  | k + 1 => by
    unfold readZigs many
    rw [readZigs_many k]
theorem many_map {α β : Type} (p : R α) (f : α → β) : ∀ (k : Nat) (b : Bits), many (p >>= fun v => pure (f v)) k b = (many p k >>= fun l => pure (l.map f)) b
  | 0, b => rfl
  | k + 1, b => by
    rw [many_step, bindR p, bindR (many p (k + 1)), many_step]
    cases p b with
    | error e => rfl
    | ok x =>
      obtain ⟨v, r⟩ := x
      show pre [f v] (many (p >>= fun v => pure (f v)) k r) = _
      rw [many_map p f k r, bindR]
      dsimp only
      cases many p k r with
      | error e => rfl
      | ok y => rfl
theorem many_bit : ∀ (n : Nat) (b : Bits), many bitR n b = Vbemaz.take n b
  | 0, b => by
    rw [take_long (Nat.zero_le _)]
    rfl
  | n + 1, [] => by
    rw [take_short (by simp)]
    rfl
  | n + 1, x :: b => by
    rw [many_step]
    show pre [x] (many bitR n b) = _
    rw [many_bit n b]
    by_cases h : b.length < n
    · rw [take_short h, take_short (by simp; omega)]
      rfl
    · rw [take_long (by omega), take_long (by simp; omega)]
      rfl
/-! ### the four codes, ahead of the look at their range -/
def foldR (w : Nat) : R Int := number w >>= fun n => pure (unzigzag n)
def plainR (m : Nat) : R (List Int) := number 5 >>= fun w => many (foldR w) m
def stepR (m : Nat) : R (List Int) := readZig >>= fun a => number 6 >>= fun w => many (foldR w) (m - 1) >>= fun l => pure (sums a l)
def bendR (m : Nat) : R (List Int) := readZig >>= fun a => many readZig (m - 1) >>= fun l => pure (sums a ((sums 0 l).drop 1))
def runR (m : Nat) : R (List Int) := readRuns m m
def rawR (c m : Nat) : R (List Int) := if c = 0 then plainR m else if c = 1 then stepR m else if c = 2 then bendR m else runR m
theorem bind_assocR {α β γ : Type} (p : R α) (f : α → R β) (g : β → R γ) (b : Bits) : ((p >>= f) >>= g) b = (p >>= fun a => f a >>= g) b := by
  rw [bindR, bindR, bindR]
  cases p b with
  | error e => rfl
  | ok x =>
    obtain ⟨v, r⟩ := x
    show (match f v r with
      | .error e => .error e
      | .ok (a, r) => g a r) = (f v >>= g) r
    exact (bindR (f v) g r).symm
theorem bind_congrR {α β : Type} {p : R α} {f g : α → R β} {b : Bits} (h : ∀ v r, p b = .ok (v, r) → f v r = g v r) : (p >>= f) b = (p >>= g) b := by
  rw [bindR, bindR]
  cases e : p b with
  | error e => rfl
  | ok x =>
    obtain ⟨v, r⟩ := x
    exact h v r e
theorem pure_bindR {α β : Type} (a : α) (f : α → R β) (b : Bits) : ((pure a : R α) >>= f) b = f a b := by rw [bindR, pureR]
theorem sums_zero (d : Int) (l : List Int) : (sums 0 (d :: l)).drop 1 = sums d l := by
  show sums (0 + d) l = _
  rw [Int.zero_add]
theorem readCode_raw (c : Nat) {m : Nat} (hm : 0 < m) (b : Bits) : readCode c m b = (rawR c m >>= allIn) b := by
  unfold readCode rawR
  by_cases h0 : c = 0
  · rw [if_pos h0, if_pos h0]
    unfold plainR
    rw [bind_assocR]
    refine bind_congrR fun w r _ => ?_
    rw [readMany_many, bindR (many (foldR w) m)]
    unfold foldR
    rw [many_map, bindR, bindR]
    cases many (number w) m r with
    | error e => rfl
    | ok y => rfl
  · rw [if_neg h0, if_neg h0]
    by_cases h1 : c = 1
    · rw [if_pos h1, if_pos h1]
      unfold stepR
      rw [bind_assocR]
      refine bind_congrR fun a r _ => ?_
      rw [bind_assocR]
      refine bind_congrR fun w r _ => ?_
      rw [bind_assocR, readMany_many, bindR (many (foldR w) (m - 1))]
      unfold foldR
      rw [many_map, bindR, bindR]
      cases many (number w) (m - 1) r with
      | error e => rfl
      | ok y => rfl
    · rw [if_neg h1, if_neg h1]
      by_cases h2 : c = 2
      · rw [if_pos h2, if_pos h2]
        unfold bendR
        rw [bind_assocR]
        refine bind_congrR fun a r _ => ?_
        rw [bind_assocR]
        by_cases h3 : m = 1
        · rw [if_pos h3, h3]
          rfl
        · rw [if_neg h3, show m - 1 = (m - 2) + 1 by omega, bindR (many readZig (m - 2 + 1)), many_step, bindR]
          cases readZig r with
          | error e => rfl
          | ok x =>
            obtain ⟨d, r⟩ := x
            dsimp only
            rw [readZigs_many, bindR]
            cases many readZig (m - 2) r with
            | error e => rfl
            | ok y =>
              obtain ⟨l, r⟩ := y
              show allIn (sums a (sums d l)) r = ((pure (sums a ((sums 0 (d :: l)).drop 1)) : R (List Int)) >>= allIn) r
              rw [pure_bindR, sums_zero]
      · rw [if_neg h2, if_neg h2]
        rfl
/-! ### runs -/
theorem readRuns_zero : ∀ (k : Nat) (b : Bits), readRuns k 0 b = .ok ([], b)
  | 0, b => rfl
  | k + 1, b => rfl
theorem readRuns_step (k : Nat) {m : Nat} (hm : 0 < m) (b : Bits) : readRuns (k + 1) m b = (match readZig b with
    | .error e => .error e
    | .ok (v, r) => match readGamma r with
      | .error e => .error e
      | .ok (n, r) => if m < n then .error 2 else pre (List.replicate n v) (readRuns k (m - n) r)) := by
  have e : readRuns (k + 1) m = (readZig >>= fun v => readGamma >>= fun n => readRuns k (m - n) >>= fun l => if m < n then (fun _ => Except.error 2) else pure (List.replicate n v ++ l)) := by
    conv => lhs; unfold readRuns
    rw [if_neg (by omega)]
  rw [e, bindR]
  cases readZig b with
  | error e => rfl
  | ok x =>
    obtain ⟨v, r⟩ := x
    show (readGamma >>= fun n => readRuns k (m - n) >>= fun l => if m < n then (fun _ => Except.error 2) else pure (List.replicate n v ++ l)) r = _
    rw [bindR]
    dsimp only
    cases readGamma r with
    | error e => rfl
    | ok y =>
      obtain ⟨n, r⟩ := y
      show (readRuns k (m - n) >>= fun l => if m < n then (fun _ => Except.error 2) else pure (List.replicate n v ++ l)) r = if m < n then .error 2 else pre (List.replicate n v) (readRuns k (m - n) r)
      rw [bindR]
      by_cases h : m < n
      · rw [if_pos h, show m - n = 0 by omega, readRuns_zero]
        show (if m < n then (fun _ => Except.error 2) else pure (List.replicate n v ++ ([] : List Int)) : R (List Int)) r = _
        rw [if_pos h]
      · rw [if_neg h]
        cases readRuns k (m - n) r with
        | error e => rfl
        | ok z =>
          obtain ⟨l, r⟩ := z
          show (if m < n then (fun _ => Except.error 2) else pure (List.replicate n v ++ l) : R (List Int)) r = _
          rw [if_neg h]
          rfl
/-! ### a block -/
def readingsR (m : Nat) : R (List Int) := if m = 0 then give [] else number 2 >>= fun c => rawR c m >>= allIn
def marksR : R (List Bool) := number 4 >>= fun n => bitR >>= fun g => if g = false then give (List.replicate (n + 1) true) else many bitR (n + 1)
def ones (l : List Bool) : Nat := (l.filter fun x => x).length
def valuesR : R (List Val) := marksR >>= fun m => readingsR (ones m) >>= fun l => pure (placed m l)
theorem placed_false : ∀ (m : List Bool), ones m = 0 → ∀ l, placed m l = m.map fun _ => none
  | [], _, _ => rfl
  | true :: m, h, l => by
    unfold ones at h
    rw [List.filter_cons, if_pos rfl] at h
    cases h
  | false :: m, h, l => by
    show none :: placed m l = _
    rw [placed_false m (by unfold ones at h ⊢; rwa [List.filter_cons, if_neg (by decide)] at h) l]
    rfl
theorem take_one (b : Bits) : Vbemaz.take 1 b = (match bitR b with
    | .error e => .error e
    | .ok (g, r) => .ok ([g], r)) := by
  cases b with
  | nil => rfl
  | cons x r =>
    rw [take_long (by simp)]
    rfl
theorem readBlock_values (b : Bits) : readBlock b = valuesR b := by
  unfold readBlock valuesR marksR
  rw [bind_assocR]
  refine bind_congrR fun n r _ => ?_
  rw [bindR, take_one, bind_assocR, bindR]
  cases bitR r with
  | error e => rfl
  | ok x =>
    obtain ⟨g, r⟩ := x
    simp only
    rw [bindR, bindR]
    have e : (if ([g] : Bits) = [true] then Vbemaz.take (n + 1) else give (List.replicate (n + 1) true)) r = (if g = false then give (List.replicate (n + 1) true) else many bitR (n + 1)) r := by
      cases g with
      | true =>
        rw [if_pos rfl, if_neg (by decide), many_bit]
      | false => rw [if_neg (by decide), if_pos rfl]
    rw [e]
    cases (if g = false then give (List.replicate (n + 1) true) else many bitR (n + 1)) r with
    | error e => rfl
    | ok y =>
      obtain ⟨mask, r⟩ := y
      simp only
      unfold readingsR
      by_cases h : ones mask = 0
      · have h' : (mask.filter fun x => x).length = 0 := h
        rw [if_pos h', if_pos h]
        show _ = ((give [] : R (List Int)) >>= fun l => pure (placed mask l)) r
        rw [bindR, giveR]
        show _ = (pure (placed mask []) : R (List Val)) r
        rw [placed_false mask h]
      · have h' : ¬ (mask.filter fun x => x).length = 0 := h
        rw [if_neg h', if_neg h, bind_assocR]
        refine bind_congrR fun c r _ => ?_
        rw [bindR, readCode_raw c (m := (mask.filter fun x => x).length) (by omega), bindR (rawR c (ones mask) >>= allIn)]
        rfl
/-! ### pieces of the program -/
theorem sums_snoc (f d : Int) (l : List Int) : sums f (l ++ [d]) = sums f l ++ [(sums f l).getLastD 0 + d] := by
  induction l generalizing f with
  | nil => rfl
  | cons x l ih =>
    show f :: sums (f + x) (l ++ [d]) = f :: (sums (f + x) l ++ [(f :: sums (f + x) l).getLastD 0 + d])
    rw [ih]
    congr 3
    have : ∀ (g : Int) (l : List Int), sums g l ≠ [] := by
      intro g l
      cases l <;> simp [sums]
    cases h : sums (f + x) l with
    | nil => exact absurd h (this _ _)
    | cons y t => rfl
theorem sums_len (f : Int) (l : List Int) : (sums f l).length = l.length + 1 := by
  induction l generalizing f with
  | nil => rfl
  | cons x l ih => show (sums (f + x) l).length + 1 = _; rw [ih]; rfl
theorem sums_last (f : Int) (l : List Int) : (sums f l)[l.length]? = some ((sums f l).getLastD 0) := by
  have e : l.length = (sums f l).length - 1 := by rw [sums_len]; omega
  rw [e, ← List.getLast?_eq_getElem?, List.getLastD_eq_getLast?]
  cases h : (sums f l).getLast? with
  | none =>
    rw [List.getLast?_eq_none_iff] at h
    have := sums_len f l
    rw [h] at this
    cases this
  | some x => rfl
theorem ones_snoc (m : List Bool) (x : Bool) : ones (m ++ [x]) = ones m + (if x = true then 1 else 0) := by
  unfold ones
  rw [List.filter_append, List.length_append]
  cases x <;> rfl
theorem ones_le (m : List Bool) : ones m ≤ m.length := List.length_filter_le _ _
theorem ones_sum (m : List Bool) : (m.map bit).sum = ((ones m : Nat) : Int) := by
  induction m with
  | nil => rfl
  | cons x m ih =>
    rw [List.map_cons, List.sum_cons, ih]
    unfold ones
    cases x with
    | true => rw [List.filter_cons, if_pos rfl, List.length_cons]; show (1 : Int) + _ = _; omega
    | false => rw [List.filter_cons, if_neg (by decide)]; show (0 : Int) + _ = _; omega
theorem placed_snoc (m : List Bool) (x : Bool) (l : List Int) : placed (m ++ [x]) l = placed m l ++ [if x = true then l[ones m]? else none] := by
  induction m generalizing l with
  | nil =>
    cases x with
    | true => cases l <;> rfl
    | false => rfl
  | cons y m ih =>
    cases y with
    | true =>
      have e : ones (true :: m) = ones m + 1 := rfl
      cases l with
      | nil =>
        show none :: placed (m ++ [x]) [] = none :: (placed m [] ++ _)
        rw [ih, e]
        simp
      | cons v l =>
        show some v :: placed (m ++ [x]) l = some v :: (placed m l ++ _)
        rw [ih, e]
        simp
    | false =>
      have e : ones (false :: m) = ones m := rfl
      show none :: placed (m ++ [x]) l = none :: (placed m l ++ _)
      rw [ih, e]
end PR
set_option maxRecDepth 100000
namespace PR
open Vbemaz
/-! ### what may be wrong while bits are read -/
def Errs {α : Type} (p : R α) : Prop := ∀ b e, p b = .error e → e = 1 ∨ e = 2
theorem errs_bind {α β : Type} {p : R α} {f : α → R β} (hp : Errs p) (hf : ∀ a, Errs (f a)) : Errs (p >>= f) := by
  intro b e h
  rw [bindR] at h
  cases q : p b with
  | error z =>
    rw [q] at h
    have h : (Except.error z : Except Wrong (β × Bits)) = .error e := h
    rw [← Except.error.inj h]
    exact hp b z q
  | ok y =>
    obtain ⟨a, r⟩ := y
    rw [q] at h
    exact hf a r e h
theorem errs_pure {α : Type} {a : α} : Errs (pure a : R α) := fun b e h => by rw [pureR] at h; cases h
theorem errs_give {α : Type} {a : α} : Errs (give a) := fun b e h => by rw [giveR] at h; cases h
theorem errs_bit : Errs bitR := by
  intro b e h
  cases b with
  | nil => exact .inl (Except.error.inj h).symm
  | cons x r => cases h
theorem errs_digits (h c : Nat) : Errs (digitsR h c) := by
  intro b e q
  unfold digitsR at q
  split at q
  · exact .inl (Except.error.inj q).symm
  · cases q
theorem errs_number (c : Nat) : Errs (number c) := by rw [number_digits]; exact errs_digits 0 c
theorem errs_gamma : Errs readGamma := by
  intro b e q
  rw [readGamma_eq] at q
  split at q
  · exact .inr (Except.error.inj q).symm
  · split at q
    · exact .inl (Except.error.inj q).symm
    · split at q
      · exact .inl (Except.error.inj q).symm
      · cases q
theorem errs_zig : Errs readZig := errs_bind errs_gamma fun n => errs_pure
theorem errs_many {α : Type} {p : R α} (h : Errs p) : ∀ n, Errs (many p n)
  | 0 => errs_give
  | n + 1 => errs_bind h fun v => errs_bind (errs_many h n) fun l => errs_pure
theorem errs_allIn (l : List Int) : Errs (allIn l) := by
  intro b e q
  rw [allIn_eq] at q
  split at q
  · cases q
  · exact .inr (Except.error.inj q).symm
theorem errs_fold (w : Nat) : Errs (foldR w) := errs_bind (errs_number w) fun n => errs_pure
theorem errs_runs : ∀ (k m : Nat), Errs (readRuns k m)
  | 0, m => errs_give
  | k + 1, m => by
    unfold readRuns
    split
    · exact errs_give
    · refine errs_bind errs_zig fun v => errs_bind errs_gamma fun n => errs_bind (errs_runs k (m - n)) fun l => ?_
      split
      · intro b e q
        exact .inr (Except.error.inj q).symm
      · exact errs_pure
theorem errs_raw (c m : Nat) : Errs (rawR c m) := by
  unfold rawR
  split
  · exact errs_bind (errs_number 5) fun w => errs_many (errs_fold w) m
  · split
    · exact errs_bind errs_zig fun a => errs_bind (errs_number 6) fun w => errs_bind (errs_many (errs_fold w) _) fun l => errs_pure
    · split
      · exact errs_bind errs_zig fun a => errs_bind (errs_many errs_zig _) fun l => errs_pure
      · exact errs_runs m m
theorem errs_values : Errs valuesR := by
  refine errs_bind (errs_bind (errs_number 4) fun n => errs_bind errs_bit fun g => ?_) fun m => errs_bind ?_ fun l => errs_pure
  · split
    · exact errs_give
    · exact errs_many errs_bit _
  · unfold readingsR
    split
    · exact errs_give
    · exact errs_bind (errs_number 2) fun c => errs_bind (errs_raw c _) errs_allIn
theorem unpack_is (b : List Nat) : unpack b = (match valuesR (toBits b) with
    | .error e => .error e
    | .ok (l, r) => if (decide (8 ≤ r.length) || r.any fun x => x) = true then .error 3 else if pack l = b then .ok l else .error 4) := by
  unfold unpack
  rw [readBlock_values]
  cases valuesR (toBits b) with
  | error e => rfl
  | ok y => rfl
theorem values_ok {b r : Bits} {l : List Val} (h : valuesR b = .ok (l, r)) : 1 ≤ l.length ∧ l.length ≤ 16 ∧ ∀ x, some x ∈ l → x.natAbs ≤ 1000000000 := outs_readBlock b l r (by rw [readBlock_values]; exact h)
end PR
set_option Elab.async false
set_option linter.all false
set_option maxRecDepth 100000
set_option maxHeartbeats 4000000
namespace PR
open PySem PySem.Spec PyProof.Rows L2 Evl
/-! ### bitform -/
def spFolded : Sp := fun vs H Q _ => ∃ n : Int, vs = [.int n] ∧ RetV (.int (Vbemaz.zigzag n : Nat)) H Q
def spWidth : Sp := fun vs H Q _ => ∃ n : Nat, vs = [.int n] ∧ n < 2 ^ 64 ∧ RetV (.int (Vbemaz.digits n : Nat)) H Q
def spInBits : Sp := fun vs H Q _ => ∃ n w : Nat, vs = [.int n, .int w] ∧ w ≤ 1000 ∧ RetL ((Vbemaz.fixed w n).map bV) H Q
def spSelfEnding : Sp := fun vs H Q _ => ∃ n : Nat, vs = [.int n] ∧ n < 2 ^ 64 ∧ 0 < n ∧ RetL ((Vbemaz.gamma n).map bV) H Q
def spFse : Sp := fun vs H Q _ => ∃ n : Int, vs = [.int n] ∧ n.natAbs < 2 ^ 60 ∧ RetL ((Vbemaz.gammaOf n).map bV) H Q
def spByteAt (K : PySem.W.Frag) : Sp := fun vs H Q _ => ∃ (a : Addr) (b : Vbemaz.Bits) (s : Nat), vs = [.ref a, .int s] ∧ SqL K H a (b.map bV) ∧ s ≤ 50000 ∧ RetV (.int (byteAt b s : Nat)) H Q
def spAsBytes (K : PySem.W.Frag) : Sp := fun vs H Q _ => ∃ (a : Addr) (b : Vbemaz.Bits), vs = [.ref a] ∧ SqL K H a (b.map bV) ∧ b.length ≤ 40000 ∧ RetL ((Vbemaz.toBytes b).map fun n => V.int (n : Nat)) H Q
/-- the promises as rules of a call -/
theorem sv_folded {H : Hp} {n : Int} : SpV spFolded [.int n] H (.int (Vbemaz.zigzag n : Nat)) := fun H1 _ _ q _ => ⟨n, rfl, q⟩
theorem sv_width {H : Hp} {n : Nat} (h : n < 2 ^ 64) : SpV spWidth [.int n] H (.int (Vbemaz.digits n : Nat)) := fun H1 _ _ q _ => ⟨n, rfl, h, q⟩
theorem sl_inBits {H : Hp} {n w : Nat} (h : w ≤ 1000) : SpL spInBits [.int n, .int w] H ((Vbemaz.fixed w n).map bV) := fun H1 _ _ q _ => ⟨n, w, rfl, h, q⟩
theorem sl_selfEnding {H : Hp} {n : Nat} (h : n < 2 ^ 64) (h0 : 0 < n) : SpL spSelfEnding [.int n] H ((Vbemaz.gamma n).map bV) := fun H1 _ _ q _ => ⟨n, rfl, h, h0, q⟩
theorem sl_fse {H : Hp} {n : Int} (h : n.natAbs < 2 ^ 60) : SpL spFse [.int n] H ((Vbemaz.gammaOf n).map bV) := fun H1 _ _ q _ => ⟨n, rfl, h, q⟩
theorem sv_byteAt {K : PySem.W.Frag} {H : Hp} {a : Addr} {b : Vbemaz.Bits} {s : Nat} (h : SqL K H a (b.map bV)) (hs : s ≤ 50000) : SpV (spByteAt K) [.ref a, .int s] H (.int (byteAt b s : Nat)) := fun H1 e _ q _ => ⟨a, b, s, rfl, ex_l e h, hs, q⟩
theorem sl_asBytes {K : PySem.W.Frag} {H : Hp} {a : Addr} {b : Vbemaz.Bits} (h : SqL K H a (b.map bV)) (hs : b.length ≤ 40000) : SpL (spAsBytes K) [.ref a] H ((Vbemaz.toBytes b).map fun n => V.int (n : Nat)) := fun H1 e _ q _ => ⟨a, b, rfl, ex_l e h, hs, q⟩
section
variable {P : Program} {w : World} {K : PySem.W.Frag} {mg : Str → Option Value} {base : Heap}
theorem ok_folded (T : Top K w mg) : Def P w K mg base "folded" 1 ["number"] spFolded := by
  obtain ⟨fd, F⟩ := T.f_folded
  refine ⟨fd, F.ok sc_folded (fun vs H Q E h => by obtain ⟨_, rfl, _⟩ := h; rfl) (fun cdv A outer s H vs Q E hr h => ⟨_, PSs.nox (pss_cons (ps_if (pt_cmpR op_ge (pv 0) pe_int (nomark _)) (pss_one (ps_ret (pe_op op_mul pe_int (pv 0)))) pss_nil)
      (pss_one (ps_ret (pe_op op_sub (pe_op op_mul (pe_un un_neg pe_int) (pv 0)) pe_int)))), ?_⟩), F.bindsN (fun _ _ _ _ _ _ us hl => match us, hl with | [_], _ => rfl), F.kp, T.g_folded⟩
  obtain ⟨n, rfl, hQ⟩ := h
  refine q_when (b := decide (0 ≤ n)) (et_test (ev_op (ev_var rfl) ev_c rv_I0)) (fun hb H1 e1 => ?_) (fun hb H1 e1 => ?_)
  · refine s_ret (ev_op ev_c (ev_var rfl) (rv_I (Or.inl ⟨by decide, by decide⟩))) fun H2 e2 => ?_
    have h0 : 0 ≤ n := of_decide_eq_true hb
    have e : ((Vbemaz.zigzag n : Nat) : Int) = 2 * n := by rw [zig_int, if_neg (by omega)]
    rw [← e]
    exact hQ.go (e1.trans e2)
  · refine s_ret (ev_op (ev_op (ev_un ev_c ru_neg) (ev_var rfl) (rv_I (Or.inl ⟨by decide, by decide⟩))) ev_c rv_I0) fun H2 e2 => ?_
    have h0 : ¬ 0 ≤ n := of_decide_eq_false hb
    have e : ((Vbemaz.zigzag n : Nat) : Int) = -2 * n - 1 := by rw [zig_int, if_pos (by omega)]
    show Q (.int (-2 * n - 1)) H2
    rw [← e]
    exact hQ.go (e1.trans e2)
theorem intBits_digits {n : Nat} (h : n < 2 ^ 64) : Builtin.Int.intBits (n : Int) = Vbemaz.digits n := by
  rw [digits_log h]
  unfold Builtin.Int.intBits
  by_cases h0 : n = 0
  · rw [if_pos h0, h0]; rfl
  · rw [if_neg h0, if_neg (by simpa using h0)]
    rfl
theorem ok_width (T : Top K w mg) : Def P w K mg base "width" 1 ["number"] spWidth := by
  obtain ⟨fd, F⟩ := T.f_width
  refine ⟨fd, F.ok sc_width (fun vs H Q E h => by obtain ⟨_, rfl, _⟩ := h; rfl) (fun cdv A outer s H vs Q E hr h => ⟨_, PSs.nox (pss_one (ps_ret (pe_bits (pv 0)))), ?_⟩), F.bindsN (fun _ _ _ _ _ _ us hl => match us, hl with | [_], _ => rfl), F.kp, T.g_width⟩
  obtain ⟨n, rfl, hn, hQ⟩ := h
  refine s_ret (ev_bits (ev_var rfl)) fun H1 e1 => ?_
  rw [intBits_digits hn]
  exact hQ.go e1
theorem ok_in_bits (T : Top K w mg) : Def P w K mg base "in_bits" 1 ["number", "count"] spInBits := by
  obtain ⟨fd, F⟩ := T.f_in_bits
  refine ⟨fd, F.ok sc_in_bits (fun vs H Q E h => by obtain ⟨_, _, rfl, _⟩ := h; rfl) (fun cdv A outer s H vs Q E hr h => ⟨_, PSs.nox (pss_one (ps_ret (pe_lc (own := [("k", 2)]) (g := gName 2) rfl sc_in_bits.nd (pi_range1 rfl T.b_range (pa_cons (pv 1) pa_nil)) (blkOk_by (own := [("k", 2)]) (N := N_in_bits) (sc := defScope st_in_bits) (by decide +kernel)) (fun _ _ _ _ _ => pg_name (i := 2) sc_in_bits.nd rfl (Or.inl rfl)) (fun _ _ _ _ _ => pts_nil) (fun _ _ _ _ _ => (pe_op op_and (pe_op op_shr (pv 0) (pe_op op_sub (pe_op op_sub (pv 1) pe_int) (pv 2))) pe_int))))), ?_⟩), F.bindsN (fun _ _ _ _ _ _ us hl => match us, hl with | [_, _], _ => rfl), F.kp, T.g_in_bits⟩
  obtain ⟨n, w, rfl, hw, hQ⟩ := h
  refine s_retL (el_is (el_lcR1 (fun _ => true) (fun i => bV ((n / 2 ^ (w - 1 - i)) % 2 == 1)) (ea_cons (ev_var rfl) ea_nil) (by omega) (fun _ => rfl) (fun i H1 e1 hi => et_yes) (fun i H1 e1 hi _ => ?_)) (ys := (Vbemaz.fixed w n).map bV) ?_) fun p H1 hp e1 h1 => hQ p H1 hp e1 h1
  · refine ev_is (ev_op (ev_op (ev_var rfl) (ev_op (ev_op (ev_var rfl) ev_c rv_I0) (ev_var rfl) rv_I0) (rv_I (show (0 : Int) ≤ (w : Int) - 1 - (i : Int) by omega))) ev_c rv_I0) ?_
    have e : ((w : Int) - 1 - (i : Int)).toNat = w - 1 - i := by omega
    rw [e, bitAnd_m1]
    show V.int _ = V.int _
    congr 1
    have e2 : ((n : Int) / 2 ^ (w - 1 - i)) = ((n / 2 ^ (w - 1 - i) : Nat) : Int) := by
      rw [Int.natCast_ediv, Int.natCast_pow]; rfl
    rw [e2]
    unfold Vbemaz.bit
    have := Nat.mod_two_eq_zero_or_one (n / 2 ^ (w - 1 - i))
    rcases this with z | z <;> rw [z] <;> simp <;> omega
  · rw [given_all, fixed_range, List.map_map]
    rfl
theorem ok_self_ending (T : Top K w mg) : Def P w K mg base "self_ending" 2 ["number"] spSelfEnding := by
  obtain ⟨fd_width, G_width, b_width, k_width, g_width⟩ := ok_width (P := P) (w := w) (base := base) T
  obtain ⟨fd_in_bits, G_in_bits, b_in_bits, k_in_bits, g_in_bits⟩ := ok_in_bits (P := P) (w := w) (base := base) T
  obtain ⟨fd, F⟩ := T.f_self_ending
  refine ⟨fd, F.ok sc_self_ending (fun vs H Q E h => by obtain ⟨_, rfl, _⟩ := h; rfl) (fun cdv A outer s H vs Q E hr h => ⟨_, PSs.nox (pss_cons (ps_set (i := 1) sc_self_ending.nd rfl (Or.inl rfl) (pe_call G_width (hr.mono (by decide)) rfl g_width k_width b_width .nil pass0 (pa_cons (pv 0) pa_nil)))
      (pss_one (ps_ret (pe_op op_cat (pe_op op_rep (pe_lst (pa_cons pe_int pa_nil)) (pe_op op_sub (pv 1) pe_int)) (pe_call G_in_bits (hr.mono (by decide)) rfl g_in_bits k_in_bits b_in_bits .nil pass0 (pa_cons (pv 0) (pa_cons (pv 1) pa_nil))))))), ?_⟩), F.bindsN (fun _ _ _ _ _ _ us hl => match us, hl with | [_], _ => rfl), F.kp, T.g_self_ending⟩
  obtain ⟨n, rfl, hn, h0, hQ⟩ := h
  have hd := digits_pos hn h0
  have hd2 := digits_le hn hn
  refine q_asg (ev_call (ea_cons (ev_var rfl) ea_nil) (sv_width hn)) fun H1 e1 => ?_
  refine s_retL (el_is (el_cat (el_rep (k := ((Vbemaz.digits n : Nat) : Int) - 1) (el_lst (ea_cons ev_c ea_nil) (by decide)) (ev_op (ev_var rfl) ev_c rv_I0) (by omega) (by omega) ?_) (el_call (ea_cons (ev_var rfl) (ea_cons (ev_var rfl) ea_nil)) (sl_inBits (by omega))) ?_) (ys := (Vbemaz.gamma n).map bV) ?_) fun p H2 hp e2 h2 => hQ.go e1 hp e2 h2
  · simp only [List.length_singleton]
    omega
  · simp [List.length_flatten, fixed_len]
    omega
  · unfold Vbemaz.gamma
    rw [List.map_append]
    congr 1
    have e : (((Vbemaz.digits n : Nat) : Int) - 1).toNat = Vbemaz.digits n - 1 := by omega
    rw [e, List.map_replicate]
    generalize Vbemaz.digits n - 1 = k
    induction k with
    | zero => rfl
    | succ k ih => rw [List.replicate_succ, List.flatten_cons, ih, List.replicate_succ]; rfl
theorem ok_folded_self_ending (T : Top K w mg) : Def P w K mg base "folded_self_ending" 3 ["number"] spFse := by
  obtain ⟨fd_self_ending, G_self_ending, b_self_ending, k_self_ending, g_self_ending⟩ := ok_self_ending (P := P) (w := w) (base := base) T
  obtain ⟨fd_folded, G_folded, b_folded, k_folded, g_folded⟩ := ok_folded (P := P) (w := w) (base := base) T
  obtain ⟨fd, F⟩ := T.f_folded_self_ending
  refine ⟨fd, F.ok sc_folded_self_ending (fun vs H Q E h => by obtain ⟨_, rfl, _⟩ := h; rfl) (fun cdv A outer s H vs Q E hr h => ⟨_, PSs.nox (pss_one (ps_ret (pe_call G_self_ending (hr.mono (by decide)) rfl g_self_ending k_self_ending b_self_ending .nil pass0 (pa_cons (pe_op op_add (pe_call G_folded (hr.mono (by decide)) rfl g_folded k_folded b_folded .nil pass0 (pa_cons (pv 0) pa_nil)) pe_int) pa_nil)))), ?_⟩), F.bindsN (fun _ _ _ _ _ _ us hl => match us, hl with | [_], _ => rfl), F.kp, T.g_folded_self_ending⟩
  obtain ⟨n, rfl, hn, hQ⟩ := h
  have hz := zig_le (v := n) (m := 2 ^ 60) (by omega)
  refine s_retL (el_call (ea_cons (ev_is (w := .int ((Vbemaz.zigzag n + 1 : Nat) : Int)) (ev_op (ev_call (ea_cons (ev_var rfl) ea_nil) sv_folded) ev_c rv_I0) rfl) ea_nil) (sl_selfEnding (by omega) (by omega))) fun p H1 hp e1 h1 => hQ p H1 hp e1 h1
theorem ok_byte_at (T : Top K w mg) : Def P w K mg base "byte_at" 1 ["bits", "start"] (spByteAt K) := by
  obtain ⟨fd, F⟩ := T.f_byte_at
  refine ⟨fd, F.ok sc_byte_at (fun vs H Q E h => by obtain ⟨_, _, _, rfl, _⟩ := h; rfl) (fun cdv A outer s H vs Q E hr h => ⟨_, PSs.nox (pss_cons (ps_set (i := 2) sc_byte_at.nd rfl (Or.inl rfl) pe_int)
      (pss_cons (ps_for PassesOwn.never rfl (pi_range2 rfl T.b_range (pa_cons (pv 1) (pa_cons (pe_op op_add (pv 1) pe_int) pa_nil))) (pg_name (i := 3) sc_byte_at.nd rfl (Or.inl rfl)) (pss_cons (ps_set (i := 2) sc_byte_at.nd rfl (Or.inl rfl) (pe_op op_mul pe_int (pv 2)))
      (pss_one (ps_if (pt_cmpR op_lt (pv 3) (pe_callB (call_lenK (K := K) rfl) (by rfl) T.b_len PySem.boot_len (pa_cons (pv 0) pa_nil)) (nomark _)) (pss_one (ps_set (i := 2) sc_byte_at.nd rfl (Or.inl rfl) (pe_op op_add (pv 2) (pe_ix (ix_listK (K := K) rfl) (pv 0) (pv 3) (fun _ _ => rfl))))) pss_nil))))
      (pss_one (ps_ret (pv 2))))), ?_⟩), F.bindsN (fun _ _ _ _ _ _ us hl => match us, hl with | [_, _], _ => rfl), F.kp, T.g_byte_at⟩
  obtain ⟨a, b, st, rfl, hS, hst, hQ⟩ := h
  refine q_asg ev_c fun H1 e1 => ?_
  refine q_forR2 (lo := (st : Int)) (n := (st : Int) + 8) (ea_cons (ev_var rfl) (ea_cons (ev_op (ev_var rfl) ev_c rv_I0) ea_nil)) (by omega)
    (fun i σ' H' => ∃ v, σ' = [some (.ref a), some (.int st), some (.int (Vbemaz.valueOf ((List.range i).map fun k => b.getD (st + k) false) : Nat)), v] ∧ Ex H H') (fun H2 e2 => ⟨none, rfl, e1.trans e2⟩) ?_ ?_
  · rintro i σ' H' hi ⟨v, rfl, e2⟩
    refine q_asg (ev_op ev_c (ev_var rfl) (rv_I (Or.inl ⟨by decide, by decide⟩))) fun H2 e3 => ?_
    have hS2 := ex_l (e2.trans e3) hS
    have key : ∀ x : Bool, b.getD (st + i) false = x → (2 * ((Vbemaz.valueOf ((List.range i).map fun k => b.getD (st + k) false) : Nat) : Int) + (if x = true then 1 else 0)) = ((Vbemaz.valueOf ((List.range (i + 1)).map fun k => b.getD (st + k) false) : Nat) : Int) := by
      intro x hx
      rw [List.range_succ, List.map_append, List.map_singleton, valueOf_snoc, hx]
      split <;> omega
    refine s_when (b := decide (((st : Int) + (i : Int)) < ((b.map bV).length : Int))) (et_test (ev_op (ev_var rfl) (ev_lenS (ea_cons (ev_var rfl) ea_nil) hS2) rv_I0)) (fun hb H3 e4 => ?_) (fun hb H3 e4 => ?_)
    · have hlt : st + i < b.length := by
        have := of_decide_eq_true hb
        rw [List.length_map] at this
        omega
      have hg : b[st + i]? = some b[st + i] := List.getElem?_eq_getElem hlt
      have ha : atI (b.map bV) ((st : Int) + (i : Int)) = some (bV b[st + i]) := at_of (j := st + i) (by omega) (by rw [List.getElem?_map, hg]; rfl)
      refine s_asg (ev_op (ev_var rfl) (ev_op (ev_var rfl) (ev_var rfl) (rv_ixL (ex_l e4 hS2) ha)) rv_I0) fun H4 e5 => ⟨some (.int ((st : Int) + (i : Int))), ?_, ((e2.trans e3).trans e4).trans e5⟩
      rw [← key b[st + i] (by rw [List.getD_eq_getElem?_getD, hg]; rfl)]
      rfl
    · have hlt : ¬ st + i < b.length := by
        have := of_decide_eq_false hb
        rw [List.length_map] at this
        omega
      refine ⟨some (.int ((st : Int) + (i : Int))), ?_, (e2.trans e3).trans e4⟩
      rw [← key false (by rw [List.getD_eq_getElem?_getD, List.getElem?_eq_none (by omega)]; rfl)]
      simp
  · rintro σ' H' ⟨v, rfl, e2⟩
    have e8 : ((st : Int) + 8 - (st : Int)).toNat = 8 := by omega
    rw [e8]
    refine s_ret (ev_var rfl) fun H2 e3 => hQ.go (e2.trans e3)
theorem ok_as_bytes (T : Top K w mg) : Def P w K mg base "as_bytes" 2 ["bits"] (spAsBytes K) := by
  obtain ⟨fd_byte_at, G_byte_at, b_byte_at, k_byte_at, g_byte_at⟩ := ok_byte_at (P := P) (w := w) (base := base) T
  obtain ⟨fd, F⟩ := T.f_as_bytes
  refine ⟨fd, F.ok sc_as_bytes (fun vs H Q E h => by obtain ⟨_, _, rfl, _⟩ := h; rfl) (fun cdv A outer s H vs Q E hr h => ⟨_, PSs.nox (pss_one (ps_ret (pe_lc (own := [("start", 1)]) (g := gName 1) rfl sc_as_bytes.nd (pi_range3 rfl T.b_range (pa_cons pe_int (pa_cons (pe_callB (call_lenK (K := K) rfl) (by rfl) T.b_len PySem.boot_len (pa_cons (pv 0) pa_nil)) (pa_cons pe_int pa_nil)))) (blkOk_by (own := [("start", 1)]) (N := N_as_bytes) (sc := defScope st_as_bytes) (by decide +kernel)) (fun _ _ _ _ _ => pg_name (i := 1) sc_as_bytes.nd rfl (Or.inl rfl)) (fun _ _ _ _ _ => pts_nil) (fun _ _ _ _ _ => (pe_call G_byte_at (hr.mono (by decide)) rfl g_byte_at k_byte_at b_byte_at .nil pass0 (pa_cons (pv 0) (pa_cons (pv 1) pa_nil))))))), ?_⟩), F.bindsN (fun _ _ _ _ _ _ us hl => match us, hl with | [_], _ => rfl), F.kp, T.g_as_bytes⟩
  obtain ⟨a, b, rfl, hS, hl, hQ⟩ := h
  refine s_retL (el_is (el_lcR3 (m := (b.length + 7) / 8) (fun _ => true) (fun i => .int (byteAt b (8 * i) : Nat)) (ea_cons ev_c (ea_cons (ev_is (ev_lenS (ea_cons (ev_var rfl) ea_nil) hS) (show V.int ((b.map bV).length : Nat) = V.int (b.length : Nat) by rw [List.length_map])) (ea_cons ev_c ea_nil))) (rgC8 (by omega)) (by omega) (fun _ => rfl) (fun i H1 e1 hi => et_yes) (fun i H1 e1 hi _ => ?_)) (ys := (Vbemaz.toBytes b).map fun n => V.int (n : Nat)) ?_) fun p H1 hp e1 h1 => hQ p H1 hp e1 h1
  · have e8 : (0 : Int) + (i : Int) * 8 = ((8 * i : Nat) : Int) := by omega
    rw [e8]
    exact ev_call (ea_cons (ev_var rfl) (ea_cons (ev_var rfl) ea_nil)) (sv_byteAt (ex_l e1 hS) (by omega))
  · rw [given_all, toBytes_range, List.map_map]
    rfl
end
end PR
set_option Elab.async false
set_option linter.all false
set_option maxRecDepth 100000
set_option maxHeartbeats 4000000
namespace PR
open PySem PySem.Spec PyProof.Rows L2 Evl
/-! ### gaps, blockcode -/
abbrev nV (n : Nat) : V := .int (n : Int)
/-- a reading or gap as it is kept -/
abbrev gI (v : Vbemaz.Val) : Int := v.getD 2000000000
abbrev gv (v : Vbemaz.Val) : V := .int (gI v)
def okV (l : List Vbemaz.Val) : Prop := ∀ x, some x ∈ l → x.natAbs ≤ 1000000000
def okR (l : List Int) : Prop := l.length ≤ 16 ∧ ∀ x ∈ l, x.natAbs ≤ 1000000000
theorem present_filter (l : List Vbemaz.Val) : (l.filter Option.isSome).map gv = (Vbemaz.present l).map V.int := by
  induction l with
  | nil => rfl
  | cons x l ih =>
    cases x with
    | none => exact ih
    | some x =>
      show gv (some x) :: (l.filter Option.isSome).map gv = V.int x :: (Vbemaz.present l).map V.int
      rw [ih]
      rfl
theorem present_mem {l : List Vbemaz.Val} {x : Int} (h : x ∈ Vbemaz.present l) : some x ∈ l := by
  obtain ⟨v, hv, e⟩ := List.mem_filterMap.mp h
  have e : v = some x := e
  rw [← e]
  exact hv
theorem present_len (l : List Vbemaz.Val) : (Vbemaz.present l).length ≤ l.length := List.length_filterMap_le _ _
theorem gap_ne {x : Vbemaz.Val} {l : List Vbemaz.Val} (h : okV l) (hx : x ∈ l) : (!decide (gv x = V.int 2000000000)) = x.isSome := by
  cases x with
  | none => rfl
  | some x =>
    have := h x hx
    have e : ¬ gv (some x) = V.int 2000000000 := fun z => by
      have z2 : x = 2000000000 := V.int.inj z
      omega
    simp [e]
def spReadingsIn (K : PySem.W.Frag) : Sp := fun vs H Q _ => ∃ (a : Addr) (l : List Vbemaz.Val), vs = [.ref a] ∧ SqL K H a (l.map gv) ∧ okV l ∧ l.length ≤ 1000 ∧ RetL ((Vbemaz.present l).map V.int) H Q
def spSteps (K : PySem.W.Frag) : Sp := fun vs H Q _ => ∃ (a : Addr) (l : List Int), vs = [.ref a] ∧ SqL K H a (l.map V.int) ∧ l.length ≤ 1000 ∧ RetL ((Vbemaz.steps l).map V.int) H Q
def spGreatest (K : PySem.W.Frag) : Sp := fun vs H Q _ => ∃ (a : Addr) (l : List Nat), vs = [.ref a] ∧ SqL K H a (l.map nV) ∧ (∀ x ∈ l, x < 2 ^ 64) ∧ RetV (nV (Vbemaz.digits (Vbemaz.greatest l))) H Q
def spAllInBits (K : PySem.W.Frag) : Sp := fun vs H Q _ => ∃ (a : Addr) (l : List Nat) (w : Nat), vs = [.ref a, .int w] ∧ SqL K H a (l.map nV) ∧ l.length ≤ 200 ∧ w ≤ 64 ∧ RetL ((l.flatMap (Vbemaz.fixed w)).map bV) H Q
def spCode (K : PySem.W.Frag) (f : List Int → Vbemaz.Bits) : Sp := fun vs H Q _ => ∃ (a : Addr) (l : List Int), vs = [.ref a] ∧ SqL K H a (l.map V.int) ∧ l ≠ [] ∧ okR l ∧ RetL ((f l).map bV) H Q
def spRunEnd (K : PySem.W.Frag) : Sp := fun vs H Q _ => ∃ (a : Addr) (l : List Int) (s : Nat), vs = [.ref a, .int s] ∧ SqL K H a (l.map V.int) ∧ s < l.length ∧ RetV (nV (runEnd l s)) H Q
section
variable {K : PySem.W.Frag} {H : Hp} {a : Addr}
theorem sl_readingsIn {l : List Vbemaz.Val} (h : SqL K H a (l.map gv)) (h1 : okV l) (h2 : l.length ≤ 1000) : SpL (spReadingsIn K) [.ref a] H ((Vbemaz.present l).map V.int) := fun H1 e _ q _ => ⟨a, l, rfl, ex_l e h, h1, h2, q⟩
theorem sl_steps {l : List Int} (h : SqL K H a (l.map V.int)) (h2 : l.length ≤ 1000) : SpL (spSteps K) [.ref a] H ((Vbemaz.steps l).map V.int) := fun H1 e _ q _ => ⟨a, l, rfl, ex_l e h, h2, q⟩
theorem sv_greatest {l : List Nat} (h : SqL K H a (l.map nV)) (h2 : ∀ x ∈ l, x < 2 ^ 64) : SpV (spGreatest K) [.ref a] H (nV (Vbemaz.digits (Vbemaz.greatest l))) := fun H1 e _ q _ => ⟨a, l, rfl, ex_l e h, h2, q⟩
theorem sl_allInBits {l : List Nat} {w : Nat} (h : SqL K H a (l.map nV)) (h2 : l.length ≤ 16) (h3 : w ≤ 64) : SpL (spAllInBits K) [.ref a, .int w] H ((l.flatMap (Vbemaz.fixed w)).map bV) := fun H1 e _ q _ => ⟨a, l, w, rfl, ex_l e h, by omega, h3, q⟩
theorem sl_allInBits2 {l : List Nat} {w : Nat} (h : SqL K H a (l.map nV)) (h2 : l.length ≤ 200) (h3 : w ≤ 64) : SpL (spAllInBits K) [.ref a, .int w] H ((l.flatMap (Vbemaz.fixed w)).map bV) := fun H1 e _ q _ => ⟨a, l, w, rfl, ex_l e h, h2, h3, q⟩
theorem sl_code {f : List Int → Vbemaz.Bits} {l : List Int} (h : SqL K H a (l.map V.int)) (h1 : l ≠ []) (h2 : okR l) : SpL (spCode K f) [.ref a] H ((f l).map bV) := fun H1 e _ q _ => ⟨a, l, rfl, ex_l e h, h1, h2, q⟩
theorem sv_runEnd {l : List Int} {s : Nat} (h : SqL K H a (l.map V.int)) (h2 : s < l.length) : SpV (spRunEnd K) [.ref a, .int s] H (nV (runEnd l s)) := fun H1 e _ q _ => ⟨a, l, s, rfl, ex_l e h, h2, q⟩
end
section
variable {P : Program} {w : World} {K : PySem.W.Frag} {mg : Str → Option Value} {base : Heap}
theorem ok_readings_in (T : Top K w mg) : Def P w K mg base "readings_in" 1 ["values"] (spReadingsIn K) := by
  obtain ⟨_, c_GAP⟩ := T.c_GAP
  obtain ⟨fd, F⟩ := T.f_readings_in
  refine ⟨fd, F.ok sc_readings_in (fun vs H Q E h => by obtain ⟨_, _, rfl, _⟩ := h; rfl) (fun cdv A outer s H vs Q E hr h => ⟨_, PSs.nox (pss_one (ps_ret (pe_lc (own := [("value", 1)]) (g := gName 1) rfl sc_readings_in.nd (pi_list (pv 0)) (blkOk_by (own := [("value", 1)]) (N := N_readings_in) (sc := defScope st_readings_in) (by decide +kernel)) (fun _ _ _ _ _ => pg_name (i := 1) sc_readings_in.nd rfl (Or.inl rfl)) (fun _ _ _ _ _ => (pts_one (pt_cmpR op_ne (pv 1) (pe_glob (v := .int (2000000000)) rfl c_GAP ⟨_, rfl⟩) (nomark _)))) (fun _ _ _ _ _ => (pv 1))))), ?_⟩), F.bindsN (fun _ _ _ _ _ _ us hl => match us, hl with | [_], _ => rfl), F.kp, T.g_readings_in⟩
  obtain ⟨a, l, rfl, hS, h1, h2, hQ⟩ := h
  refine s_retL (el_is (el_lcM gv Option.isSome gv l (ev_var rfl) hS (by omega) (fun _ => rfl) (fun x hx H1 e1 => ?_) (fun x hx H1 e1 _ => ev_var rfl)) (present_filter l)) fun p H1 hp e1 h3 => hQ p H1 hp e1 h3
  exact et_is (et_test (ev_op (ev_var rfl) ev_c (rv_ne rfl))) (gap_ne h1 hx)
theorem ok_steps_between (T : Top K w mg) : Def P w K mg base "steps_between" 1 ["readings"] (spSteps K) := by
  obtain ⟨fd, F⟩ := T.f_steps_between
  refine ⟨fd, F.ok sc_steps_between (fun vs H Q E h => by obtain ⟨_, _, rfl, _⟩ := h; rfl) (fun cdv A outer s H vs Q E hr h => ⟨_, PSs.nox (pss_one (ps_ret (pe_lc (own := [("k", 1)]) (g := gName 1) rfl sc_steps_between.nd (pi_range2 rfl T.b_range (pa_cons pe_int (pa_cons (pe_callB (call_lenK (K := K) rfl) (by rfl) T.b_len PySem.boot_len (pa_cons (pv 0) pa_nil)) pa_nil))) (blkOk_by (own := [("k", 1)]) (N := N_steps_between) (sc := defScope st_steps_between) (by decide +kernel)) (fun _ _ _ _ _ => pg_name (i := 1) sc_steps_between.nd rfl (Or.inl rfl)) (fun _ _ _ _ _ => pts_nil) (fun _ _ _ _ _ => (pe_op op_sub (pe_ix (ix_listK (K := K) rfl) (pv 0) (pv 1) (fun _ _ => rfl)) (pe_ix (ix_listK (K := K) rfl) (pv 0) (pe_op op_sub (pv 1) pe_int) (fun _ _ => rfl))))))), ?_⟩), F.bindsN (fun _ _ _ _ _ _ us hl => match us, hl with | [_], _ => rfl), F.kp, T.g_steps_between⟩
  obtain ⟨a, l, rfl, hS, h2, hQ⟩ := h
  refine s_retL (el_is (el_lcR2 (lo := 1) (n := ((l.map V.int).length : Int)) (fun _ => true) (fun i => .int (l.getD (i + 1) 0 - l.getD i 0)) (ea_cons ev_c (ea_cons (ev_lenS (ea_cons (ev_var rfl) ea_nil) hS) ea_nil)) (by rw [List.length_map]; omega) (fun _ => rfl) (fun i H1 e1 hi => et_yes) (fun i H1 e1 hi _ => ?_)) (ys := (Vbemaz.steps l).map V.int) ?_) fun p H1 hp e1 h3 => hQ p H1 hp e1 h3
  · rw [List.length_map] at hi
    have g1 : l[i + 1]? = some (l.getD (i + 1) 0) := by
      rw [List.getD_eq_getElem?_getD, List.getElem?_eq_getElem (show i + 1 < l.length by omega)]; rfl
    have g0 : l[i]? = some (l.getD i 0) := by
      rw [List.getD_eq_getElem?_getD, List.getElem?_eq_getElem (show i < l.length by omega)]; rfl
    exact ev_op (ev_op (ev_var rfl) (ev_var rfl) (rv_ixL (ex_l e1 hS) (at_of (j := i + 1) (by omega) (by rw [List.getElem?_map, g1]; rfl))))
      (ev_op (ev_var rfl) (ev_op (ev_var rfl) ev_c rv_I0) (rv_ixL (ex_l e1 hS) (at_of (j := i) (by omega) (by rw [List.getElem?_map, g0]; rfl)))) rv_I0
  · have e : (((l.map V.int).length : Int) - 1).toNat = l.length - 1 := by rw [List.length_map]; omega
    rw [given_all, e, steps_range, List.map_map]
    rfl
theorem ok_greatest_width (T : Top K w mg) : Def P w K mg base "greatest_width" 2 ["foldeds"] (spGreatest K) := by
  obtain ⟨fd_width, G_width, b_width, k_width, g_width⟩ := ok_width (P := P) (w := w) (base := base) T
  obtain ⟨fd, F⟩ := T.f_greatest_width
  refine ⟨fd, F.ok sc_greatest_width (fun vs H Q E h => by obtain ⟨_, _, rfl, _⟩ := h; rfl) (fun cdv A outer s H vs Q E hr h => ⟨_, PSs.nox (pss_one (ps_ret (pe_call G_width (hr.mono (by decide)) rfl g_width k_width b_width .nil pass0 (pa_cons (pe_callBK (cr_maxDf rfl hr.units) (by rfl) T.b_max (by decide +kernel) (pa_cons (pv 0) pa_nil) (pk_cons pe_int pk_nil)) pa_nil)))), ?_⟩), F.bindsN (fun _ _ _ _ _ _ us hl => match us, hl with | [_], _ => rfl), F.kp, T.g_greatest_width⟩
  obtain ⟨a, l, rfl, hS, h2, hQ⟩ := h
  have hg := greatest_le (l := l) (m := 2 ^ 64 - 1) (fun x hx => by have := h2 x hx; omega)
  have hS' : SqL K H a ((l.map fun (n : Nat) => (n : Int)).map V.int) := by
    rw [List.map_map]
    exact hS
  have e := ev_maxDf (σ := start N_greatest_width [.ref a]) (d := 0) (K := K) (ea_cons (ev_var (i := 0) rfl) ea_nil) (ea_cons (ev_c (v := .int 0)) ea_nil) hS' (fun y ys e => by
    have hy : 0 ≤ y := by
      have : y ∈ l.map fun (n : Nat) => (n : Int) := by rw [e]; exact List.mem_cons_self
      obtain ⟨n, _, rfl⟩ := List.mem_map.mp this
      omega
    have : ∀ (zs : List Int) (z : Int), z ≤ zs.foldl max z := by
      intro zs
      induction zs with
      | nil => intro z; exact Int.le_refl _
      | cons x zs ih => intro z; exact Int.le_trans (Int.le_max_left z x) (ih _)
    exact Int.le_trans hy (this ys y))
  rw [greatest_int] at e
  refine s_ret (ev_call (ea_cons e ea_nil) (sv_width (by omega))) fun H1 e1 => hQ.go e1
theorem ok_all_in_bits (T : Top K w mg) : Def P w K mg base "all_in_bits" 2 ["numbers", "count"] (spAllInBits K) := by
  obtain ⟨fd_in_bits, G_in_bits, b_in_bits, k_in_bits, g_in_bits⟩ := ok_in_bits (P := P) (w := w) (base := base) T
  obtain ⟨fd, F⟩ := T.f_all_in_bits
  refine ⟨fd, F.ok sc_all_in_bits (fun vs H Q E h => by obtain ⟨_, _, _, rfl, _⟩ := h; rfl) (fun cdv A outer s H vs Q E hr h => ⟨_, PSs.nox (pss_cons (ps_set (i := 2) sc_all_in_bits.nd rfl (Or.inl rfl) (pe_lst pa_nil))
      (pss_cons (ps_for PassesOwn.never rfl (pi_list (pv 0)) (pg_name (i := 3) sc_all_in_bits.nd rfl (Or.inl rfl)) (pss_one (ps_expr (pe_bm PySem.F.plainAttrs_list PySem.F.slot_list_extend PySem.F.type_list_extend mt_extend (pv 2) (pa_cons (pe_call G_in_bits (hr.mono (by decide)) rfl g_in_bits k_in_bits b_in_bits .nil pass0 (pa_cons (pv 3) (pa_cons (pv 1) pa_nil))) pa_nil)))))
      (pss_one (ps_ret (pv 2))))), ?_⟩), F.bindsN (fun _ _ _ _ _ _ us hl => match us, hl with | [_, _], _ => rfl), F.kp, T.g_all_in_bits⟩
  obtain ⟨a, l, w, rfl, hS, h2, h3, hQ⟩ := h
  refine q_asgL (el_lst ea_nil (by decide)) fun p H1 hp e1 hp1 => ?_
  refine q_forLn (ev_var rfl) (ex_l e1 hS) (fun i σ' H' => ∃ v, σ' = [some (.ref a), some (.int w), some (.ref p), v] ∧ Ex H H' ∧ H' p = some (.lst (((l.take i).flatMap (Vbemaz.fixed w)).map bV))) (fun H2 e2 => ⟨none, rfl, e1.trans e2, e2 p _ hp1⟩)
    (fun i σ' H' _ ⟨_, _, e2, _⟩ => ex_l e2 hS) ?_ ?_
  · rintro i x σ' H' hx ⟨v, rfl, e2, hp2⟩
    rw [List.getElem?_map] at hx
    obtain ⟨n, hn, rfl⟩ := Option.map_eq_some_iff.mp hx
    have hlen : ((l.take i).flatMap (Vbemaz.fixed w)).length ≤ 64 * 200 := by
      rw [flat_fixed_len]
      exact Nat.mul_le_mul h3 (by rw [List.length_take]; omega)
    refine s_ext hp2 (ev_var rfl) (el_call (ea_cons (ev_var rfl) (ea_cons (ev_var rfl) ea_nil)) (sl_inBits (by omega))) (by rw [List.length_map, List.length_map, fixed_len]; omega) fun H3 e3 => ⟨some (nV n), rfl, Ex.mut (e2.trans e3) hp, ?_⟩
    rw [upd_same, List.take_succ, hn, Option.toList_some, List.flatMap_append, List.map_append]
    simp
  · rintro σ' H' ⟨v, rfl, e2, hp2⟩
    rw [List.length_map, List.take_length] at hp2
    refine s_ret (ev_var rfl) fun H2 e3 => hQ p H2 hp (e2.trans e3) (e3 p _ hp2)
end
end PR
set_option Elab.async false
set_option linter.all false
set_option maxRecDepth 100000
set_option maxHeartbeats 4000000
namespace PR
open PySem PySem.Spec PyProof.Rows L2 Evl
theorem zigs_lt {l : List Int} {m : Nat} (h : ∀ x ∈ l, x.natAbs ≤ m) : ∀ x ∈ l.map Vbemaz.zigzag, x ≤ 2 * m := by
  intro x hx
  obtain ⟨v, hv, rfl⟩ := List.mem_map.mp hx
  exact zig_le (h v hv)
theorem digits_great {l : List Nat} {m k : Nat} (h : ∀ x ∈ l, x ≤ m) (hm : m < 2 ^ k) (h64 : m < 2 ^ 64) : Vbemaz.digits (Vbemaz.greatest l) ≤ k := by
  have := greatest_le h
  exact digits_le (by omega) (by omega)
theorem run_key {l : List Int} {s e : Nat} (hs : s < l.length) (h1 : s + 1 ≤ e) (h2 : e ≤ runEnd l s) :
    (decide ((e : Int) < ((l.map V.int).length : Int)) && decide (V.int (l.getD e 0) = V.int (l.getD s 0))) = decide (e < runEnd l s) := by
  rw [List.length_map]
  have tw := List.takeWhile_append_dropWhile (p := fun x => x == l.getD s 0) (l := l.drop (s + 1))
  have rep := take_while_rep (v := l.getD s 0) (l.drop (s + 1))
  by_cases h : e < runEnd l s
  · rw [decide_eq_true h]
    have hle := runEnd_le hs
    have e1 : l.getD e 0 = l.getD s 0 := by
      have hk : e - (s + 1) < ((l.drop (s + 1)).takeWhile fun x => x == l.getD s 0).length := by unfold runEnd at h; omega
      have a : (l.drop (s + 1))[e - (s + 1)]? = some (l.getD s 0) := by
        rw [← tw, List.getElem?_append_left hk, rep, List.getElem?_replicate, if_pos hk]
      rw [List.getElem?_drop] at a
      have ee : s + 1 + (e - (s + 1)) = e := by omega
      rw [ee] at a
      have e5 : l.getD e 0 = (l[e]?).getD 0 := List.getD_eq_getElem?_getD
      rw [e5, a]
      rfl
    rw [e1, decide_eq_true rfl, decide_eq_true (by omega)]
    rfl
  · rw [decide_eq_false h]
    have ee : e = runEnd l s := by omega
    by_cases hl : e < l.length
    · have hd : ¬ l.getD e 0 = l.getD s 0 := by
        intro z
        have b : (l.drop (s + 1)).dropWhile (fun x => x == l.getD s 0) = l.drop e := by
          have c := congrArg (List.drop ((l.drop (s + 1)).takeWhile fun x => x == l.getD s 0).length) tw
          rw [List.drop_left, List.drop_drop] at c
          rw [c, ee]
          rfl
        have q := List.head?_dropWhile_not (fun x => x == l.getD s 0) (l.drop (s + 1))
        rw [b] at q
        have e3 : (l.drop e).head? = some (l.getD e 0) := by
          rw [List.head?_drop, List.getElem?_eq_getElem hl, List.getD_eq_getElem?_getD, List.getElem?_eq_getElem hl]; rfl
        rw [e3] at q
        have q2 : (!(l.getD e 0 == l.getD s 0)) = true := by simpa using q
        rw [z, beq_self_eq_true] at q2
        cases q2
      rw [decide_eq_false (fun z => hd (V.int.inj z)), Bool.and_false]
    · rw [decide_eq_false (by omega), Bool.false_and]
section
variable {P : Program} {w : World} {K : PySem.W.Frag} {mg : Str → Option Value} {base : Heap}
theorem ok_plain_code (T : Top K w mg) : Def P w K mg base "plain_code" 3 ["readings"] (spCode K Vbemaz.plainCode) := by
  obtain ⟨fd_folded, G_folded, b_folded, k_folded, g_folded⟩ := ok_folded (P := P) (w := w) (base := base) T
  obtain ⟨fd_greatest_width, G_greatest_width, b_greatest_width, k_greatest_width, g_greatest_width⟩ := ok_greatest_width (P := P) (w := w) (base := base) T
  obtain ⟨fd_in_bits, G_in_bits, b_in_bits, k_in_bits, g_in_bits⟩ := ok_in_bits (P := P) (w := w) (base := base) T
  obtain ⟨fd_all_in_bits, G_all_in_bits, b_all_in_bits, k_all_in_bits, g_all_in_bits⟩ := ok_all_in_bits (P := P) (w := w) (base := base) T
  obtain ⟨fd, F⟩ := T.f_plain_code
  refine ⟨fd, F.ok sc_plain_code (fun vs H Q E h => by obtain ⟨_, _, rfl, _⟩ := h; rfl) (fun cdv A outer s H vs Q E hr h => ⟨_, PSs.nox (pss_cons (ps_setLc (i := 1) (own := [("reading", 3)]) (g := gName 3) rfl sc_plain_code.nd rfl rfl (sw_true rfl rfl rfl (by decide +kernel)) (pi_list (pv 0)) (blkOk_by (own := [("reading", 3)]) (N := N_plain_code) (sc := defScope st_plain_code) (by decide +kernel)) (fun _ _ _ _ _ => pg_name (i := 3) sc_plain_code.nd rfl (Or.inl rfl)) (fun _ _ _ _ _ => pts_nil) (fun _ _ _ _ _ => (pe_call G_folded (hr.mono (by decide)) rfl g_folded k_folded b_folded .nil pass0 (pa_cons (pv 3) pa_nil))))
      (pss_cons (ps_set (i := 2) sc_plain_code.nd rfl (Or.inl rfl) (pe_call G_greatest_width (hr.mono (by decide)) rfl g_greatest_width k_greatest_width b_greatest_width .nil pass0 (pa_cons (pv 1) pa_nil)))
      (pss_one (ps_ret (pe_op op_cat (pe_call G_in_bits (hr.mono (by decide)) rfl g_in_bits k_in_bits b_in_bits .nil pass0 (pa_cons (pv 2) (pa_cons pe_int pa_nil))) (pe_call G_all_in_bits (hr.mono (by decide)) rfl g_all_in_bits k_all_in_bits b_all_in_bits .nil pass0 (pa_cons (pv 1) (pa_cons (pv 2) pa_nil)))))))), ?_⟩), F.bindsN (fun _ _ _ _ _ _ us hl => match us, hl with | [_], _ => rfl), F.kp, T.g_plain_code⟩
  obtain ⟨a, l, rfl, hS, hne, hR, hQ⟩ := h
  have hz := zigs_lt hR.2
  have hd := digits_great (k := 31) hz (by decide) (by decide)
  refine q_asgL (el_lcA V.int (fun v => nV (Vbemaz.zigzag v)) l (ev_var rfl) hS (by have := hR.1; omega) (fun _ => rfl) (fun x hx H1 e1 => ev_call (ea_cons (ev_var rfl) ea_nil) sv_folded)) fun p H1 hp e1 h1 => ?_
  have h1' : H1 p = some (.lst ((l.map Vbemaz.zigzag).map nV)) := by rw [h1, List.map_map]; rfl
  refine q_asg (ev_call (ea_cons (ev_var rfl) ea_nil) (sv_greatest (sq_of h1') (fun x hx => by have := hz x hx; omega))) fun H2 e2 => ?_
  refine s_retL (el_is (el_cat (el_call (ea_cons (ev_var rfl) (ea_cons ev_c ea_nil)) (sl_inBits (w := 5) (by decide))) (el_call (ea_cons (ev_var rfl) (ea_cons (ev_var rfl) ea_nil)) (sl_allInBits (sq_of (e2 p _ h1')) (by rw [List.length_map]; exact hR.1) (by omega))) ?_) (ys := (Vbemaz.plainCode l).map bV) ?_) fun r H3 hr3 e3 h3 => hQ.go (e1.trans e2) hr3 e3 h3
  · rw [List.length_map, List.length_map, fixed_len, flat_fixed_len, List.length_map]
    have := Nat.mul_le_mul hd hR.1
    omega
  · unfold Vbemaz.plainCode
    rw [List.map_append, List.flatMap_map]
theorem ok_step_code (T : Top K w mg) : Def P w K mg base "step_code" 4 ["readings"] (spCode K Vbemaz.stepCode) := by
  obtain ⟨fd_steps_between, G_steps_between, b_steps_between, k_steps_between, g_steps_between⟩ := ok_steps_between (P := P) (w := w) (base := base) T
  obtain ⟨fd_folded, G_folded, b_folded, k_folded, g_folded⟩ := ok_folded (P := P) (w := w) (base := base) T
  obtain ⟨fd_greatest_width, G_greatest_width, b_greatest_width, k_greatest_width, g_greatest_width⟩ := ok_greatest_width (P := P) (w := w) (base := base) T
  obtain ⟨fd_folded_self_ending, G_folded_self_ending, b_folded_self_ending, k_folded_self_ending, g_folded_self_ending⟩ := ok_folded_self_ending (P := P) (w := w) (base := base) T
  obtain ⟨fd_in_bits, G_in_bits, b_in_bits, k_in_bits, g_in_bits⟩ := ok_in_bits (P := P) (w := w) (base := base) T
  obtain ⟨fd_all_in_bits, G_all_in_bits, b_all_in_bits, k_all_in_bits, g_all_in_bits⟩ := ok_all_in_bits (P := P) (w := w) (base := base) T
  obtain ⟨fd, F⟩ := T.f_step_code
  refine ⟨fd, F.ok sc_step_code (fun vs H Q E h => by obtain ⟨_, _, rfl, _⟩ := h; rfl) (fun cdv A outer s H vs Q E hr h => ⟨_, PSs.nox (pss_cons (ps_setLc (i := 1) (own := [("step", 3)]) (g := gName 3) rfl sc_step_code.nd rfl rfl (sw_true rfl rfl rfl (by decide +kernel)) (pi_list (pe_call G_steps_between (hr.mono (by decide)) rfl g_steps_between k_steps_between b_steps_between .nil pass0 (pa_cons (pv 0) pa_nil))) (blkOk_by (own := [("step", 3)]) (N := N_step_code) (sc := defScope st_step_code) (by decide +kernel)) (fun _ _ _ _ _ => pg_name (i := 3) sc_step_code.nd rfl (Or.inl rfl)) (fun _ _ _ _ _ => pts_nil) (fun _ _ _ _ _ => (pe_call G_folded (hr.mono (by decide)) rfl g_folded k_folded b_folded .nil pass0 (pa_cons (pv 3) pa_nil))))
      (pss_cons (ps_set (i := 2) sc_step_code.nd rfl (Or.inl rfl) (pe_call G_greatest_width (hr.mono (by decide)) rfl g_greatest_width k_greatest_width b_greatest_width .nil pass0 (pa_cons (pv 1) pa_nil)))
      (pss_one (ps_ret (pe_op op_cat (pe_op op_cat (pe_call G_folded_self_ending (hr.mono (by decide)) rfl g_folded_self_ending k_folded_self_ending b_folded_self_ending .nil pass0 (pa_cons (pe_ix (ix_listK (K := K) rfl) (pv 0) pe_int (fun _ _ => rfl)) pa_nil)) (pe_call G_in_bits (hr.mono (by decide)) rfl g_in_bits k_in_bits b_in_bits .nil pass0 (pa_cons (pv 2) (pa_cons pe_int pa_nil)))) (pe_call G_all_in_bits (hr.mono (by decide)) rfl g_all_in_bits k_all_in_bits b_all_in_bits .nil pass0 (pa_cons (pv 1) (pa_cons (pv 2) pa_nil)))))))), ?_⟩), F.bindsN (fun _ _ _ _ _ _ us hl => match us, hl with | [_], _ => rfl), F.kp, T.g_step_code⟩
  obtain ⟨a, l, rfl, hS, hne, hR, hQ⟩ := h
  obtain ⟨v, r, rfl⟩ := List.exists_cons_of_ne_nil hne
  have hz := zigs_lt (steps_mem hR.2)
  have hd := digits_great (k := 33) hz (by decide) (by decide)
  have hsl : (Vbemaz.steps (v :: r)).length ≤ 16 := by rw [steps_len]; have := hR.1; omega
  refine q_asgL (el_lcNA V.int (fun v => nV (Vbemaz.zigzag v)) (Vbemaz.steps (v :: r)) (el_call (ea_cons (ev_var rfl) ea_nil) (sl_steps hS (by have := hR.1; omega))) (by omega) (fun _ => rfl) (fun x hx H1 e1 => ev_call (ea_cons (ev_var rfl) ea_nil) sv_folded)) fun p H1 hp e1 h1 => ?_
  have h1' : H1 p = some (.lst (((Vbemaz.steps (v :: r)).map Vbemaz.zigzag).map nV)) := by rw [h1, List.map_map]; rfl
  refine q_asg (ev_call (ea_cons (ev_var rfl) ea_nil) (sv_greatest (sq_of h1') (fun x hx => by have := hz x hx; omega))) fun H2 e2 => ?_
  have hv : v.natAbs < 2 ^ 60 := by have := hR.2 v List.mem_cons_self; omega
  refine s_retL (el_is (el_cat (el_cat (el_call (ea_cons (ev_op (ev_var rfl) ev_c (rv_ixL (v := .int v) (ex_l (e1.trans e2) hS) (at_of (j := 0) rfl rfl))) ea_nil) (sl_fse hv)) (el_call (ea_cons (ev_var rfl) (ea_cons ev_c ea_nil)) (sl_inBits (w := 6) (by decide))) ?_) (el_call (ea_cons (ev_var rfl) (ea_cons (ev_var rfl) ea_nil)) (sl_allInBits (sq_of (e2 p _ h1')) (by rw [List.length_map]; exact hsl) (by omega))) ?_) (ys := (Vbemaz.stepCode (v :: r)).map bV) ?_) fun r H3 hr3 e3 h3 => hQ.go (e1.trans e2) hr3 e3 h3
  · rw [List.length_map, List.length_map, fixed_len]
    have := gammaOf_len hv
    omega
  · rw [List.length_append, List.length_map, List.length_map, List.length_map, fixed_len, flat_fixed_len, List.length_map]
    have := Nat.mul_le_mul hd hsl
    have := gammaOf_len hv
    omega
  · show _ = (Vbemaz.gammaOf v ++ (Vbemaz.fixed 6 _ ++ _)).map bV
    rw [List.map_append, List.map_append, List.flatMap_map, List.append_assoc]
theorem ok_change_of_step_code (T : Top K w mg) : Def P w K mg base "change_of_step_code" 4 ["readings"] (spCode K Vbemaz.bendCode) := by
  obtain ⟨fd_folded_self_ending, G_folded_self_ending, b_folded_self_ending, k_folded_self_ending, g_folded_self_ending⟩ := ok_folded_self_ending (P := P) (w := w) (base := base) T
  obtain ⟨fd_steps_between, G_steps_between, b_steps_between, k_steps_between, g_steps_between⟩ := ok_steps_between (P := P) (w := w) (base := base) T
  obtain ⟨fd, F⟩ := T.f_change_of_step_code
  refine ⟨fd, F.ok sc_change_of_step_code (fun vs H Q E h => by obtain ⟨_, _, rfl, _⟩ := h; rfl) (fun cdv A outer s H vs Q E hr h => ⟨_, PSs.nox (pss_cons (ps_set (i := 1) sc_change_of_step_code.nd rfl (Or.inl rfl) (pe_call G_folded_self_ending (hr.mono (by decide)) rfl g_folded_self_ending k_folded_self_ending b_folded_self_ending .nil pass0 (pa_cons (pe_ix (ix_listK (K := K) rfl) (pv 0) pe_int (fun _ _ => rfl)) pa_nil)))
      (pss_cons (ps_set (i := 2) sc_change_of_step_code.nd rfl (Or.inl rfl) pe_int)
      (pss_cons (ps_for PassesOwn.never rfl (pi_list (pe_call G_steps_between (hr.mono (by decide)) rfl g_steps_between k_steps_between b_steps_between .nil pass0 (pa_cons (pv 0) pa_nil))) (pg_name (i := 3) sc_change_of_step_code.nd rfl (Or.inl rfl)) (pss_cons (ps_expr (pe_bm PySem.F.plainAttrs_list PySem.F.slot_list_extend PySem.F.type_list_extend mt_extend (pv 1) (pa_cons (pe_call G_folded_self_ending (hr.mono (by decide)) rfl g_folded_self_ending k_folded_self_ending b_folded_self_ending .nil pass0 (pa_cons (pe_op op_sub (pv 3) (pv 2)) pa_nil)) pa_nil)))
      (pss_one (ps_set (i := 2) sc_change_of_step_code.nd rfl (Or.inl rfl) (pv 3)))))
      (pss_one (ps_ret (pv 1)))))), ?_⟩), F.bindsN (fun _ _ _ _ _ _ us hl => match us, hl with | [_], _ => rfl), F.kp, T.g_change_of_step_code⟩
  obtain ⟨a, l, rfl, hS, hne, hR, hQ⟩ := h
  obtain ⟨v, r, rfl⟩ := List.exists_cons_of_ne_nil hne
  have hs := steps_mem hR.2
  have hsl : (Vbemaz.steps (v :: r)).length ≤ 16 := by rw [steps_len]; have := hR.1; omega
  have hv : v.natAbs < 2 ^ 60 := by have := hR.2 v List.mem_cons_self; omega
  refine q_asgL (el_call (ea_cons (ev_op (ev_var rfl) ev_c (rv_ixL (v := .int v) hS (at_of (j := 0) rfl rfl))) ea_nil) (sl_fse hv)) fun p H1 hp e1 h1 => ?_
  refine q_asg ev_c fun H2 e2 => ?_
  refine q_forNLn (el_call (ea_cons (ev_var rfl) ea_nil) (sl_steps (ex_l (e1.trans e2) hS) (by have := hR.1; omega)))
    (fun q i σ' H' => ∃ x, σ' = [some (.ref a), some (.ref p), some (.int ((0 :: Vbemaz.steps (v :: r)).getD i 0)), x] ∧ Ex H H' ∧ H' q = some (.lst ((Vbemaz.steps (v :: r)).map V.int)) ∧ q ≠ p ∧ H q = none ∧ H' p = some (.lst ((Vbemaz.gammaOf v ++ bends 0 ((Vbemaz.steps (v :: r)).take i)).map bV)))
    (fun q H3 hq e3 h3 => ⟨none, rfl, (e1.trans e2).trans e3, h3, (ne_of_none (e2 p _ h1) hq).symm, fresh_back (e1.trans e2) hq, ?_⟩) (fun q i σ' H' _ ⟨_, _, _, h3, _, _, _⟩ => sq_of h3) ?_ ?_
  · rw [e3 p _ (e2 p _ h1)]
    simp [bends]
  · rintro q i x σ' H' hx ⟨y, rfl, e3, h3, hqp, hq0, h4⟩
    rw [List.getElem?_map] at hx
    obtain ⟨z, hz, rfl⟩ := Option.map_eq_some_iff.mp hx
    have hzb : z.natAbs ≤ 2 * 1000000000 := hs z (List.mem_of_getElem? hz)
    have hpb : ((0 :: Vbemaz.steps (v :: r)).getD i 0).natAbs ≤ 2 * 1000000000 := by
      cases i with
      | zero => simp
      | succ i =>
        rw [List.getD_cons_succ, List.getD_eq_getElem?_getD]
        cases e : (Vbemaz.steps (v :: r))[i]? with
        | none => simp
        | some u => exact hs u (List.mem_of_getElem? e)
    have hlen : (Vbemaz.gammaOf v ++ bends 0 ((Vbemaz.steps (v :: r)).take i)).length ≤ 128 + 128 * 16 := by
      rw [List.length_append]
      have := gammaOf_len hv
      have h5 := bends_len ((Vbemaz.steps (v :: r)).take i) 0 (by decide) (fun x hx => by have := hs x (List.mem_of_mem_take hx); omega)
      rw [List.length_take] at h5
      have : min i (Vbemaz.steps (v :: r)).length ≤ 16 := by omega
      omega
    refine q_ext h4 (ev_var rfl) (el_call (ea_cons (ev_op (ev_var rfl) (ev_var rfl) rv_I0) ea_nil) (sl_fse (by omega))) ?_ fun H4 e4 => ?_
    · rw [List.length_map, List.length_map]
      have := gammaOf_len (v := z - (0 :: Vbemaz.steps (v :: r)).getD i 0) (by omega)
      omega
    refine s_asg (ev_var rfl) fun H5 e5 => ⟨some (.int z), ?_, ?_, ?_, hqp, hq0, ?_⟩
    · have e6 : (0 :: Vbemaz.steps (v :: r)).getD (i + 1) 0 = z := by rw [List.getD_cons_succ, List.getD_eq_getElem?_getD, hz]; rfl
      rw [e6]
      rfl
    · exact (Ex.mut (e3.trans e4) hp).trans e5
    · exact e5 q _ (by rw [upd_ne hqp]; exact e4 q _ h3)
    · rw [e5 p _ upd_same, bends_more _ _ _ _ hz]
      simp only [List.map_append, List.append_assoc]
  · rintro q σ' H' ⟨y, rfl, e3, h3, hqp, hq0, h4⟩
    rw [List.length_map, List.take_length, ← bend_is] at h4
    exact s_ret (ev_var rfl) fun H5 e5 => hQ p H5 hp (e3.trans e5) (e5 p _ h4)
theorem ok_run_end (T : Top K w mg) : Def P w K mg base "run_end" 1 ["readings", "start"] (spRunEnd K) := by
  obtain ⟨fd, F⟩ := T.f_run_end
  refine ⟨fd, F.ok sc_run_end (fun vs H Q E h => by obtain ⟨_, _, _, rfl, _⟩ := h; rfl) (fun cdv A outer s H vs Q E hr h => ⟨_, PSs.nox (pss_cons (ps_set (i := 2) sc_run_end.nd rfl (Or.inl rfl) (pe_op op_add (pv 1) pe_int))
      (pss_cons (ps_while PassesOwn.never (PW.pt (pw_and (pt_cmpR op_lt (pv 2) (pe_callB (call_lenK (K := K) rfl) (by rfl) T.b_len PySem.boot_len (pa_cons (pv 0) pa_nil)) (nomark _)) (pw_and1 (pt_cmpR op_eq (pe_ix (ix_listK (K := K) rfl) (pv 0) (pv 2) (fun _ _ => rfl)) (pe_ix (ix_listK (K := K) rfl) (pv 0) (pv 1) (fun _ _ => rfl)) (nomark _))))) (pss_one (ps_set (i := 2) sc_run_end.nd rfl (Or.inl rfl) (pe_op op_add (pv 2) pe_int))))
      (pss_one (ps_ret (pv 2))))), ?_⟩), F.bindsN (fun _ _ _ _ _ _ us hl => match us, hl with | [_, _], _ => rfl), F.kp, T.g_run_end⟩
  obtain ⟨a, l, s0, rfl, hS, hlt, hQ⟩ := h
  have hle := runEnd_le hlt
  refine q_asg (ev_op (ev_var rfl) ev_c rv_I0) fun H1 e1 => ?_
  refine q_while (fun m σ' H' => ∃ e : Nat, σ' = [some (.ref a), some (.int s0), some (.int e)] ∧ Ex H H' ∧ s0 + 1 ≤ e ∧ e ≤ runEnd l s0 ∧ m = runEnd l s0 - e) (runEnd l s0 - (s0 + 1)) ⟨s0 + 1, rfl, e1, Nat.le_refl _, runEnd_gt l s0, rfl⟩ ?_
  rintro m σ' H' ⟨e, rfl, e2, h1, h2, rfl⟩
  have hS2 := ex_l e2 hS
  have gs : (l.map V.int)[s0]? = some (.int (l.getD s0 0)) := by
    rw [List.getElem?_map, List.getElem?_eq_getElem hlt, List.getD_eq_getElem?_getD, List.getElem?_eq_getElem hlt]; rfl
  have key : (decide ((e : Int) < ((l.map V.int).length : Int)) && decide (V.int (l.getD e 0) = V.int (l.getD s0 0))) = decide (e < runEnd l s0) := run_key hlt h1 h2
  have t : EvT (tAnd (tTest (tOp (rI0 fun i j => .bl (decide (i < j))) (tVar 2) (tCB (fun xs H Q => ∃ p ys, xs = [V.ref p] ∧ (SqL K H p ys ∨ SqT K H p ys) ∧ Q (V.int ys.length) H) (tCons (tVar 0) tNil)))) (tTest (tOp rEq (tOp (rIxL K) (tVar 0) (tVar 2)) (tOp (rIxL K) (tVar 0) (tVar 1))))) [some (.ref a), some (.int s0), some (.int e)] H' (decide (e < runEnd l s0)) := by
    refine et_is (et_and (et_test (ev_op (ev_var rfl) (ev_lenS (ea_cons (ev_var rfl) ea_nil) hS2) rv_I0)) (fun hb => ?_)) key
    have he : e < l.length := by
      have := of_decide_eq_true hb
      rw [List.length_map] at this
      omega
    have ge : (l.map V.int)[e]? = some (.int (l.getD e 0)) := by
      rw [List.getElem?_map, List.getElem?_eq_getElem he, List.getD_eq_getElem?_getD, List.getElem?_eq_getElem he]; rfl
    exact et_test (ev_op (ev_op (ev_var rfl) (ev_var rfl) (rv_ixL hS2 (atI_nat ge))) (ev_op (ev_var rfl) (ev_var rfl) (rv_ixL hS2 (atI_nat gs))) (rv_eq rfl))
  refine ⟨_, t, fun hb H3 e3 => ?_, fun hb H3 e3 => ?_⟩
  · have hb := of_decide_eq_true hb
    refine ⟨fun σ2 H2 => ∃ m', m' < runEnd l s0 - e ∧ ∃ e : Nat, σ2 = [some (.ref a), some (.int s0), some (.int e)] ∧ Ex H H2 ∧ s0 + 1 ≤ e ∧ e ≤ runEnd l s0 ∧ m' = runEnd l s0 - e, fun σ2 H2 z => z, ?_⟩
    exact s_asg (ev_op (ev_var rfl) ev_c rv_I0) fun H4 e4 => ⟨_, by omega, e + 1, rfl, (e2.trans e3).trans e4, by omega, hb, rfl⟩
  · have hb := of_decide_eq_false hb
    have ee : e = runEnd l s0 := by omega
    rw [ee]
    exact s_ret (ev_var rfl) fun H4 e4 => hQ.go ((e2.trans e3).trans e4)
theorem ok_run_code (T : Top K w mg) : Def P w K mg base "run_code" 4 ["readings"] (spCode K Vbemaz.runCode) := by
  obtain ⟨fd_run_end, G_run_end, b_run_end, k_run_end, g_run_end⟩ := ok_run_end (P := P) (w := w) (base := base) T
  obtain ⟨fd_folded_self_ending, G_folded_self_ending, b_folded_self_ending, k_folded_self_ending, g_folded_self_ending⟩ := ok_folded_self_ending (P := P) (w := w) (base := base) T
  obtain ⟨fd_self_ending, G_self_ending, b_self_ending, k_self_ending, g_self_ending⟩ := ok_self_ending (P := P) (w := w) (base := base) T
  obtain ⟨fd, F⟩ := T.f_run_code
  refine ⟨fd, F.ok sc_run_code (fun vs H Q E h => by obtain ⟨_, _, rfl, _⟩ := h; rfl) (fun cdv A outer s H vs Q E hr h => ⟨_, PSs.nox (pss_cons (ps_set (i := 1) sc_run_code.nd rfl (Or.inl rfl) (pe_lst pa_nil))
      (pss_cons (ps_set (i := 2) sc_run_code.nd rfl (Or.inl rfl) pe_int)
      (pss_cons (ps_while PassesOwn.never (pt_cmpR op_lt (pv 2) (pe_callB (call_lenK (K := K) rfl) (by rfl) T.b_len PySem.boot_len (pa_cons (pv 0) pa_nil)) (nomark _)) (pss_cons (ps_set (i := 3) sc_run_code.nd rfl (Or.inl rfl) (pe_call G_run_end (hr.mono (by decide)) rfl g_run_end k_run_end b_run_end .nil pass0 (pa_cons (pv 0) (pa_cons (pv 2) pa_nil))))
      (pss_cons (ps_expr (pe_bm PySem.F.plainAttrs_list PySem.F.slot_list_extend PySem.F.type_list_extend mt_extend (pv 1) (pa_cons (pe_call G_folded_self_ending (hr.mono (by decide)) rfl g_folded_self_ending k_folded_self_ending b_folded_self_ending .nil pass0 (pa_cons (pe_ix (ix_listK (K := K) rfl) (pv 0) (pv 2) (fun _ _ => rfl)) pa_nil)) pa_nil)))
      (pss_cons (ps_expr (pe_bm PySem.F.plainAttrs_list PySem.F.slot_list_extend PySem.F.type_list_extend mt_extend (pv 1) (pa_cons (pe_call G_self_ending (hr.mono (by decide)) rfl g_self_ending k_self_ending b_self_ending .nil pass0 (pa_cons (pe_op op_sub (pv 3) (pv 2)) pa_nil)) pa_nil)))
      (pss_one (ps_set (i := 2) sc_run_code.nd rfl (Or.inl rfl) (pv 3)))))))
      (pss_one (ps_ret (pv 1)))))), ?_⟩), F.bindsN (fun _ _ _ _ _ _ us hl => match us, hl with | [_], _ => rfl), F.kp, T.g_run_code⟩
  obtain ⟨a, l, rfl, hS, hne, hR, hQ⟩ := h
  refine q_asgL (el_lst ea_nil (by decide)) fun p H1 hp e1 h1 => ?_
  refine q_asg ev_c fun H2 e2 => ?_
  refine q_while (fun m σ' H' => ∃ (st : Nat) (b : Vbemaz.Bits) (x : Option V), σ' = [some (.ref a), some (.ref p), some (nV st), x] ∧ Ex H H' ∧ H' p = some (.lst (b.map bV)) ∧ st ≤ l.length ∧ b.length ≤ 256 * st ∧ b ++ Vbemaz.runCode (l.drop st) = Vbemaz.runCode l ∧ m = l.length - st) l.length
    ⟨0, [], none, rfl, e1.trans e2, e2 p _ h1, Nat.zero_le _, by simp, rfl, rfl⟩ ?_
  rintro m σ' H' ⟨st, b, x, rfl, e3, h3, h4, h5, h6, rfl⟩
  have hl16 := hR.1
  refine ⟨decide ((st : Int) < ((l.map V.int).length : Int)), et_test (ev_op (ev_var rfl) (ev_lenS (ea_cons (ev_var rfl) ea_nil) (ex_l e3 hS)) rv_I0), fun hb H4 e4 => ?_, fun hb H4 e4 => ?_⟩
  · have hlt : st < l.length := by
      have := of_decide_eq_true hb
      rw [List.length_map] at this
      omega
    have hge : (l.map V.int)[st]? = some (.int (l.getD st 0)) := by
      rw [List.getElem?_map, List.getElem?_eq_getElem hlt, List.getD_eq_getElem?_getD, List.getElem?_eq_getElem hlt]; rfl
    have hgb : (l.getD st 0).natAbs ≤ 1000000000 := by
      rw [List.getD_eq_getElem?_getD, List.getElem?_eq_getElem hlt]
      exact hR.2 _ (List.getElem_mem hlt)
    have hgt := runEnd_gt l st
    have hle := runEnd_le hlt
    have hg1 := gammaOf_len (v := l.getD st 0) (by omega)
    have hg2 := gamma_len (n := runEnd l st - st) (by omega)
    refine ⟨fun σ2 H2 => ∃ m', m' < l.length - st ∧ ∃ (st : Nat) (b : Vbemaz.Bits) (x : Option V), σ2 = [some (.ref a), some (.ref p), some (nV st), x] ∧ Ex H H2 ∧ H2 p = some (.lst (b.map bV)) ∧ st ≤ l.length ∧ b.length ≤ 256 * st ∧ b ++ Vbemaz.runCode (l.drop st) = Vbemaz.runCode l ∧ m' = l.length - st, fun _ _ z => z, ?_⟩
    refine q_asg (ev_call (ea_cons (ev_var rfl) (ea_cons (ev_var rfl) ea_nil)) (sv_runEnd (ex_l (e3.trans e4) hS) hlt)) fun H5 e5 => ?_
    have h7 := e5 p _ (e4 p _ h3)
    refine q_ext h7 (ev_var rfl) (el_call (ea_cons (ev_op (ev_var rfl) (ev_var rfl) (rv_ixL (ex_l ((e3.trans e4).trans e5) hS) (atI_nat hge))) ea_nil) (sl_fse (by omega))) (by rw [List.length_map, List.length_map]; omega) fun H6 e6 => ?_
    have e7 : Ex H (upd H6 p (.lst (b.map bV ++ (Vbemaz.gammaOf (l.getD st 0)).map bV))) := Ex.mut (((e3.trans e4).trans e5).trans e6) hp
    refine q_ext upd_same (ev_var rfl) (el_call (ea_cons (ev_is (w := nV (runEnd l st - st)) (ev_op (ev_var rfl) (ev_var rfl) rv_I0) (by show V.int _ = V.int _; congr 1; omega)) ea_nil) (sl_selfEnding (by omega) (by omega))) (by rw [List.length_append, List.length_map, List.length_map, List.length_map]; omega) fun H8 e8 => ?_
    refine s_asg (ev_var rfl) fun H9 e9 => ⟨l.length - runEnd l st, by omega, runEnd l st, b ++ (Vbemaz.gammaOf (l.getD st 0) ++ Vbemaz.gamma (runEnd l st - st)), some (nV (runEnd l st)), rfl, (Ex.mut (e7.trans e8) hp).trans e9, ?_, hle, ?_, ?_, rfl⟩
    · rw [e9 p _ upd_same]
      simp only [List.map_append, List.append_assoc]
    · rw [List.length_append, List.length_append]
      omega
    · rw [← h6, runCode_drop hlt]
      simp only [List.append_assoc]
  · have hge : l.length ≤ st := by
      have := of_decide_eq_false hb
      rw [List.length_map] at this
      omega
    rw [List.drop_eq_nil_of_le hge] at h6
    have h8 : b = Vbemaz.runCode l := by
      rw [← h6]
      show b = b ++ []
      rw [List.append_nil]
    rw [h8] at h3
    exact s_ret (ev_var rfl) fun H5 e5 => hQ p H5 hp ((e3.trans e4).trans e5) (e5 p _ (e4 p _ h3))
end
end PR
set_option Elab.async false
set_option linter.all false
set_option maxRecDepth 100000
set_option maxHeartbeats 4000000
namespace PR
open PySem PySem.Spec PyProof.Rows L2 Evl
/-! ### the four codes side by side -/
def Coded (H : Hp) (c : Addr) (l : List Int) : Prop := ∃ p : Nat → Addr, H c = some (.lst ((List.range 4).map fun i => V.ref (p i))) ∧ ∀ i, i < 4 → H (p i) = some (.lst ((Vbemaz.codeOf i l).map bV))
theorem Coded.ex {H H' : Hp} {c : Addr} {l : List Int} (h : Coded H c l) (e : Ex H H') : Coded H' c l := by
  obtain ⟨p, h1, h2⟩ := h
  exact ⟨p, e c _ h1, fun i hi => e _ _ (h2 i hi)⟩
def spEach (K : PySem.W.Frag) : Sp := fun vs H Q _ => ∃ (a : Addr) (l : List Int), vs = [.ref a] ∧ SqL K H a (l.map V.int) ∧ l ≠ [] ∧ okR l ∧ ∀ c H', Ex H H' → Coded H' c l → Q (.ref c) H'
def spShortest (K : PySem.W.Frag) : Sp := fun vs H Q _ => ∃ (c : Addr) (l : List Int), vs = [.ref c] ∧ Coded H c l ∧ RetV (nV (Vbemaz.chosen l)) H Q
def spGapBits (K : PySem.W.Frag) : Sp := fun vs H Q _ => ∃ (a : Addr) (l : List Vbemaz.Val), vs = [.ref a] ∧ SqL K H a (l.map gv) ∧ okV l ∧ l.length ≤ 16 ∧ RetL ((gapPart l).map bV) H Q
def spReadingBits (K : PySem.W.Frag) : Sp := fun vs H Q _ => ∃ (a : Addr) (l : List Int), vs = [.ref a] ∧ SqL K H a (l.map V.int) ∧ okR l ∧ RetL ((readPart l).map bV) H Q
def spBlockBits (K : PySem.W.Frag) : Sp := fun vs H Q _ => ∃ (a : Addr) (l : List Vbemaz.Val), vs = [.ref a] ∧ SqL K H a (l.map gv) ∧ okV l ∧ l.length ≤ 16 ∧ l ≠ [] ∧ RetL ((Vbemaz.packed l).map bV) H Q
section
variable {K : PySem.W.Frag} {H : Hp} {a : Addr}
theorem sv_shortest {l : List Int} (h : Coded H a l) : SpV (spShortest K) [.ref a] H (nV (Vbemaz.chosen l)) := fun H1 e _ q _ => ⟨a, l, rfl, h.ex e, q⟩
theorem sl_gapBits {l : List Vbemaz.Val} (h : SqL K H a (l.map gv)) (h1 : okV l) (h2 : l.length ≤ 16) : SpL (spGapBits K) [.ref a] H ((gapPart l).map bV) := fun H1 e _ q _ => ⟨a, l, rfl, ex_l e h, h1, h2, q⟩
theorem sl_readingBits {l : List Int} (h : SqL K H a (l.map V.int)) (h1 : okR l) : SpL (spReadingBits K) [.ref a] H ((readPart l).map bV) := fun H1 e _ q _ => ⟨a, l, rfl, ex_l e h, h1, q⟩
theorem sl_blockBits {l : List Vbemaz.Val} (h : SqL K H a (l.map gv)) (h1 : okV l) (h2 : l.length ≤ 16) (h3 : l ≠ []) : SpL (spBlockBits K) [.ref a] H ((Vbemaz.packed l).map bV) := fun H1 e _ q _ => ⟨a, l, rfl, ex_l e h, h1, h2, h3, q⟩
theorem ev_index {σ : L2.St} {ta te : TE} {ys : List V} {y z : V} {j : Nat} (ha : Ev ta σ H (.ref a)) (he : Ev te σ H y) (h : SqL K H a ys) (hy : flatV y = true) (hf : ys.all flatV = true) (hj : ys[j]? = some z) (hz : eqV z y = true) (hn : ∀ (m : Nat) (z' : V), m < j → ys[m]? = some z' → eqV z' y = false) :
    Ev (tBM K "list" (rIndex K) ta (tCons te tNil)) σ H (nV j) := fun H1 e Q q =>
  ha H1 e _ fun H2 e2 => ⟨Or.inl ⟨rfl, ys, ex_l (e.trans e2) h⟩, he H2 (e.trans e2) _ fun H3 e3 => ⟨a, ys, y, j, z, rfl, rfl, ex_l ((e.trans e2).trans e3) h, hy, hf, hj, hz, hn, q H3 (e2.trans e3)⟩⟩
end
theorem in_gap : ∀ {l : List Vbemaz.Val}, okV l → inV (.int 2000000000) (l.map gv) = l.any fun v => v.isNone
  | [], _ => rfl
  | x :: l, h => by
    have ih := in_gap (l := l) (fun y hy => h y (List.mem_cons_of_mem _ hy))
    show (eqV (gv x) (.int 2000000000) || inV (.int 2000000000) (l.map gv)) = (x.isNone || l.any fun v => v.isNone)
    rw [ih]
    congr 1
    cases x with
    | none => rfl
    | some x =>
      have := h x List.mem_cons_self
      show ((x : Int) == 2000000000) = false
      exact beq_eq_false_iff_ne.mpr (by omega)
theorem okR_present {l : List Vbemaz.Val} (h : okV l) (h2 : l.length ≤ 16) : okR (Vbemaz.present l) := ⟨by have := present_len l; omega, fun x hx => h x (present_mem hx)⟩
section
variable {P : Program} {w : World} {K : PySem.W.Frag} {mg : Str → Option Value} {base : Heap}
theorem ok_in_each_code (T : Top K w mg) : Def P w K mg base "in_each_code" 5 ["readings"] (spEach K) := by
  obtain ⟨fd_run_code, G_run_code, b_run_code, k_run_code, g_run_code⟩ := ok_run_code (P := P) (w := w) (base := base) T
  obtain ⟨fd_change_of_step_code, G_change_of_step_code, b_change_of_step_code, k_change_of_step_code, g_change_of_step_code⟩ := ok_change_of_step_code (P := P) (w := w) (base := base) T
  obtain ⟨fd_step_code, G_step_code, b_step_code, k_step_code, g_step_code⟩ := ok_step_code (P := P) (w := w) (base := base) T
  obtain ⟨fd_plain_code, G_plain_code, b_plain_code, k_plain_code, g_plain_code⟩ := ok_plain_code (P := P) (w := w) (base := base) T
  obtain ⟨fd, F⟩ := T.f_in_each_code
  refine ⟨fd, F.ok sc_in_each_code (fun vs H Q E h => by obtain ⟨_, _, rfl, _⟩ := h; rfl) (fun cdv A outer s H vs Q E hr h => ⟨_, PSs.nox (pss_one (ps_ret (pe_lst (pa_cons (pe_call G_plain_code (hr.mono (by decide)) rfl g_plain_code k_plain_code b_plain_code .nil pass0 (pa_cons (pv 0) pa_nil)) (pa_cons (pe_call G_step_code (hr.mono (by decide)) rfl g_step_code k_step_code b_step_code .nil pass0 (pa_cons (pv 0) pa_nil)) (pa_cons (pe_call G_change_of_step_code (hr.mono (by decide)) rfl g_change_of_step_code k_change_of_step_code b_change_of_step_code .nil pass0 (pa_cons (pv 0) pa_nil)) (pa_cons (pe_call G_run_code (hr.mono (by decide)) rfl g_run_code k_run_code b_run_code .nil pass0 (pa_cons (pv 0) pa_nil)) pa_nil))))))), ?_⟩), F.bindsN (fun _ _ _ _ _ _ us hl => match us, hl with | [_], _ => rfl), F.kp, T.g_in_each_code⟩
  obtain ⟨a, l, rfl, hS, hne, hR, hQ⟩ := h
  refine (el_call (ea_cons (ev_var rfl) ea_nil) (sl_code hS hne hR)) H (Ex.refl H) _ fun p0 H1 n0 e1 h0 => ?_
  refine (el_call (ea_cons (ev_var rfl) ea_nil) (sl_code (ex_l e1 hS) hne hR)) H1 (Ex.refl H1) _ fun p1 H2 n1 e2 h1 => ?_
  refine (el_call (ea_cons (ev_var rfl) ea_nil) (sl_code (ex_l (e1.trans e2) hS) hne hR)) H2 (Ex.refl H2) _ fun p2 H3 n2 e3 h2 => ?_
  refine (el_call (ea_cons (ev_var rfl) ea_nil) (sl_code (ex_l ((e1.trans e2).trans e3) hS) hne hR)) H3 (Ex.refl H3) _ fun p3 H4 n3 e4 h3 => ?_
  refine ⟨show 4 ≤ sizeLine by decide, fun c hc => hQ c _ ((((e1.trans e2).trans e3).trans e4).trans (Ex.new hc)) ⟨fun i => if i = 0 then p0 else if i = 1 then p1 else if i = 2 then p2 else p3, upd_same, fun i hi => ?_⟩⟩
  have g0 := (Ex.new (o := .lst [.ref p0, .ref p1, .ref p2, .ref p3]) hc) p0 _ (e4 p0 _ (e3 p0 _ (e2 p0 _ h0)))
  have g1 := (Ex.new (o := .lst [.ref p0, .ref p1, .ref p2, .ref p3]) hc) p1 _ (e4 p1 _ (e3 p1 _ h1))
  have g2 := (Ex.new (o := .lst [.ref p0, .ref p1, .ref p2, .ref p3]) hc) p2 _ (e4 p2 _ h2)
  have g3 := (Ex.new (o := .lst [.ref p0, .ref p1, .ref p2, .ref p3]) hc) p3 _ h3
  have hi4 : i = 0 ∨ i = 1 ∨ i = 2 ∨ i = 3 := by omega
  rcases hi4 with rfl | rfl | rfl | rfl
  · exact g0
  · exact g1
  · exact g2
  · exact g3
theorem ok_shortest_code (T : Top K w mg) : Def P w K mg base "shortest_code" 1 ["coded"] (spShortest K) := by
  obtain ⟨fd, F⟩ := T.f_shortest_code
  refine ⟨fd, F.ok sc_shortest_code (fun vs H Q E h => by obtain ⟨_, _, rfl, _⟩ := h; rfl) (fun cdv A outer s H vs Q E hr h => ⟨_, PSs.nox (pss_cons (ps_setLc (i := 1) (own := [("bits", 2)]) (g := gName 2) rfl sc_shortest_code.nd rfl rfl (sw_true rfl rfl rfl (by decide +kernel)) (pi_list (pv 0)) (blkOk_by (own := [("bits", 2)]) (N := N_shortest_code) (sc := defScope st_shortest_code) (by decide +kernel)) (fun _ _ _ _ _ => pg_name (i := 2) sc_shortest_code.nd rfl (Or.inl rfl)) (fun _ _ _ _ _ => pts_nil) (fun _ _ _ _ _ => (pe_callB (call_lenK (K := K) rfl) (by rfl) T.b_len PySem.boot_len (pa_cons (pv 2) pa_nil))))
      (pss_one (ps_ret (pe_bm PySem.F.plainAttrs_list PySem.F.slot_list_index PySem.F.type_list_index (mt_indexK (K := K) rfl) (pv 1) (pa_cons (pe_callB (cr_minK (K := K) rfl rfl) (by rfl) T.b_min (by decide +kernel) (pa_cons (pv 1) pa_nil)) pa_nil))))), ?_⟩), F.bindsN (fun _ _ _ _ _ _ us hl => match us, hl with | [_], _ => rfl), F.kp, T.g_shortest_code⟩
  obtain ⟨c, l, rfl, ⟨p, h1, h2⟩, hQ⟩ := h
  refine q_asgL (el_lcA (fun i => V.ref (p i)) (fun i => nV (Vbemaz.codeOf i l).length) (List.range 4) (ev_var rfl) (sq_of h1) (by decide) (fun _ => rfl) (fun x hx H1 e1 => ev_is (ev_lenS (ea_cons (ev_var rfl) ea_nil) (sq_of (e1 _ _ (h2 x (List.mem_range.mp hx))))) (by rw [List.length_map]))) fun q H1 hq e1 h3 => ?_
  have h3' : H1 q = some (.lst (((lens l).map fun (n : Nat) => (n : Int)).map V.int)) := by rw [h3]; unfold lens; rw [List.map_map, List.map_map]; rfl
  obtain ⟨c1, c2⟩ := chosen_at l
  have cm := List.mem_of_getElem? c1
  refine s_ret (ev_index (y := .int ((least (lens l) : Nat) : Int)) (j := Vbemaz.chosen l) (z := .int ((least (lens l) : Nat) : Int)) (ev_var rfl) (ev_min (ea_cons (ev_var rfl) ea_nil) (sq_of h3') (List.mem_map.mpr ⟨_, cm, rfl⟩) (fun y hy => ?_)) (sq_of h3') rfl ?_ ?_ ?_ ?_) fun H2 e2 => hQ.go (e1.trans e2)
  · obtain ⟨n, hn, rfl⟩ := List.mem_map.mp hy
    have := least_le hn
    omega
  · rw [List.map_map, List.all_map]
    exact List.all_eq_true.mpr fun _ _ => rfl
  · rw [List.map_map, List.getElem?_map, c1]
    rfl
  · show (_ == _) = true
    exact beq_self_eq_true _
  · intro m z' hm hz
    rw [List.map_map, List.getElem?_map] at hz
    obtain ⟨n, hn, rfl⟩ := Option.map_eq_some_iff.mp hz
    have := c2 m hm n hn
    show ((n : Int) == ((least (lens l) : Nat) : Int)) = false
    exact beq_eq_false_iff_ne.mpr (by omega)
theorem ok_gap_bits (T : Top K w mg) : Def P w K mg base "gap_bits" 1 ["values"] (spGapBits K) := by
  obtain ⟨_, c_GAP⟩ := T.c_GAP
  obtain ⟨fd, F⟩ := T.f_gap_bits
  refine ⟨fd, F.ok sc_gap_bits (fun vs H Q E h => by obtain ⟨_, _, rfl, _⟩ := h; rfl) (fun cdv A outer s H vs Q E hr h => ⟨_, PSs.nox (pss_cons (ps_if (pt_cmpR (op_notIn_seqK (K := K) rfl) (pe_glob (v := .int (2000000000)) rfl c_GAP ⟨_, rfl⟩) (pv 0) (by rfl)) (pss_one (ps_ret (pe_lst (pa_cons pe_int pa_nil)))) pss_nil)
      (pss_one (ps_ret (pe_op op_cat (pe_lst (pa_cons pe_int pa_nil)) (pe_lc (own := [("value", 1)]) (g := gName 1) rfl sc_gap_bits.nd (pi_list (pv 0)) (blkOk_by (own := [("value", 1)]) (N := N_gap_bits) (sc := defScope st_gap_bits) (by decide +kernel)) (fun _ _ _ _ _ => pg_name (i := 1) sc_gap_bits.nd rfl (Or.inl rfl)) (fun _ _ _ _ _ => pts_nil) (fun _ _ _ _ _ => (pe_ifExp (pt_cmpR op_eq (pv 1) (pe_glob (v := .int (2000000000)) rfl c_GAP ⟨_, rfl⟩) (nomark _)) pe_int pe_int))))))), ?_⟩), F.bindsN (fun _ _ _ _ _ _ us hl => match us, hl with | [_], _ => rfl), F.kp, T.g_gap_bits⟩
  obtain ⟨a, l, rfl, hS, hv, hl, hQ⟩ := h
  have hin : inV (.int 2000000000) (l.map gv) = !decide ((Vbemaz.present l).length = l.length) := by
    rw [← any_gap]
    exact in_gap hv
  have hall : (l.map gv).all flatV = true := by
    rw [List.all_map]
    exact List.all_eq_true.mpr fun _ _ => rfl
  refine q_when (et_is (et_test (ev_op ev_c (ev_var rfl) (rv_niL hS rfl hall))) (show (!inV (.int 2000000000) (l.map gv)) = decide ((Vbemaz.present l).length = l.length) by rw [hin, Bool.not_not])) (fun hb H1 e1 => ?_) (fun hb H1 e1 => ?_)
  · have hb := of_decide_eq_true hb
    refine s_retL (el_is (el_lst (ea_cons ev_c ea_nil) (by decide)) (ys := (gapPart l).map bV) (by unfold gapPart; rw [if_pos hb]; rfl)) fun p H2 hp e2 h2 => hQ.go e1 hp e2 h2
  · have hb := of_decide_eq_false hb
    refine s_retL (el_is (el_cat (el_lst (ea_cons ev_c ea_nil) (by decide)) (el_lcA gv (fun v => bV v.isSome) l (ev_var rfl) (ex_l e1 hS) (by omega) (fun _ => rfl) (fun x hx H2 e2 => ?_)) (by rw [List.length_map]; simp; omega)) (ys := (gapPart l).map bV) (by unfold gapPart; rw [if_neg hb, List.map_cons, List.map_map]; rfl)) fun p H2 hp e2 h2 => hQ.go e1 hp e2 h2
    refine ev_if (et_test (ev_op (ev_var rfl) ev_c (rv_eq rfl))) (fun hx2 => ?_) (fun hx2 => ?_)
    · have g := gap_ne hv hx
      rw [hx2] at g
      have g : false = x.isSome := g
      rw [← g]
      exact ev_c
    · have g := gap_ne hv hx
      rw [hx2] at g
      have g : true = x.isSome := g
      rw [← g]
      exact ev_c
theorem ok_reading_bits (T : Top K w mg) : Def P w K mg base "reading_bits" 6 ["readings"] (spReadingBits K) := by
  obtain ⟨fd_in_each_code, G_in_each_code, b_in_each_code, k_in_each_code, g_in_each_code⟩ := ok_in_each_code (P := P) (w := w) (base := base) T
  obtain ⟨fd_shortest_code, G_shortest_code, b_shortest_code, k_shortest_code, g_shortest_code⟩ := ok_shortest_code (P := P) (w := w) (base := base) T
  obtain ⟨fd_in_bits, G_in_bits, b_in_bits, k_in_bits, g_in_bits⟩ := ok_in_bits (P := P) (w := w) (base := base) T
  obtain ⟨fd, F⟩ := T.f_reading_bits
  refine ⟨fd, F.ok sc_reading_bits (fun vs H Q E h => by obtain ⟨_, _, rfl, _⟩ := h; rfl) (fun cdv A outer s H vs Q E hr h => ⟨_, PSs.nox (pss_cons (ps_if (pt_cmpR op_eq (pe_callB (call_lenK (K := K) rfl) (by rfl) T.b_len PySem.boot_len (pa_cons (pv 0) pa_nil)) pe_int (nomark _)) (pss_one (ps_ret (pe_lst pa_nil))) pss_nil)
      (pss_cons (ps_set (i := 1) sc_reading_bits.nd rfl (Or.inl rfl) (pe_call G_in_each_code (hr.mono (by decide)) rfl g_in_each_code k_in_each_code b_in_each_code .nil pass0 (pa_cons (pv 0) pa_nil)))
      (pss_cons (ps_set (i := 2) sc_reading_bits.nd rfl (Or.inl rfl) (pe_call G_shortest_code (hr.mono (by decide)) rfl g_shortest_code k_shortest_code b_shortest_code .nil pass0 (pa_cons (pv 1) pa_nil)))
      (pss_one (ps_ret (pe_op op_cat (pe_call G_in_bits (hr.mono (by decide)) rfl g_in_bits k_in_bits b_in_bits .nil pass0 (pa_cons (pv 2) (pa_cons pe_int pa_nil))) (pe_ix (ix_listK (K := K) rfl) (pv 1) (pv 2) (fun _ _ => rfl)))))))), ?_⟩), F.bindsN (fun _ _ _ _ _ _ us hl => match us, hl with | [_], _ => rfl), F.kp, T.g_reading_bits⟩
  obtain ⟨a, l, rfl, hS, hR, hQ⟩ := h
  refine q_when (et_test (ev_op (ev_lenS (ea_cons (ev_var rfl) ea_nil) hS) ev_c (rv_eq rfl))) (fun hb H1 e1 => ?_) (fun hb H1 e1 => ?_)
  · have hb : ((l.map V.int).length : Int) = 0 := V.int.inj (of_decide_eq_true hb)
    rw [List.length_map] at hb
    have e : l = [] := List.eq_nil_of_length_eq_zero (by omega)
    subst e
    exact s_retL (el_lst ea_nil (by decide)) fun p H2 hp e2 h2 => hQ.go e1 hp e2 h2
  · have hne : l ≠ [] := by
      rintro rfl
      have := of_decide_eq_false hb
      exact this rfl
    refine ⟨_, rfl, a, l, rfl, ex_l e1 hS, hne, hR, fun c H2 e2 hc => ?_⟩
    refine q_asg (ev_call (ea_cons (ev_var rfl) ea_nil) (sv_shortest hc)) fun H3 e3 => ?_
    obtain ⟨p, h1, h2⟩ := hc.ex e3
    have hlt := chosen_lt l
    refine s_retL (el_is (el_catR (b := p (Vbemaz.chosen l)) (el_call (ea_cons (ev_var rfl) (ea_cons ev_c ea_nil)) (sl_inBits (w := 2) (by decide))) (ev_op (ev_var rfl) (ev_var rfl) (rv_ixL (sq_of h1) (atI_nat (by rw [List.getElem?_map, List.getElem?_range hlt]; rfl)))) (h2 _ hlt) ?_) (ys := (readPart l).map bV) ?_) fun q H4 hq e4 h4 => hQ.go ((e1.trans e2).trans e3) hq e4 h4
    · rw [List.length_map, List.length_map, fixed_len]
      have := code_len hR.1 hR.2 (Vbemaz.chosen l)
      omega
    · unfold readPart
      rw [if_neg (by simpa using hne), List.map_append]
theorem ok_block_bits (T : Top K w mg) : Def P w K mg base "block_bits" 7 ["values"] (spBlockBits K) := by
  obtain ⟨fd_in_bits, G_in_bits, b_in_bits, k_in_bits, g_in_bits⟩ := ok_in_bits (P := P) (w := w) (base := base) T
  obtain ⟨fd_gap_bits, G_gap_bits, b_gap_bits, k_gap_bits, g_gap_bits⟩ := ok_gap_bits (P := P) (w := w) (base := base) T
  obtain ⟨fd_reading_bits, G_reading_bits, b_reading_bits, k_reading_bits, g_reading_bits⟩ := ok_reading_bits (P := P) (w := w) (base := base) T
  obtain ⟨fd_readings_in, G_readings_in, b_readings_in, k_readings_in, g_readings_in⟩ := ok_readings_in (P := P) (w := w) (base := base) T
  obtain ⟨fd, F⟩ := T.f_block_bits
  refine ⟨fd, F.ok sc_block_bits (fun vs H Q E h => by obtain ⟨_, _, rfl, _⟩ := h; rfl) (fun cdv A outer s H vs Q E hr h => ⟨_, PSs.nox (pss_one (ps_ret (pe_op op_cat (pe_op op_cat (pe_call G_in_bits (hr.mono (by decide)) rfl g_in_bits k_in_bits b_in_bits .nil pass0 (pa_cons (pe_op op_sub (pe_callB (call_lenK (K := K) rfl) (by rfl) T.b_len PySem.boot_len (pa_cons (pv 0) pa_nil)) pe_int) (pa_cons pe_int pa_nil))) (pe_call G_gap_bits (hr.mono (by decide)) rfl g_gap_bits k_gap_bits b_gap_bits .nil pass0 (pa_cons (pv 0) pa_nil))) (pe_call G_reading_bits (hr.mono (by decide)) rfl g_reading_bits k_reading_bits b_reading_bits .nil pass0 (pa_cons (pe_call G_readings_in (hr.mono (by decide)) rfl g_readings_in k_readings_in b_readings_in .nil pass0 (pa_cons (pv 0) pa_nil)) pa_nil))))), ?_⟩), F.bindsN (fun _ _ _ _ _ _ us hl => match us, hl with | [_], _ => rfl), F.kp, T.g_block_bits⟩
  obtain ⟨a, l, rfl, hS, hv, hl, hne, hQ⟩ := h
  have hR := okR_present hv hl
  have hpos : 0 < l.length := List.length_pos_iff.mpr hne
  refine s_retL (el_is (el_cat (el_cat (el_call (ea_cons (ev_is (w := nV (l.length - 1)) (ev_op (ev_lenS (ea_cons (ev_var rfl) ea_nil) hS) ev_c rv_I0) (by show V.int _ = V.int _; rw [List.length_map]; congr 1; omega)) (ea_cons ev_c ea_nil)) (sl_inBits (w := 4) (by decide))) (el_call (ea_cons (ev_var rfl) ea_nil) (sl_gapBits hS hv hl)) ?_) (el_callN (el_call (ea_cons (ev_var rfl) ea_nil) (sl_readingsIn hS hv (by omega))) (fun p H1 hp e1 => sl_readingBits (sq_of hp) hR)) ?_) (ys := (Vbemaz.packed l).map bV) ?_) fun q H4 hq e4 h4 => hQ q H4 hq e4 h4
  · rw [List.length_map, List.length_map, fixed_len]
    have := gapPart_len l
    omega
  · rw [List.length_append, List.length_map, List.length_map, List.length_map, fixed_len]
    have := gapPart_len l
    have := readPart_len hR.1 hR.2
    omega
  · rw [packed_is, List.map_append, List.map_append, List.append_assoc]
end
end PR
set_option Elab.async false
set_option linter.all false
set_option maxRecDepth 100000
set_option maxHeartbeats 4000000
namespace PR
open PySem PySem.Spec PyProof.Rows L2 Evl
/-! ### fields and methods, by what they evaluate to -/
theorem lk_here {k : Str} {v : V} {r : List (Str × V)} : List.lookup k ((k, v) :: r) = some v := by
  have e : (k == k) = true := beq_self_eq_true k
  simp only [List.lookup, e]
theorem lk_past {k g : Str} {v : V} {r : List (Str × V)} (h : (k == g) = false) : List.lookup k ((g, v) :: r) = List.lookup k r := by
  simp only [List.lookup, h]
theorem put_here {f : Str} {v x : V} {r : List (Str × V)} : putF f v ((f, x) :: r) = (f, v) :: r := if_pos rfl
theorem put_past {f g : Str} {v x : V} {r : List (Str × V)} (h : ¬ g = f) : putF f v ((g, x) :: r) = (g, x) :: putF f v r := if_neg h
section
variable {K : PySem.W.Frag} {σ : L2.St} {H : Hp} {ta : TE} {x C dx : Addr} {fs : List (Str × V)}
theorem ev_fld {f : Str} {v : V} (ha : Ev ta σ H (.ref x)) (h : H x = some (.ins C dx fs)) (c : Cls K C) (n : NoAttr K C f) (l : fs.lookup f = some v) : Ev (tFld K ta f) σ H v := fun H1 e Q q =>
  ha H1 e _ fun H2 e2 => ⟨x, C, dx, fs, v, rfl, e2 x _ (e x _ h), c, n, l, q H2 e2⟩
theorem ev_meth {m : Str} {sp : Sp} {dvs vs : List V} {E : XK} {t : TA} {z : V} (ha : Ev ta σ H (.ref x)) (h : H x = some (.ins C dx fs)) (l : fs.lookup m = none) (ht : EvA t σ H vs) (hs : SpV sp (.ref x :: (vs ++ dvs)) H z) : Ev (tMeth C m sp dvs E ta t) σ H z := fun H1 e Q q =>
  ha H1 e _ fun H2 e2 => ⟨x, dx, fs, rfl, e2 x _ (e x _ h), l, ht H2 (e.trans e2) _ fun H3 e3 => hs H3 ((e.trans e2).trans e3) Q (fun H4 e4 => q H4 ((e2.trans e3).trans e4)) E⟩
end
/-! ### a series in the heap -/
abbrev serF (pa pc ps : Addr) : List (Str × V) := [("added", .ref pa), ("corrections", .ref pc), ("standing", .ref ps)]
theorem serF_added {pa pc ps : Addr} : (serF pa pc ps).lookup ("added" : Str) = some (.ref pa) := lk_here
theorem serF_corrections {pa pc ps : Addr} : (serF pa pc ps).lookup ("corrections" : Str) = some (.ref pc) := (lk_past (by decide +kernel)).trans lk_here
theorem serF_standing {pa pc ps : Addr} : (serF pa pc ps).lookup ("standing" : Str) = some (.ref ps) := (lk_past (by decide +kernel)).trans ((lk_past (by decide +kernel)).trans lk_here)
theorem serF_none {pa pc ps : Addr} {m : Str} (h1 : (m == ("added" : Str)) = false) (h2 : (m == ("corrections" : Str)) = false) (h3 : (m == ("standing" : Str)) = false) : (serF pa pc ps).lookup m = none := (lk_past h1).trans ((lk_past h2).trans ((lk_past h3).trans rfl))
/-- the corrections' tuples -/
def Fixes (H : Hp) (ts : List Addr) (fs : List (Nat × Vbemaz.Val)) : Prop := ts.length = fs.length ∧ ∀ (i : Nat) (t : Addr) (f : Nat × Vbemaz.Val), ts[i]? = some t → fs[i]? = some f → H t = some (.tup [nV f.1, gv f.2])
structure SerC (C : Addr) (H : Hp) (x pa pc ps : Addr) (s : Vbemaz.Series) : Prop where
  ins : ∃ dx, H x = some (.ins C dx (serF pa pc ps))
  ha : H pa = some (.lst (s.added.map gv))
  hc : ∃ ts : List Addr, H pc = some (.lst (ts.map V.ref)) ∧ Fixes H ts s.fixes
  hs : H ps = some (.lst ((Vbemaz.now s).map gv))
  d1 : pa ≠ pc
  d2 : pa ≠ ps
  d3 : pc ≠ ps
  good : GoodS s
def Ser (C : Addr) (H : Hp) (x : Addr) (F : List Addr) (s : Vbemaz.Series) : Prop := ∃ pa pc ps, F = [pa, pc, ps] ∧ SerC C H x pa pc ps s
theorem SerC.ex {C : Addr} {H H' : Hp} {x pa pc ps : Addr} {s : Vbemaz.Series} (h : SerC C H x pa pc ps s) (e : Ex H H') : SerC C H' x pa pc ps s := by
  obtain ⟨dx, h1⟩ := h.ins
  obtain ⟨ts, h2, h3, h4⟩ := h.hc
  exact ⟨⟨dx, e _ _ h1⟩, e _ _ h.ha, ⟨ts, e _ _ h2, h3, fun i t f a b => e _ _ (h4 i t f a b)⟩, e _ _ h.hs, h.d1, h.d2, h.d3, h.good⟩
theorem Ser.ex {C : Addr} {H H' : Hp} {x : Addr} {F : List Addr} {s : Vbemaz.Series} (h : Ser C H x F s) (e : Ex H H') : Ser C H' x F s := by
  obtain ⟨pa, pc, ps, rfl, h⟩ := h
  exact ⟨pa, pc, ps, rfl, h.ex e⟩
/-- all but x and F stands as it was -/
def Keep (H H' : Hp) (x : Addr) (F : List Addr) : Prop := ∀ b o, H b = some o → b ≠ x → b ∉ F → H' b = some o
/-- what is known stays known -/
def Dom (H H' : Hp) : Prop := ∀ b, H' b = none → H b = none
theorem Dom.ex {H H' : Hp} (e : Ex H H') : Dom H H' := fun b h => fresh_back e h
theorem Dom.trans {H H1 H' : Hp} (a : Dom H H1) (b : Dom H1 H') : Dom H H' := fun c h => a c (b c h)
theorem Dom.upd {H H' : Hp} {p : Addr} {o : HO} (d : Dom H H') : Dom H (upd H' p o) := fun b h => by
  by_cases e : b = p
  · rw [e, upd_same] at h
    cases h
  · rw [upd_ne e] at h
    exact d b h
/-- the series at x becomes s', by its own lists or new ones -/
def Chg (C : Addr) (H H' : Hp) (x : Addr) (F : List Addr) (s' : Vbemaz.Series) : Prop := ∃ F', Ser C H' x F' s' ∧ Keep H H' x F ∧ (∀ b ∈ F', b ∈ F ∨ H b = none) ∧ Dom H H'
theorem Chg.ex {C : Addr} {H H1 H' : Hp} {x : Addr} {F : List Addr} {s' : Vbemaz.Series} (h : Chg C H H1 x F s') (e : Ex H1 H') : Chg C H H' x F s' := by
  obtain ⟨F', a, b, c, d⟩ := h
  exact ⟨F', a.ex e, fun p o q h1 h2 => e _ _ (b p o q h1 h2), c, d.trans (Dom.ex e)⟩
theorem Chg.pre {C : Addr} {H H0 H' : Hp} {x : Addr} {F : List Addr} {s' : Vbemaz.Series} (e : Ex H H0) (h : Chg C H0 H' x F s') : Chg C H H' x F s' := by
  obtain ⟨F', a, b, c, d⟩ := h
  exact ⟨F', a, fun p o q h1 h2 => b p o (e _ _ q) h1 h2, fun p hp => (c p hp).imp id (fresh_back e), (Dom.ex e).trans d⟩
abbrev cSer (K : PySem.W.Frag) : Addr := He.ga K "Series"
def spSerInit (K : PySem.W.Frag) : Sp := fun vs H Q _ => ∃ (x dx : Addr), vs = [.ref x] ∧ H x = some (.ins (cSer K) dx []) ∧ ∀ H', Chg (cSer K) H H' x [] ⟨[], []⟩ → Q .non H'
def spSerEmpty (K : PySem.W.Frag) : Sp := fun vs H Q _ => ∃ (x : Addr) (F : List Addr) (s : Vbemaz.Series), vs = [.ref x] ∧ Ser (cSer K) H x F s ∧ ∀ H', Chg (cSer K) H H' x F ⟨[], []⟩ → Q .non H'
def spSerCount (K : PySem.W.Frag) : Sp := fun vs H Q _ => ∃ (x : Addr) (F : List Addr) (s : Vbemaz.Series), vs = [.ref x] ∧ Ser (cSer K) H x F s ∧ RetV (nV s.added.length) H Q
def spSerHas (K : PySem.W.Frag) : Sp := fun vs H Q _ => ∃ (x : Addr) (F : List Addr) (s : Vbemaz.Series) (k : Nat), vs = [.ref x, nV k] ∧ Ser (cSer K) H x F s ∧ RetV (.bl (decide (k < s.added.length))) H Q
def spSerFixes (K : PySem.W.Frag) : Sp := fun vs H Q _ => ∃ (x : Addr) (F : List Addr) (s : Vbemaz.Series), vs = [.ref x] ∧ Ser (cSer K) H x F s ∧ RetV (nV s.fixes.length) H Q
def spSerPut (K : PySem.W.Frag) : Sp := fun vs H Q _ => ∃ (x r : Addr) (F : List Addr) (s : Vbemaz.Series) (l : List Vbemaz.Val), vs = [.ref x, .ref r] ∧ Ser (cSer K) H x F s ∧ H r = some (.lst (l.map gv)) ∧ r ∉ F ∧ okV l ∧ s.added.length + l.length ≤ 400 ∧ ∀ H', Chg (cSer K) H H' x F { s with added := s.added ++ l } → Q .non H'
def spSerFix (K : PySem.W.Frag) : Sp := fun vs H Q _ => ∃ (x : Addr) (F : List Addr) (s : Vbemaz.Series) (k : Nat) (v : Vbemaz.Val), vs = [.ref x, nV k, gv v] ∧ Ser (cSer K) H x F s ∧ k < s.added.length ∧ (∀ z, v = some z → z.natAbs ≤ 1000000000) ∧ s.fixes.length < 60 ∧ ∀ H', Chg (cSer K) H H' x F { s with fixes := s.fixes ++ [(k, v)] } → Q .non H'
def spSerAsOf (K : PySem.W.Frag) : Sp := fun vs H Q _ => ∃ (x : Addr) (F : List Addr) (s : Vbemaz.Series) (k n : Nat), vs = [.ref x, nV k, nV n] ∧ Ser (cSer K) H x F s ∧ k < s.added.length ∧ n ≤ s.fixes.length ∧ RetV (gv ((Vbemaz.asOf s n).getD k none)) H Q
def spSerVals (K : PySem.W.Frag) : Sp := fun vs H Q _ => ∃ (x : Addr) (F : List Addr) (s : Vbemaz.Series) (k n : Nat), vs = [.ref x, nV k, nV n] ∧ Ser (cSer K) H x F s ∧ k < s.added.length ∧ n ≤ s.fixes.length ∧ RetL ((valsTo s k n).map gv) H Q
theorem el_meth {σ : L2.St} {H : Hp} {ta : TE} {x C dx : Addr} {fs : List (Str × V)} {m : Str} {sp : Sp} {dvs vs ys : List V} {E : XK} {t : TA} (ha : Ev ta σ H (.ref x)) (h : H x = some (.ins C dx fs)) (l : fs.lookup m = none) (ht : EvA t σ H vs) (hs : SpL sp (.ref x :: (vs ++ dvs)) H ys) : EvL (tMeth C m sp dvs E ta t) σ H ys := fun H1 e Q q =>
  ha H1 e _ fun H2 e2 => ⟨x, dx, fs, rfl, e2 x _ (e x _ h), l, ht H2 (e.trans e2) _ fun H3 e3 => hs H3 ((e.trans e2).trans e3) Q (fun p H4 hp e4 h4 => q p H4 (fresh_back (e2.trans e3) hp) ((e2.trans e3).trans e4) h4) E⟩
theorem sl_vals {K : PySem.W.Frag} {H : Hp} {x : Addr} {F : List Addr} {s : Vbemaz.Series} {k n : Nat} (h : Ser (cSer K) H x F s) (hk : k < s.added.length) (hn : n ≤ s.fixes.length) : SpL (spSerVals K) [.ref x, nV k, nV n] H ((valsTo s k n).map gv) := fun H1 e _ q _ => ⟨x, F, s, k, n, rfl, h.ex e, hk, hn, q⟩
abbrev ser1 (a : V) : List (Str × V) := [("added", a)]
abbrev ser2 (a b : V) : List (Str × V) := [("added", a), ("corrections", b)]
abbrev ser3 (a b c : V) : List (Str × V) := [("added", a), ("corrections", b), ("standing", c)]
theorem putF_ser1 {a : V} : putF "added" a [] = ser1 a := rfl
theorem putF_ser2 {a b : V} : putF "corrections" b (ser1 a) = ser2 a b := (put_past (by decide +kernel)).trans rfl
theorem putF_ser3 {a b c : V} : putF "standing" c (ser2 a b) = ser3 a b c := (put_past (by decide +kernel)).trans (congrArg _ ((put_past (by decide +kernel)).trans rfl))
theorem putF_added {a b c y : V} : putF "added" y (ser3 a b c) = ser3 y b c := put_here
theorem putF_corrections {a b c y : V} : putF "corrections" y (ser3 a b c) = ser3 a y c := (put_past (by decide +kernel)).trans (congrArg _ put_here)
theorem putF_standing {a b c y : V} : putF "standing" y (ser3 a b c) = ser3 a b y := (put_past (by decide +kernel)).trans (congrArg _ ((put_past (by decide +kernel)).trans (congrArg _ put_here)))
theorem ser1_len {a : V} : (ser1 a).length < 1000 := show 1 < 1000 by decide
theorem ser2_len {a b : V} : (ser2 a b).length < 1000 := show 2 < 1000 by decide
theorem ser3_len {a b c : V} : (ser3 a b c).length < 1000 := show 3 < 1000 by decide
theorem now_empty : Vbemaz.now ⟨[], []⟩ = [] := rfl
/-- three new lists put into the fields of x -/
theorem chg_fresh {C : Addr} {H : Hp} {x dx p1 p2 p3 : Addr} {F : List Addr} {o1 o2 o3 : HO} {o : HO} (hx : H x = some o) (h1 : H p1 = none) (h2 : (upd (upd H p1 (.lst [])) x o1) p2 = none) (h3 : (upd (upd (upd (upd H p1 (.lst [])) x o1) p2 (.lst [])) x o2) p3 = none)
    (e3 : o3 = .ins C dx (serF p1 p2 p3)) : Chg C H (upd (upd (upd (upd (upd (upd H p1 (.lst [])) x o1) p2 (.lst [])) x o2) p3 (.lst [])) x o3) x F ⟨[], []⟩ := by
  have n1 : x ≠ p1 := ne_of_none hx h1
  have n2 : x ≠ p2 := by
    intro z
    rw [← z, upd_same] at h2
    cases h2
  have n3 : x ≠ p3 := by
    intro z
    rw [← z, upd_same] at h3
    cases h3
  have m12 : p1 ≠ p2 := by
    intro z
    rw [← z, upd_ne n1.symm, upd_same] at h2
    cases h2
  have m13 : p1 ≠ p3 := by
    intro z
    rw [← z, upd_ne n1.symm, upd_ne m12, upd_ne n1.symm, upd_same] at h3
    cases h3
  have m23 : p2 ≠ p3 := by
    intro z
    rw [← z, upd_ne n2.symm, upd_same] at h3
    cases h3
  have g2 : H p2 = none := by rwa [upd_ne n2.symm, upd_ne m12.symm] at h2
  have g3 : H p3 = none := by rwa [upd_ne n3.symm, upd_ne m23.symm, upd_ne n3.symm, upd_ne m13.symm] at h3
  refine ⟨[p1, p2, p3], ⟨p1, p2, p3, rfl, ⟨dx, by rw [upd_same, e3]⟩, ?_, ⟨[], ?_, rfl, fun i t f a b => by simp at a⟩, ?_, m12, m13, m23, good_empty⟩, ?_, ?_, (Dom.ex (Ex.refl H)).upd.upd.upd.upd.upd.upd⟩
  · rw [upd_ne n1.symm, upd_ne m13, upd_ne n1.symm, upd_ne m12, upd_ne n1.symm, upd_same]
    rfl
  · rw [upd_ne n2.symm, upd_ne m23, upd_ne n2.symm, upd_same]
    rfl
  · rw [upd_ne n3.symm, upd_same]
    rfl
  · intro b o hb hbx _
    rw [upd_ne hbx, upd_ne (ne_of_none hb g3), upd_ne hbx, upd_ne (ne_of_none hb g2), upd_ne hbx, upd_ne (ne_of_none hb h1)]
    exact hb
  · intro b hb
    simp only [List.mem_cons, List.not_mem_nil, or_false] at hb
    rcases hb with rfl | rfl | rfl
    · exact .inr h1
    · exact .inr g2
    · exact .inr g3
section
variable {P : Program} {w : World} {K : PySem.W.Frag} {mg : Str → Option Value} {base : Heap}
theorem ok_Series___init__ (T : Top K w mg) : DefM P w K mg base "Series" "__init__" 1 ["self"] (spSerInit K) := by
  obtain ⟨fd, F⟩ := T.f_Series___init__
  refine ⟨fd, F.ok sc_Series___init__ (fun vs H Q E h => by obtain ⟨_, _, rfl, _⟩ := h; rfl) (fun cdv A outer s H vs Q E hr h => ⟨_, PSs.nox (pss_cons (ps_fld (pv 0) (pe_lst pa_nil) rfl)
      (pss_cons (ps_fld (pv 0) (pe_lst pa_nil) rfl)
      (pss_one (ps_fld (pv 0) (pe_lst pa_nil) rfl)))), ?_⟩), F.bindsN (fun _ _ _ _ _ _ us hl => match us, hl with | [_], _ => rfl)⟩
  obtain ⟨x, dx, rfl, hx, hQ⟩ := h
  refine ⟨show 0 ≤ sizeLine by decide, fun p1 h1 => ⟨_, rfl, x, _, dx, [], rfl, by rw [upd_ne (ne_of_none hx h1)]; exact hx, T.cl_Series, T.n_Series_added, show 0 < 1000 by decide, ?_⟩⟩
  refine ⟨show 0 ≤ sizeLine by decide, fun p2 h2 => ⟨_, rfl, x, _, dx, _, rfl, by rw [upd_ne (by intro z; rw [← z, upd_same] at h2; cases h2), upd_same], T.cl_Series, T.n_Series_corrections, by rw [putF_ser1]; exact ser1_len, ?_⟩⟩
  refine ⟨show 0 ≤ sizeLine by decide, fun p3 h3 => ⟨_, rfl, x, _, dx, _, rfl, by rw [upd_ne (by intro z; rw [← z, upd_same] at h3; cases h3), upd_same], T.cl_Series, T.n_Series_standing, by rw [putF_ser1, putF_ser2]; exact ser2_len, ?_⟩⟩
  refine hQ _ (chg_fresh (dx := dx) hx h1 h2 h3 ?_)
  rw [putF_ser1, putF_ser2, putF_ser3]
theorem ok_Series_make_empty (T : Top K w mg) : DefM P w K mg base "Series" "make_empty" 1 ["self"] (spSerEmpty K) := by
  obtain ⟨fd, F⟩ := T.f_Series_make_empty
  refine ⟨fd, F.ok sc_Series_make_empty (fun vs H Q E h => by obtain ⟨_, _, _, rfl, _⟩ := h; rfl) (fun cdv A outer s H vs Q E hr h => ⟨_, PSs.nox (pss_cons (ps_fld (pv 0) (pe_lst pa_nil) rfl)
      (pss_cons (ps_fld (pv 0) (pe_lst pa_nil) rfl)
      (pss_one (ps_fld (pv 0) (pe_lst pa_nil) rfl)))), ?_⟩), F.bindsN (fun _ _ _ _ _ _ us hl => match us, hl with | [_], _ => rfl)⟩
  obtain ⟨x, F, s0, rfl, ⟨pa, pc, ps, rfl, hser⟩, hQ⟩ := h
  obtain ⟨dx, hx⟩ := hser.ins
  refine ⟨show 0 ≤ sizeLine by decide, fun p1 h1 => ⟨_, rfl, x, _, dx, _, rfl, by rw [upd_ne (ne_of_none hx h1)]; exact hx, T.cl_Series, T.n_Series_added, ser3_len (a := .ref pa) (b := .ref pc) (c := .ref ps), ?_⟩⟩
  refine ⟨show 0 ≤ sizeLine by decide, fun p2 h2 => ⟨_, rfl, x, _, dx, _, rfl, by rw [upd_ne (by intro z; rw [← z, upd_same] at h2; cases h2), upd_same], T.cl_Series, T.n_Series_corrections, by rw [putF_added]; exact ser3_len, ?_⟩⟩
  refine ⟨show 0 ≤ sizeLine by decide, fun p3 h3 => ⟨_, rfl, x, _, dx, _, rfl, by rw [upd_ne (by intro z; rw [← z, upd_same] at h3; cases h3), upd_same], T.cl_Series, T.n_Series_standing, by rw [putF_added, putF_corrections]; exact ser3_len, ?_⟩⟩
  refine hQ _ (chg_fresh (dx := dx) hx h1 h2 h3 ?_)
  rw [putF_added, putF_corrections, putF_standing]
theorem ok_Series_place_count (T : Top K w mg) : DefM P w K mg base "Series" "place_count" 1 ["self"] (spSerCount K) := by
  obtain ⟨fd, F⟩ := T.f_Series_place_count
  refine ⟨fd, F.ok sc_Series_place_count (fun vs H Q E h => by obtain ⟨_, _, _, rfl, _⟩ := h; rfl) (fun cdv A outer s H vs Q E hr h => ⟨_, PSs.nox (pss_one (ps_ret (pe_callB (call_lenK (K := K) rfl) (by rfl) T.b_len PySem.boot_len (pa_cons (pe_fldK (K := K) rfl (pv 0) rfl) pa_nil)))), ?_⟩), F.bindsN (fun _ _ _ _ _ _ us hl => match us, hl with | [_], _ => rfl)⟩
  obtain ⟨x, F, s0, rfl, ⟨pa, pc, ps, rfl, hser⟩, hQ⟩ := h
  obtain ⟨dx, hx⟩ := hser.ins
  refine s_ret (ev_is (ev_lenS (ea_cons (ev_fld (ev_var rfl) hx T.cl_Series T.n_Series_added serF_added) ea_nil) (sq_of hser.ha)) (by rw [List.length_map])) fun H1 e1 => hQ.go e1
theorem ok_Series_has_place (T : Top K w mg) : DefM P w K mg base "Series" "has_place" 1 ["self", "place"] (spSerHas K) := by
  obtain ⟨fd, F⟩ := T.f_Series_has_place
  refine ⟨fd, F.ok sc_Series_has_place (fun vs H Q E h => by obtain ⟨_, _, _, _, rfl, _⟩ := h; rfl) (fun cdv A outer s H vs Q E hr h => ⟨_, PSs.nox (pss_one (ps_ret (pe_cmpR op_lt (pv 1) (pe_callB (call_lenK (K := K) rfl) (by rfl) T.b_len PySem.boot_len (pa_cons (pe_fldK (K := K) rfl (pv 0) rfl) pa_nil)) (nomark _)))), ?_⟩), F.bindsN (fun _ _ _ _ _ _ us hl => match us, hl with | [_, _], _ => rfl)⟩
  obtain ⟨x, F, s0, k, rfl, ⟨pa, pc, ps, rfl, hser⟩, hQ⟩ := h
  obtain ⟨dx, hx⟩ := hser.ins
  refine s_ret (ev_is (w := .bl (decide (k < s0.added.length))) (ev_op (ev_var rfl) (ev_lenS (ea_cons (ev_fld (ev_var rfl) hx T.cl_Series T.n_Series_added serF_added) ea_nil) (sq_of hser.ha)) rv_I0) ?_) fun H1 e1 => hQ.go e1
  rw [List.length_map]
  show V.bl _ = V.bl _
  congr 1
  exact decide_eq_decide.mpr (by omega)
theorem ok_Series_correction_count (T : Top K w mg) : DefM P w K mg base "Series" "correction_count" 1 ["self"] (spSerFixes K) := by
  obtain ⟨fd, F⟩ := T.f_Series_correction_count
  refine ⟨fd, F.ok sc_Series_correction_count (fun vs H Q E h => by obtain ⟨_, _, _, rfl, _⟩ := h; rfl) (fun cdv A outer s H vs Q E hr h => ⟨_, PSs.nox (pss_one (ps_ret (pe_callB (call_lenK (K := K) rfl) (by rfl) T.b_len PySem.boot_len (pa_cons (pe_fldK (K := K) rfl (pv 0) rfl) pa_nil)))), ?_⟩), F.bindsN (fun _ _ _ _ _ _ us hl => match us, hl with | [_], _ => rfl)⟩
  obtain ⟨x, F, s0, rfl, ⟨pa, pc, ps, rfl, hser⟩, hQ⟩ := h
  obtain ⟨dx, hx⟩ := hser.ins
  obtain ⟨ts, hc, hf, _⟩ := hser.hc
  refine s_ret (ev_is (ev_lenS (ea_cons (ev_fld (ev_var rfl) hx T.cl_Series T.n_Series_corrections serF_corrections) ea_nil) (sq_of hc)) (by rw [List.length_map, hf])) fun H1 e1 => hQ.go e1
theorem ok_Series_put_behind (T : Top K w mg) : DefM P w K mg base "Series" "put_behind" 1 ["self", "row"] (spSerPut K) := by
  obtain ⟨fd, F⟩ := T.f_Series_put_behind
  refine ⟨fd, F.ok sc_Series_put_behind (fun vs H Q E h => by obtain ⟨_, _, _, _, _, rfl, _⟩ := h; rfl) (fun cdv A outer s H vs Q E hr h => ⟨_, PSs.nox (pss_cons (ps_expr (pe_bm PySem.F.plainAttrs_list PySem.F.slot_list_extend PySem.F.type_list_extend mt_extend (pe_fldK (K := K) rfl (pv 0) rfl) (pa_cons (pv 1) pa_nil)))
      (pss_one (ps_expr (pe_bm PySem.F.plainAttrs_list PySem.F.slot_list_extend PySem.F.type_list_extend mt_extend (pe_fldK (K := K) rfl (pv 0) rfl) (pa_cons (pv 1) pa_nil))))), ?_⟩), F.bindsN (fun _ _ _ _ _ _ us hl => match us, hl with | [_, _], _ => rfl)⟩
  obtain ⟨x, r, F, s0, l, rfl, ⟨pa, pc, ps, rfl, hser⟩, hr0, hrF, hl, hn, hQ⟩ := h
  obtain ⟨dx, hx⟩ := hser.ins
  obtain ⟨ts, hc, hf, ht⟩ := hser.hc
  have nxa : x ≠ pa := ne_of hx hser.ha (by intro z; cases z)
  have nxs : x ≠ ps := ne_of hx hser.hs (by intro z; cases z)
  have nra : r ≠ pa := fun z => hrF (by rw [z]; simp)
  have hlen : (Vbemaz.now s0).length = s0.added.length := now_len s0
  refine q_extR hser.ha (ev_fld (ev_var rfl) hx T.cl_Series T.n_Series_added serF_added) (ev_var rfl) hr0 (by simp only [List.length_map]; omega) fun H1 e1 => ?_
  refine s_extR (l := ps) (xs := (Vbemaz.now s0).map gv) (b := r) (ys := l.map gv) (by rw [upd_ne hser.d2.symm]; exact e1 _ _ hser.hs) (ev_fld (ev_var rfl) (by rw [upd_ne nxa]; exact e1 _ _ hx) T.cl_Series T.n_Series_standing serF_standing) (ev_var rfl) (by rw [upd_ne nra]; exact e1 _ _ hr0) (by simp only [List.length_map]; omega) fun H2 e2 => ?_
  refine hQ _ ⟨[pa, pc, ps], ⟨pa, pc, ps, rfl, ⟨dx, ?_⟩, ?_, ⟨ts, ?_, hf, fun i t f a b => ?_⟩, ?_, hser.d1, hser.d2, hser.d3, good_add hser.good hl hn⟩, fun b o hb h1 h2 => ?_, fun b hb => .inl hb, (((Dom.ex e1).upd).trans (Dom.ex e2)).upd⟩
  · rw [upd_ne nxs]
    exact e2 _ _ (by rw [upd_ne nxa]; exact e1 _ _ hx)
  · rw [upd_ne hser.d2]
    rw [e2 pa _ upd_same, List.map_append]
  · rw [upd_ne hser.d3]
    exact e2 _ _ (by rw [upd_ne hser.d1.symm]; exact e1 _ _ hc)
  · have h := ht i t f a b
    rw [upd_ne (ne_of h hser.hs (by intro z; cases z))]
    exact e2 _ _ (by rw [upd_ne (ne_of h hser.ha (by intro z; cases z))]; exact e1 _ _ h)
  · rw [upd_same, now_added hser.good, List.map_append]
  · simp only [List.mem_cons, List.not_mem_nil, or_false, not_or] at h2
    rw [upd_ne h2.2.2]
    exact e2 _ _ (by rw [upd_ne h2.1]; exact e1 _ _ hb)
theorem ok_Series_correct (T : Top K w mg) : DefM P w K mg base "Series" "correct" 1 ["self", "place", "value"] (spSerFix K) := by
  obtain ⟨fd, F⟩ := T.f_Series_correct
  refine ⟨fd, F.ok sc_Series_correct (fun vs H Q E h => by obtain ⟨_, _, _, _, _, rfl, _⟩ := h; rfl) (fun cdv A outer s H vs Q E hr h => ⟨_, PSs.nox (pss_cons (ps_expr (pe_bm PySem.F.plainAttrs_list PySem.F.slot_list_append PySem.F.type_list_append mt_append (pe_fldK (K := K) rfl (pv 0) rfl) (pa_cons (pe_tup (pa_cons (pv 1) (pa_cons (pv 2) pa_nil))) pa_nil)))
      (pss_one (ps_asg (pv 2) (pg_sub (pe_fldK (K := K) rfl (pv 0) rfl) (pv 1) set_list)))), ?_⟩), F.bindsN (fun _ _ _ _ _ _ us hl => match us, hl with | [_, _, _], _ => rfl)⟩
  obtain ⟨x, F, s0, k, v, rfl, ⟨pa, pc, ps, rfl, hser⟩, hk, hv, hn, hQ⟩ := h
  obtain ⟨dx, hx⟩ := hser.ins
  obtain ⟨ts, hc, hf, ht⟩ := hser.hc
  have nxc : x ≠ pc := ne_of hx hc (by intro z; cases z)
  have nxs : x ≠ ps := ne_of hx hser.hs (by intro z; cases z)
  have hlen : (Vbemaz.now s0).length = s0.added.length := now_len s0
  refine q_appU hc (ev_fld (ev_var rfl) hx T.cl_Series T.n_Series_corrections serF_corrections) (eu_tup (ea_cons (ev_var rfl) (ea_cons (ev_var rfl) ea_nil)) (show 2 ≤ 100000 by decide)) (by rw [List.length_map, hf]; omega) fun t H1 ht0 e1 ht1 => ?_
  have ntc : t ≠ pc := (ne_of_none hc ht0).symm
  have nts : t ≠ ps := (ne_of_none hser.hs ht0).symm
  refine s_setL (l := ps) (xs := (Vbemaz.now s0).map gv) (j := k) (by rw [upd_ne hser.d3.symm]; exact e1 _ _ hser.hs) (ev_var rfl) (ev_fld (ev_var rfl) (by rw [upd_ne nxc]; exact e1 _ _ hx) T.cl_Series T.n_Series_standing serF_standing) (ev_var rfl) (by rw [List.length_map, hlen]; exact hk) fun H2 e2 => ?_
  refine hQ _ ⟨[pa, pc, ps], ⟨pa, pc, ps, rfl, ⟨dx, ?_⟩, ?_, ⟨ts ++ [t], ?_, ?_, fun i u f a b => ?_⟩, ?_, hser.d1, hser.d2, hser.d3, good_fix hser.good hk hv hn⟩, fun b o hb h1 h2 => ?_, fun b hb => .inl hb, (((Dom.ex e1).upd).trans (Dom.ex e2)).upd⟩
  · rw [upd_ne nxs]
    exact e2 _ _ (by rw [upd_ne nxc]; exact e1 _ _ hx)
  · rw [upd_ne hser.d2]
    exact e2 _ _ (by rw [upd_ne hser.d1]; exact e1 _ _ hser.ha)
  · rw [upd_ne hser.d3, e2 pc _ upd_same, List.map_append]
    rfl
  · show (ts ++ [t]).length = (s0.fixes ++ [(k, v)]).length
    rw [List.length_append, List.length_append, hf]
    rfl
  · have b : (s0.fixes ++ [(k, v)])[i]? = some f := b
    by_cases hi : i < ts.length
    · rw [List.getElem?_append_left hi] at a
      rw [List.getElem?_append_left (by omega)] at b
      have h := ht i u f a b
      rw [upd_ne (ne_of h hser.hs (by intro z; cases z))]
      exact e2 _ _ (by rw [upd_ne (ne_of h hc (by intro z; cases z))]; exact e1 _ _ h)
    · rw [List.getElem?_append_right (by omega)] at a
      rw [List.getElem?_append_right (by omega)] at b
      have hi2 : i - ts.length = 0 := by
        have := (List.getElem?_eq_some_iff.mp a).1
        simp at this
        omega
      rw [hi2] at a
      rw [← hf, hi2] at b
      obtain rfl : t = u := Option.some.inj a
      obtain rfl : (k, v) = f := Option.some.inj b
      rw [upd_ne nts]
      exact e2 _ _ (by rw [upd_ne ntc]; exact ht1)
  · rw [upd_same, now_fixed, List.map_set]
  · simp only [List.mem_cons, List.not_mem_nil, or_false, not_or] at h2
    rw [upd_ne h2.2.2]
    exact e2 _ _ (by rw [upd_ne h2.2.1]; exact e1 _ _ hb)
theorem ok_Series_values_up_to (T : Top K w mg) : DefM P w K mg base "Series" "values_up_to" 1 ["self", "place", "done"] (spSerVals K) := by
  obtain ⟨fd, F⟩ := T.f_Series_values_up_to
  refine ⟨fd, F.ok sc_Series_values_up_to (fun vs H Q E h => by obtain ⟨_, _, _, _, _, rfl, _⟩ := h; rfl) (fun cdv A outer s H vs Q E hr h => ⟨_, PSs.nox (pss_one (ps_ret (pe_op op_cat (pe_lst (pa_cons (pe_ix (ix_listK (K := K) rfl) (pe_fldK (K := K) rfl (pv 0) rfl) (pv 1) (fun _ _ => rfl)) pa_nil)) (pe_lc (own := [("put", 3)]) (g := gName 3) rfl sc_Series_values_up_to.nd (pi_list (pe_slice (sl_listK (K := K) rfl) (pe_fldK (K := K) rfl (pv 0) rfl) po_none (po_some (pv 2)))) (blkOk_by (own := [("put", 3)]) (N := N_Series_values_up_to) (sc := defScope st_Series_values_up_to) (by decide +kernel)) (fun _ _ _ _ _ => pg_name (i := 3) sc_Series_values_up_to.nd rfl (Or.inl rfl)) (fun _ _ _ _ _ => (pts_one (pt_cmpR op_eq (pe_ix (ix_tupK (K := K) rfl) (pv 3) pe_int (fun _ _ => rfl)) (pv 1) (nomark _)))) (fun _ _ _ _ _ => (pe_ix (ix_tupK (K := K) rfl) (pv 3) pe_int (fun _ _ => rfl))))))), ?_⟩), F.bindsN (fun _ _ _ _ _ _ us hl => match us, hl with | [_, _, _], _ => rfl)⟩
  obtain ⟨x, F, s0, k, n, rfl, ⟨pa, pc, ps, rfl, hser⟩, hk, hn, hQ⟩ := h
  obtain ⟨dx, hx⟩ := hser.ins
  obtain ⟨ts, hc, hf, ht⟩ := hser.hc
  have hlf := hser.good.lf
  have hg : (s0.added.map gv)[k]? = some (gv (s0.added.getD k none)) := by
    rw [List.getElem?_map, List.getElem?_eq_getElem hk, List.getD_eq_getElem?_getD, List.getElem?_eq_getElem hk]; rfl
  have hcut : cutV (ts.map V.ref) none (some (n : Int)) = ((ts.zip s0.fixes).take n).map fun q => V.ref q.1 := by
    have e : (ts.zip s0.fixes).map Prod.fst = ts := List.map_fst_zip (by omega)
    unfold cutV
    rw [HT.sIx_none, HT.sIx_nat, List.length_map, hf, Nat.min_eq_left hn, List.drop_zero, Nat.sub_zero, List.map_take, ← e, List.map_map]
    rw [e]
    rfl
  have hres : ((((ts.zip s0.fixes).take n).filter fun q => q.2.1 == k).map fun q => gv q.2.2) = (((s0.fixes.take n).filter fun f => f.1 == k).map fun f => f.2).map gv := by
    have e : (ts.zip s0.fixes).map Prod.snd = s0.fixes := List.map_snd_zip (by omega)
    have e2 : s0.fixes.take n = ((ts.zip s0.fixes).take n).map Prod.snd := by rw [List.map_take, e]
    rw [e2, List.filter_map, List.map_map, List.map_map]
    rfl
  have hmem : ∀ q, q ∈ (ts.zip s0.fixes).take n → H q.1 = some (.tup [nV q.2.1, gv q.2.2]) := by
    intro q hq
    obtain ⟨i, hi, e⟩ := List.getElem_of_mem (List.mem_of_mem_take hq)
    rw [List.getElem_zip] at e
    rw [List.length_zip] at hi
    subst e
    exact ht i _ _ (List.getElem?_eq_getElem (by omega)) (List.getElem?_eq_getElem (by omega))
  have hlz : ((ts.zip s0.fixes).take n).length ≤ 60 := by
    rw [List.length_take, List.length_zip]
    omega
  refine s_retL (el_is (el_cat (el_lst (ea_cons (ev_op (ev_fld (ev_var rfl) hx T.cl_Series T.n_Series_added serF_added) (ev_var rfl) (rv_ixL (sq_of hser.ha) (atI_nat hg))) ea_nil) (show 1 ≤ 100000 by decide))
    (el_lcNM (K := K) (fun q : Addr × (Nat × Vbemaz.Val) => V.ref q.1) (fun q => q.2.1 == k) (fun q => gv q.2.2) ((ts.zip s0.fixes).take n) (el_is (el_sl (ev_fld (ev_var rfl) hx T.cl_Series T.n_Series_corrections serF_corrections) eo_none (eo_some (ev_var rfl)) (sq_of hc)) hcut) (by omega) (fun _ => rfl) (fun q hq H1 e1 => ?_) (fun q hq H1 e1 hb => ?_)) ?_) (ys := (valsTo s0 k n).map gv) ?_) fun p H1 hp e1 h1 => hQ p H1 hp e1 h1
  · refine et_is (et_test (ev_op (ev_op (ev_var rfl) ev_c (rv_ixT (st_of (e1 _ _ (hmem q hq))) (at_of (j := 0) rfl rfl))) (ev_var rfl) (rv_eq rfl))) ?_
    show decide (V.int (q.2.1 : Nat) = V.int (k : Nat)) = (q.2.1 == k)
    by_cases z : q.2.1 = k
    · rw [z]; simp
    · rw [beq_eq_false_iff_ne.mpr z]
      exact decide_eq_false fun y => z (by have := V.int.inj y; omega)
  · exact ev_op (ev_var rfl) ev_c (rv_ixT (st_of (e1 _ _ (hmem q hq))) (at_of (j := 1) rfl rfl))
  · have h1 := List.length_filter_le (fun q : Addr × (Nat × Vbemaz.Val) => q.2.1 == k) ((ts.zip s0.fixes).take n)
    rw [List.length_map]
    show 1 + _ ≤ 100000
    omega
  · rw [hres]
    rfl
theorem ok_Series_value_as_of (T : Top K w mg) : DefM P w K mg base "Series" "value_as_of" 2 ["self", "place", "done"] (spSerAsOf K) := by
  obtain ⟨fd_Series_values_up_to, G_Series_values_up_to, b_Series_values_up_to⟩ := ok_Series_values_up_to (P := P) (w := w) (base := base) T
  obtain ⟨fd, F⟩ := T.f_Series_value_as_of
  refine ⟨fd, F.ok sc_Series_value_as_of (fun vs H Q E h => by obtain ⟨_, _, _, _, _, rfl, _⟩ := h; rfl) (fun cdv A outer s H vs Q E hr h => ⟨_, PSs.nox (pss_cons (ps_set (i := 3) sc_Series_value_as_of.nd rfl (Or.inl rfl) (pe_meth (pv 0) T.cl_Series T.m_Series_values_up_to G_Series_values_up_to (hr.mono (by decide)) b_Series_values_up_to .nil pass0 (pa_cons (pv 1) (pa_cons (pv 2) pa_nil))))
      (pss_one (ps_ret (pe_ix (ix_listK (K := K) rfl) (pv 3) (pe_op op_sub (pe_callB (call_lenK (K := K) rfl) (by rfl) T.b_len PySem.boot_len (pa_cons (pv 3) pa_nil)) pe_int) (fun _ _ => rfl))))), ?_⟩), F.bindsN (fun _ _ _ _ _ _ us hl => match us, hl with | [_, _, _], _ => rfl)⟩
  obtain ⟨x, F, s0, k, n, rfl, hs, hk, hn, hQ⟩ := h
  obtain ⟨pa, pc, ps, hF, hser⟩ := id hs
  obtain ⟨dx, hx⟩ := hser.ins
  have hlf := hser.good.lf
  have hvl := valsTo_len s0 k n
  refine q_asgL (el_meth (ev_var rfl) hx (serF_none (by decide +kernel) (by decide +kernel) (by decide +kernel)) (ea_cons (ev_var rfl) (ea_cons (ev_var rfl) ea_nil)) (sl_vals hs hk hn)) fun p H1 hp e1 h1 => ?_
  have hat : atI ((valsTo s0 k n).map gv) ((((valsTo s0 k n).map gv).length : Int) - 1) = some (gv ((Vbemaz.asOf s0 n).getD k none)) := by
    have hpos : 0 < (valsTo s0 k n).length := by unfold valsTo; simp
    have e : (((valsTo s0 k n).map gv).length : Int) - 1 = (((valsTo s0 k n).length - 1 : Nat) : Int) := by
      rw [List.length_map]
      omega
    rw [e]
    exact atI_nat (by rw [List.getElem?_map, valsTo_last hk]; rfl)
  exact s_ret (σ := [some (.ref x), some (nV k), some (nV n), some (.ref p)]) (ev_op (ev_var rfl) (ev_op (ev_lenS (ea_cons (ev_var rfl) ea_nil) (sq_of h1)) ev_c rv_I0) (rv_ixL (sq_of h1) hat)) fun H2 e2 => hQ.go (e1.trans e2)
end
end PR
set_option Elab.async false
set_option linter.all false
set_option maxRecDepth 100000
set_option maxHeartbeats 4000000
namespace PR
open PySem PySem.Spec PyProof.Rows L2 Evl
/-- a new list of whole numbers, a series changed -/
def RetC (K : PySem.W.Frag) (x : Addr) (F : List Addr) (s' : Vbemaz.Series) (ans : List Int) (H : Hp) (Q : VK) : Prop := ∀ p H', H p = none → Chg (cSer K) H H' x F s' → H' p = some (.lst (ans.map V.int)) → Q (.ref p) H'
theorem chg_same {C : Addr} {H H' : Hp} {x : Addr} {F : List Addr} {s : Vbemaz.Series} (h : Ser C H x F s) (e : Ex H H') : Chg C H H' x F s := ⟨F, h.ex e, fun b o hb _ _ => e _ _ hb, fun b hb => .inl hb, Dom.ex e⟩
theorem Chg.dom {C : Addr} {H H' : Hp} {x : Addr} {F : List Addr} {s : Vbemaz.Series} (h : Chg C H H' x F s) : Dom H H' := by
  obtain ⟨_, _, _, _, d⟩ := h
  exact d
section
variable {K : PySem.W.Frag} {σ : L2.St} {H : Hp} {ta : TE} {x : Addr} {F : List Addr} {s : Vbemaz.Series}
theorem Ser.ins {C : Addr} (h : Ser C H x F s) : ∃ dx pa pc ps, H x = some (.ins C dx (serF pa pc ps)) := by
  obtain ⟨pa, pc, ps, rfl, h⟩ := h
  obtain ⟨dx, hx⟩ := h.ins
  exact ⟨dx, pa, pc, ps, hx⟩
theorem Ser.good {C : Addr} (h : Ser C H x F s) : GoodS s := by
  obtain ⟨pa, pc, ps, rfl, h⟩ := h
  exact h.good
/-- a method of a series, evaluated -/
theorem ev_serM {m : Str} {sp : Sp} {vs : List V} {E : XK} {t : TA} {z : V} (h : Ser (cSer K) H x F s) (ha : Ev ta σ H (.ref x)) (ht : EvA t σ H vs) (hs : SpV sp (.ref x :: (vs ++ [])) H z)
    (h1 : (m == ("added" : Str)) = false := by decide +kernel) (h2 : (m == ("corrections" : Str)) = false := by decide +kernel) (h3 : (m == ("standing" : Str)) = false := by decide +kernel) : Ev (tMeth (cSer K) m sp [] E ta t) σ H z := by
  obtain ⟨dx, pa, pc, ps, hx⟩ := h.ins
  exact ev_meth ha hx (serF_none h1 h2 h3) ht hs
theorem sv_count (h : Ser (cSer K) H x F s) : SpV (spSerCount K) [.ref x] H (nV s.added.length) := fun H1 e _ q _ => ⟨x, F, s, rfl, h.ex e, q⟩
theorem sv_has {k : Nat} (h : Ser (cSer K) H x F s) : SpV (spSerHas K) [.ref x, nV k] H (.bl (decide (k < s.added.length))) := fun H1 e _ q _ => ⟨x, F, s, k, rfl, h.ex e, q⟩
theorem sv_fixes (h : Ser (cSer K) H x F s) : SpV (spSerFixes K) [.ref x] H (nV s.fixes.length) := fun H1 e _ q _ => ⟨x, F, s, rfl, h.ex e, q⟩
theorem sv_asOf {k n : Nat} (h : Ser (cSer K) H x F s) (hk : k < s.added.length) (hn : n ≤ s.fixes.length) : SpV (spSerAsOf K) [.ref x, nV k, nV n] H (gv ((Vbemaz.asOf s n).getD k none)) := fun H1 e _ q _ => ⟨x, F, s, k, n, rfl, h.ex e, hk, hn, q⟩
/-- what stands now, as a field -/
theorem ev_standing (T : Cls K (cSer K)) (n : NoAttr K (cSer K) "standing") (h : Ser (cSer K) H x F s) (ha : Ev ta σ H (.ref x)) : ∃ ps, Ev (tFld K ta "standing") σ H (.ref ps) ∧ H ps = some (.lst ((Vbemaz.now s).map gv)) := by
  obtain ⟨pa, pc, ps, rfl, h⟩ := h
  obtain ⟨dx, hx⟩ := h.ins
  exact ⟨ps, ev_fld ha hx T n serF_standing, h.hs⟩
end
def spClear (K : PySem.W.Frag) : Sp := fun vs H Q _ => ∃ (x : Addr) (F : List Addr) (s : Vbemaz.Series), vs = [.ref x] ∧ Ser (cSer K) H x F s ∧ RetC K x F ⟨[], []⟩ [0] H Q
def spAdd (K : PySem.W.Frag) : Sp := fun vs H Q _ => ∃ (x r : Addr) (F : List Addr) (s : Vbemaz.Series) (l : List Vbemaz.Val), vs = [.ref x, .ref r] ∧ Ser (cSer K) H x F s ∧ H r = some (.lst (l.map gv)) ∧ r ∉ F ∧ okV l ∧ l.length ≤ 1000 ∧ RetC K x F (cAdd s l).1 (cAdd s l).2 H Q
def spFix (K : PySem.W.Frag) : Sp := fun vs H Q _ => ∃ (x : Addr) (F : List Addr) (s : Vbemaz.Series) (k : Nat) (v : Vbemaz.Val), vs = [.ref x, nV k, gv v] ∧ Ser (cSer K) H x F s ∧ (∀ z, v = some z → z.natAbs ≤ 1000000000) ∧ RetC K x F (cFix s k v).1 (cFix s k v).2 H Q
def spToldV : Sp := fun vs H Q _ => ∃ v : Vbemaz.Val, vs = [gv v] ∧ (∀ z, v = some z → z.natAbs ≤ 1000000000) ∧ RetL ((Vbemaz.told v).map V.int) H Q
def spToldRow (K : PySem.W.Frag) : Sp := fun vs H Q _ => ∃ (a : Addr) (l : List Int), vs = [.ref a] ∧ H a = some (.lst (l.map V.int)) ∧ l.length ≤ 90000 ∧ RetL ((Vbemaz.row l).map V.int) H Q
def spAsk (K : PySem.W.Frag) (f : Vbemaz.Series → List Int) : Sp := fun vs H Q _ => ∃ (x : Addr) (F : List Addr) (s : Vbemaz.Series), vs = [.ref x] ∧ Ser (cSer K) H x F s ∧ RetL ((f s).map V.int) H Q
def spAsk1 (K : PySem.W.Frag) (C : Nat → Prop) (f : Vbemaz.Series → Nat → List Int) : Sp := fun vs H Q _ => ∃ (x : Addr) (F : List Addr) (s : Vbemaz.Series) (i : Nat), vs = [.ref x, nV i] ∧ Ser (cSer K) H x F s ∧ C i ∧ RetL ((f s i).map V.int) H Q
abbrev spGet (K : PySem.W.Frag) : Sp := spAsk1 K (fun _ => True) aGet
def spAsk2 (K : PySem.W.Frag) (f : Vbemaz.Series → Nat → Nat → List Int) : Sp := fun vs H Q _ => ∃ (x : Addr) (F : List Addr) (s : Vbemaz.Series) (i j : Nat), vs = [.ref x, nV i, nV j] ∧ Ser (cSer K) H x F s ∧ RetL ((f s i j).map V.int) H Q
def spSeek (K : PySem.W.Frag) : Sp := fun vs H Q _ => ∃ (x : Addr) (F : List Addr) (s : Vbemaz.Series) (i : Nat) (y : Int), vs = [.ref x, nV i, .int y] ∧ Ser (cSer K) H x F s ∧ i ≤ 1000 ∧ RetL ((aSeek s i y).map V.int) H Q
def spIsSpan (K : PySem.W.Frag) : Sp := fun vs H Q _ => ∃ (x : Addr) (F : List Addr) (s : Vbemaz.Series) (i j : Nat), vs = [.ref x, nV i, nV j] ∧ Ser (cSer K) H x F s ∧ RetV (.bl (!decide (j < i ∨ s.added.length < j))) H Q
section
variable {K : PySem.W.Frag} {H : Hp} {x a : Addr} {F : List Addr} {s : Vbemaz.Series}
theorem sl_toldV {v : Vbemaz.Val} (h : ∀ z, v = some z → z.natAbs ≤ 1000000000) : SpL spToldV [gv v] H ((Vbemaz.told v).map V.int) := fun H1 e _ q _ => ⟨v, rfl, h, q⟩
theorem sl_toldRow {l : List Int} (h : H a = some (.lst (l.map V.int))) (hl : l.length ≤ 90000) : SpL (spToldRow K) [.ref a] H ((Vbemaz.row l).map V.int) := fun H1 e _ q _ => ⟨a, l, rfl, e _ _ h, hl, q⟩
theorem sv_isSpan {i j : Nat} (h : Ser (cSer K) H x F s) : SpV (spIsSpan K) [.ref x, nV i, nV j] H (.bl (!decide (j < i ∨ s.added.length < j))) := fun H1 e _ q _ => ⟨x, F, s, i, j, rfl, h.ex e, q⟩
end
theorem told_len (v : Vbemaz.Val) : (Vbemaz.told v).length = 2 := by cases v <;> rfl
theorem now_at {s : Vbemaz.Series} {k : Nat} (hk : k < s.added.length) : ((Vbemaz.now s).map gv)[k]? = some (gv ((Vbemaz.now s).getD k none)) ∧ (Vbemaz.now s).getD k none ∈ Vbemaz.now s := by
  have h : k < (Vbemaz.now s).length := by rw [now_len]; exact hk
  rw [List.getElem?_map, List.getElem?_eq_getElem h, List.getD_eq_getElem?_getD, List.getElem?_eq_getElem h]
  exact ⟨rfl, List.getElem_mem h⟩
theorem gv_inj {u v : Vbemaz.Val} (hu : ∀ z, u = some z → z.natAbs ≤ 1000000000) (hv : ∀ z, v = some z → z.natAbs ≤ 1000000000) : (gv u = gv v) ↔ u = v := by
  constructor
  · intro h
    have h : gI u = gI v := V.int.inj h
    cases u with
    | none =>
      cases v with
      | none => rfl
      | some y =>
        have := hv y rfl
        have h : (2000000000 : Int) = y := h
        omega
    | some z =>
      have := hu z rfl
      cases v with
      | none =>
        have h : z = 2000000000 := h
        omega
      | some y =>
        have h : z = y := h
        rw [h]
  · intro h
    rw [h]
section
variable {P : Program} {w : World} {K : PySem.W.Frag} {mg : Str → Option Value} {base : Heap}
theorem ok_clear_series (T : Top K w mg) : Def P w K mg base "clear_series" 2 ["series"] (spClear K) := by
  obtain ⟨fd_Series_make_empty, G_Series_make_empty, b_Series_make_empty⟩ := ok_Series_make_empty (P := P) (w := w) (base := base) T
  obtain ⟨fd, F⟩ := T.f_clear_series
  refine ⟨fd, F.ok sc_clear_series (fun vs H Q E h => by obtain ⟨_, _, _, rfl, _⟩ := h; rfl) (fun cdv A outer s H vs Q E hr h => ⟨_, PSs.nox (pss_cons (ps_expr (pe_meth0 (pv 0) T.cl_Series T.m_Series_make_empty G_Series_make_empty (hr.mono (by decide)) b_Series_make_empty .nil pass0))
      (pss_one (ps_ret (pe_lst (pa_cons pe_int pa_nil))))), ?_⟩), F.bindsN (fun _ _ _ _ _ _ us hl => match us, hl with | [_], _ => rfl), F.kp, T.g_clear_series⟩
  obtain ⟨x, F, s0, rfl, hs, hQ⟩ := h
  obtain ⟨dx, pa, pc, ps, hx⟩ := hs.ins
  refine ⟨_, rfl, x, dx, _, rfl, hx, serF_none (by decide +kernel) (by decide +kernel) (by decide +kernel), x, F, s0, rfl, hs, fun H1 hc => ?_⟩
  exact s_retL (σ := start N_clear_series [.ref x]) (el_lst (ea_cons ev_c ea_nil) (by decide)) fun p H2 hp e2 h2 => hQ p H2 (hc.dom p hp) (hc.ex e2) h2
theorem ok_add_row (T : Top K w mg) : Def P w K mg base "add_row" 2 ["series", "row"] (spAdd K) := by
  obtain ⟨fd_Series_place_count, G_Series_place_count, b_Series_place_count⟩ := ok_Series_place_count (P := P) (w := w) (base := base) T
  obtain ⟨fd_Series_put_behind, G_Series_put_behind, b_Series_put_behind⟩ := ok_Series_put_behind (P := P) (w := w) (base := base) T
  obtain ⟨_, c_MOST_PLACES⟩ := T.c_MOST_PLACES
  obtain ⟨_, c_FULL⟩ := T.c_FULL
  obtain ⟨fd, F⟩ := T.f_add_row
  refine ⟨fd, F.ok sc_add_row (fun vs H Q E h => by obtain ⟨_, _, _, _, _, rfl, _⟩ := h; rfl) (fun cdv A outer s H vs Q E hr h => ⟨_, PSs.nox (pss_cons (ps_if (pt_cmpR op_gt (pe_op op_add (pe_meth0 (pv 0) T.cl_Series T.m_Series_place_count G_Series_place_count (hr.mono (by decide)) b_Series_place_count .nil pass0) (pe_callB (call_lenK (K := K) rfl) (by rfl) T.b_len PySem.boot_len (pa_cons (pv 1) pa_nil))) (pe_glob (v := .int (400)) rfl c_MOST_PLACES ⟨_, rfl⟩) (nomark _)) (pss_one (ps_ret (pe_lst (pa_cons (pe_glob (v := .int (-5)) rfl c_FULL ⟨_, rfl⟩) pa_nil)))) pss_nil)
      (pss_cons (ps_expr (pe_meth (pv 0) T.cl_Series T.m_Series_put_behind G_Series_put_behind (hr.mono (by decide)) b_Series_put_behind .nil pass0 (pa_cons (pv 1) pa_nil)))
      (pss_one (ps_ret (pe_lst (pa_cons pe_int (pa_cons (pe_meth0 (pv 0) T.cl_Series T.m_Series_place_count G_Series_place_count (hr.mono (by decide)) b_Series_place_count .nil pass0) pa_nil))))))), ?_⟩), F.bindsN (fun _ _ _ _ _ _ us hl => match us, hl with | [_, _], _ => rfl), F.kp, T.g_add_row⟩
  obtain ⟨x, r, F, s0, l, rfl, hs, hr0, hrF, hl, hn, hQ⟩ := h
  have hla := hs.good.la
  refine q_when (et_test (ev_op (ev_op (ev_serM hs (ev_var rfl) ea_nil (sv_count hs)) (ev_lenS (ea_cons (ev_var rfl) ea_nil) (sq_of hr0)) rv_I0) ev_c rv_I0)) (fun hb H1 e1 => ?_) (fun hb H1 e1 => ?_)
  · have hb := of_decide_eq_true hb
    rw [List.length_map] at hb
    have e : cAdd s0 l = (s0, [-5]) := if_pos (by omega)
    rw [e] at hQ
    exact s_retL (el_lst (ea_cons ev_c ea_nil) (by decide)) fun p H2 hp e2 h2 => hQ p H2 (fresh_back e1 hp) (chg_same hs (e1.trans e2)) h2
  · have hb := of_decide_eq_false hb
    rw [List.length_map] at hb
    have e : cAdd s0 l = ({ s0 with added := s0.added ++ l }, [0, ((s0.added.length + l.length : Nat) : Int)]) := if_neg (by omega)
    rw [e] at hQ
    have hs1 := hs.ex e1
    obtain ⟨dx, pa, pc, ps, hx⟩ := hs1.ins
    refine ⟨_, rfl, x, dx, _, rfl, hx, serF_none (by decide +kernel) (by decide +kernel) (by decide +kernel), _, rfl, x, r, F, s0, l, rfl, hs1, e1 _ _ hr0, hrF, hl, by omega, fun H2 hc => ?_⟩
    obtain ⟨F', hs2, _, _, _⟩ := id hc
    refine s_retL (σ := start N_add_row [.ref x, .ref r]) (el_lst (ea_cons ev_c (ea_cons (ev_serM hs2 (ev_var rfl) ea_nil (sv_count hs2)) ea_nil)) (show 2 ≤ 100000 by decide)) fun p H3 hp e3 h3 => hQ p H3 ((hc.pre e1).dom p hp) (hc.pre e1 |>.ex e3) ?_
    rw [h3]
    show some (HO.lst [V.int 0, V.int _]) = some (HO.lst [V.int 0, V.int _])
    rw [List.length_append]
theorem ok_fix_place (T : Top K w mg) : Def P w K mg base "fix_place" 2 ["series", "place", "value"] (spFix K) := by
  obtain ⟨fd_Series_has_place, G_Series_has_place, b_Series_has_place⟩ := ok_Series_has_place (P := P) (w := w) (base := base) T
  obtain ⟨fd_Series_correction_count, G_Series_correction_count, b_Series_correction_count⟩ := ok_Series_correction_count (P := P) (w := w) (base := base) T
  obtain ⟨fd_Series_correct, G_Series_correct, b_Series_correct⟩ := ok_Series_correct (P := P) (w := w) (base := base) T
  obtain ⟨_, c_NO_SUCH_PLACE⟩ := T.c_NO_SUCH_PLACE
  obtain ⟨_, c_STANDS_ALREADY⟩ := T.c_STANDS_ALREADY
  obtain ⟨_, c_MOST_CORRECTIONS⟩ := T.c_MOST_CORRECTIONS
  obtain ⟨_, c_FULL⟩ := T.c_FULL
  obtain ⟨fd, F⟩ := T.f_fix_place
  refine ⟨fd, F.ok sc_fix_place (fun vs H Q E h => by obtain ⟨_, _, _, _, _, rfl, _⟩ := h; rfl) (fun cdv A outer s H vs Q E hr h => ⟨_, PSs.nox (pss_cons (ps_if (pt_not (pt_val (pe_meth (pv 0) T.cl_Series T.m_Series_has_place G_Series_has_place (hr.mono (by decide)) b_Series_has_place .nil pass0 (pa_cons (pv 1) pa_nil)))) (pss_one (ps_ret (pe_lst (pa_cons (pe_glob (v := .int (-4)) rfl c_NO_SUCH_PLACE ⟨_, rfl⟩) pa_nil)))) pss_nil)
      (pss_cons (ps_if (pt_cmpR op_eq (pe_ix (ix_listK (K := K) rfl) (pe_fldK (K := K) rfl (pv 0) rfl) (pv 1) (fun _ _ => rfl)) (pv 2) (nomark _)) (pss_one (ps_ret (pe_lst (pa_cons (pe_glob (v := .int (-7)) rfl c_STANDS_ALREADY ⟨_, rfl⟩) pa_nil)))) pss_nil)
      (pss_cons (ps_if (pt_cmpR op_eq (pe_meth0 (pv 0) T.cl_Series T.m_Series_correction_count G_Series_correction_count (hr.mono (by decide)) b_Series_correction_count .nil pass0) (pe_glob (v := .int (60)) rfl c_MOST_CORRECTIONS ⟨_, rfl⟩) (nomark _)) (pss_one (ps_ret (pe_lst (pa_cons (pe_glob (v := .int (-5)) rfl c_FULL ⟨_, rfl⟩) pa_nil)))) pss_nil)
      (pss_cons (ps_expr (pe_meth (pv 0) T.cl_Series T.m_Series_correct G_Series_correct (hr.mono (by decide)) b_Series_correct .nil pass0 (pa_cons (pv 1) (pa_cons (pv 2) pa_nil))))
      (pss_one (ps_ret (pe_lst (pa_cons pe_int (pa_cons (pe_meth0 (pv 0) T.cl_Series T.m_Series_correction_count G_Series_correction_count (hr.mono (by decide)) b_Series_correction_count .nil pass0) pa_nil))))))))), ?_⟩), F.bindsN (fun _ _ _ _ _ _ us hl => match us, hl with | [_, _, _], _ => rfl), F.kp, T.g_fix_place⟩
  obtain ⟨x, F, s0, k, v, rfl, hs, hv, hQ⟩ := h
  have hlf := hs.good.lf
  refine q_when (et_not (et_B (ev_serM hs (ev_var rfl) (ea_cons (ev_var rfl) ea_nil) (sv_has hs)))) (fun hb H1 e1 => ?_) (fun hb H1 e1 => ?_)
  · have hb : ¬ k < s0.added.length := by simpa using hb
    have e : cFix s0 k v = (s0, [-4]) := if_pos (by omega)
    rw [e] at hQ
    exact s_retL (el_lst (ea_cons ev_c ea_nil) (by decide)) fun p H2 hp e2 h2 => hQ p H2 (fresh_back e1 hp) (chg_same hs (e1.trans e2)) h2
  · have hb : k < s0.added.length := by simpa using hb
    obtain ⟨ps, es, hps⟩ := ev_standing (σ := start N_fix_place [.ref x, nV k, gv v]) T.cl_Series T.n_Series_standing (hs.ex e1) (ta := tVar 0) (ev_var rfl)
    obtain ⟨na, nm⟩ := now_at hb
    have hnv : ∀ z, (Vbemaz.now s0).getD k none = some z → z.natAbs ≤ 1000000000 := fun z hz => now_ok hs.good z (by rw [← hz]; exact nm)
    refine q_when (et_is (et_test (ev_op (ev_op es (ev_var rfl) (rv_ixL (sq_of hps) (atI_nat na))) (ev_var rfl) (rv_eq rfl))) (show _ = decide ((Vbemaz.now s0).getD k none = v) from decide_eq_decide.mpr (gv_inj hnv hv))) (fun hb2 H2 e2 => ?_) (fun hb2 H2 e2 => ?_)
    · have hb2 := of_decide_eq_true hb2
      have e : cFix s0 k v = (s0, [-7]) := (if_neg (by omega)).trans (if_pos hb2)
      rw [e] at hQ
      exact s_retL (el_lst (ea_cons ev_c ea_nil) (by decide)) fun p H3 hp e3 h3 => hQ p H3 (fresh_back (e1.trans e2) hp) (chg_same hs ((e1.trans e2).trans e3)) h3
    · have hb2 := of_decide_eq_false hb2
      have hs2 := hs.ex (e1.trans e2)
      refine q_when (et_is (et_test (ev_op (ev_serM hs2 (ev_var rfl) ea_nil (sv_fixes hs2)) ev_c (rv_eq rfl))) (show _ = decide (60 ≤ s0.fixes.length) from decide_eq_decide.mpr ⟨fun z => by have := V.int.inj z; omega, fun z => by show V.int _ = V.int _; congr 1; omega⟩)) (fun hb3 H3 e3 => ?_) (fun hb3 H3 e3 => ?_)
      · have hb3 := of_decide_eq_true hb3
        have e : cFix s0 k v = (s0, [-5]) := (if_neg (by omega)).trans ((if_neg hb2).trans (if_pos hb3))
        rw [e] at hQ
        exact s_retL (el_lst (ea_cons ev_c ea_nil) (by decide)) fun p H4 hp e4 h4 => hQ p H4 (fresh_back ((e1.trans e2).trans e3) hp) (chg_same hs (((e1.trans e2).trans e3).trans e4)) h4
      · have hb3 := of_decide_eq_false hb3
        have e : cFix s0 k v = ({ s0 with fixes := s0.fixes ++ [(k, v)] }, [0, ((s0.fixes.length + 1 : Nat) : Int)]) := (if_neg (by omega)).trans ((if_neg hb2).trans (if_neg hb3))
        rw [e] at hQ
        have hs3 := hs2.ex e3
        obtain ⟨dx, pa, pc, ps2, hx⟩ := hs3.ins
        refine ⟨_, rfl, x, dx, _, rfl, hx, serF_none (by decide +kernel) (by decide +kernel) (by decide +kernel), _, rfl, _, rfl, x, F, s0, k, v, rfl, hs3, hb, hv, by omega, fun H4 hc => ?_⟩
        obtain ⟨F', hs4, _, _, _⟩ := id hc
        refine s_retL (σ := start N_fix_place [.ref x, nV k, gv v]) (el_lst (ea_cons ev_c (ea_cons (ev_serM hs4 (ev_var rfl) ea_nil (sv_fixes hs4)) ea_nil)) (show 2 ≤ 100000 by decide)) fun p H5 hp e5 h5 => hQ p H5 ((hc.pre ((e1.trans e2).trans e3)).dom p hp) (hc.pre ((e1.trans e2).trans e3) |>.ex e5) ?_
        rw [h5]
        show some (HO.lst [V.int 0, V.int _]) = some (HO.lst [V.int 0, V.int _])
        rw [List.length_append]
        rfl
theorem ok_told_value (T : Top K w mg) : Def P w K mg base "told_value" 1 ["value"] spToldV := by
  obtain ⟨_, c_GAP⟩ := T.c_GAP
  obtain ⟨fd, F⟩ := T.f_told_value
  refine ⟨fd, F.ok sc_told_value (fun vs H Q E h => by obtain ⟨_, rfl, _⟩ := h; rfl) (fun cdv A outer s H vs Q E hr h => ⟨_, PSs.nox (pss_cons (ps_if (pt_cmpR op_eq (pv 0) (pe_glob (v := .int (2000000000)) rfl c_GAP ⟨_, rfl⟩) (nomark _)) (pss_one (ps_ret (pe_lst (pa_cons pe_int (pa_cons pe_int pa_nil))))) pss_nil)
      (pss_one (ps_ret (pe_lst (pa_cons pe_int (pa_cons (pv 0) pa_nil)))))), ?_⟩), F.bindsN (fun _ _ _ _ _ _ us hl => match us, hl with | [_], _ => rfl), F.kp, T.g_told_value⟩
  obtain ⟨v, rfl, hv, hQ⟩ := h
  refine q_when (et_test (ev_op (ev_var rfl) ev_c (rv_eq rfl))) (fun hb H1 e1 => ?_) (fun hb H1 e1 => ?_)
  · have e : v = none := (gv_inj (v := none) hv (fun z hz => nomatch hz)).mp (of_decide_eq_true hb)
    subst e
    exact s_retL (el_lst (ea_cons ev_c (ea_cons ev_c ea_nil)) (by decide)) fun p H2 hp e2 h2 => hQ.go e1 hp e2 h2
  · have hb := of_decide_eq_false hb
    cases v with
    | none => exact absurd rfl hb
    | some z => exact s_retL (el_lst (ea_cons ev_c (ea_cons (ev_var rfl) ea_nil)) (show 2 ≤ 100000 by decide)) fun p H2 hp e2 h2 => hQ.go e1 hp e2 h2
theorem ok_told_row (T : Top K w mg) : Def P w K mg base "told_row" 1 ["numbers"] (spToldRow K) := by
  obtain ⟨fd, F⟩ := T.f_told_row
  refine ⟨fd, F.ok sc_told_row (fun vs H Q E h => by obtain ⟨_, _, rfl, _⟩ := h; rfl) (fun cdv A outer s H vs Q E hr h => ⟨_, PSs.nox (pss_one (ps_ret (pe_op op_cat (pe_lst (pa_cons (pe_callB (call_lenK (K := K) rfl) (by rfl) T.b_len PySem.boot_len (pa_cons (pv 0) pa_nil)) pa_nil)) (pv 0)))), ?_⟩), F.bindsN (fun _ _ _ _ _ _ us hl => match us, hl with | [_], _ => rfl), F.kp, T.g_told_row⟩
  obtain ⟨a, l, rfl, ha, hl, hQ⟩ := h
  refine s_retL (el_is (el_catR (el_lst (ea_cons (ev_lenS (ea_cons (ev_var rfl) ea_nil) (sq_of ha)) ea_nil) (show 1 ≤ 100000 by decide)) (ev_var rfl) ha (by rw [List.length_map]; show 1 + l.length ≤ 100000; omega)) (ys := (Vbemaz.row l).map V.int) (by rw [List.length_map]; rfl)) fun p H1 hp e1 h1 => hQ p H1 hp e1 h1
theorem ok_get_place (T : Top K w mg) : Def P w K mg base "get_place" 2 ["series", "place"] (spGet K) := by
  obtain ⟨fd_told_value, G_told_value, b_told_value, k_told_value, g_told_value⟩ := ok_told_value (P := P) (w := w) (base := base) T
  obtain ⟨fd_Series_has_place, G_Series_has_place, b_Series_has_place⟩ := ok_Series_has_place (P := P) (w := w) (base := base) T
  obtain ⟨_, c_NO_SUCH_PLACE⟩ := T.c_NO_SUCH_PLACE
  obtain ⟨fd, F⟩ := T.f_get_place
  refine ⟨fd, F.ok sc_get_place (fun vs H Q E h => by obtain ⟨_, _, _, _, rfl, _⟩ := h; rfl) (fun cdv A outer s H vs Q E hr h => ⟨_, PSs.nox (pss_cons (ps_if (pt_not (pt_val (pe_meth (pv 0) T.cl_Series T.m_Series_has_place G_Series_has_place (hr.mono (by decide)) b_Series_has_place .nil pass0 (pa_cons (pv 1) pa_nil)))) (pss_one (ps_ret (pe_lst (pa_cons (pe_glob (v := .int (-4)) rfl c_NO_SUCH_PLACE ⟨_, rfl⟩) pa_nil)))) pss_nil)
      (pss_one (ps_ret (pe_op op_cat (pe_lst (pa_cons pe_int pa_nil)) (pe_call G_told_value (hr.mono (by decide)) rfl g_told_value k_told_value b_told_value .nil pass0 (pa_cons (pe_ix (ix_listK (K := K) rfl) (pe_fldK (K := K) rfl (pv 0) rfl) (pv 1) (fun _ _ => rfl)) pa_nil)))))), ?_⟩), F.bindsN (fun _ _ _ _ _ _ us hl => match us, hl with | [_, _], _ => rfl), F.kp, T.g_get_place⟩
  obtain ⟨x, F, s0, k, rfl, hs, _, hQ⟩ := h
  refine q_when (et_not (et_B (ev_serM hs (ev_var rfl) (ea_cons (ev_var rfl) ea_nil) (sv_has hs)))) (fun hb H1 e1 => ?_) (fun hb H1 e1 => ?_)
  · have hb : ¬ k < s0.added.length := by simpa using hb
    have e : aGet s0 k = [-4] := if_pos (by omega)
    rw [e] at hQ
    exact s_retL (el_lst (ea_cons ev_c ea_nil) (by decide)) fun p H2 hp e2 h2 => hQ.go e1 hp e2 h2
  · have hb : k < s0.added.length := by simpa using hb
    have e : aGet s0 k = 0 :: Vbemaz.told ((Vbemaz.now s0).getD k none) := if_neg (by omega)
    rw [e] at hQ
    obtain ⟨ps, es, hps⟩ := ev_standing (σ := start N_get_place [.ref x, nV k]) T.cl_Series T.n_Series_standing (hs.ex e1) (ta := tVar 0) (ev_var rfl)
    obtain ⟨na, nm⟩ := now_at hb
    refine s_retL (el_cat (el_lst (ea_cons ev_c ea_nil) (by decide)) (el_call (ea_cons (ev_op es (ev_var rfl) (rv_ixL (sq_of hps) (atI_nat na))) ea_nil) (sl_toldV (fun z hz => now_ok hs.good z (by rw [← hz]; exact nm)))) ?_) fun p H2 hp e2 h2 => hQ.go e1 hp e2 h2
    rw [List.length_map, told_len]
    decide
theorem ok_was_at_place (T : Top K w mg) : Def P w K mg base "was_at_place" 3 ["series", "place", "done"] (spAsk2 K aWas) := by
  obtain ⟨fd_told_value, G_told_value, b_told_value, k_told_value, g_told_value⟩ := ok_told_value (P := P) (w := w) (base := base) T
  obtain ⟨fd_Series_has_place, G_Series_has_place, b_Series_has_place⟩ := ok_Series_has_place (P := P) (w := w) (base := base) T
  obtain ⟨fd_Series_correction_count, G_Series_correction_count, b_Series_correction_count⟩ := ok_Series_correction_count (P := P) (w := w) (base := base) T
  obtain ⟨fd_Series_value_as_of, G_Series_value_as_of, b_Series_value_as_of⟩ := ok_Series_value_as_of (P := P) (w := w) (base := base) T
  obtain ⟨_, c_NO_SUCH_PLACE⟩ := T.c_NO_SUCH_PLACE
  obtain ⟨_, c_TOO_FEW_CORRECTIONS⟩ := T.c_TOO_FEW_CORRECTIONS
  obtain ⟨fd, F⟩ := T.f_was_at_place
  refine ⟨fd, F.ok sc_was_at_place (fun vs H Q E h => by obtain ⟨_, _, _, _, _, rfl, _⟩ := h; rfl) (fun cdv A outer s H vs Q E hr h => ⟨_, PSs.nox (pss_cons (ps_if (pt_not (pt_val (pe_meth (pv 0) T.cl_Series T.m_Series_has_place G_Series_has_place (hr.mono (by decide)) b_Series_has_place .nil pass0 (pa_cons (pv 1) pa_nil)))) (pss_one (ps_ret (pe_lst (pa_cons (pe_glob (v := .int (-4)) rfl c_NO_SUCH_PLACE ⟨_, rfl⟩) pa_nil)))) pss_nil)
      (pss_cons (ps_if (pt_cmpR op_lt (pe_meth0 (pv 0) T.cl_Series T.m_Series_correction_count G_Series_correction_count (hr.mono (by decide)) b_Series_correction_count .nil pass0) (pv 2) (nomark _)) (pss_one (ps_ret (pe_lst (pa_cons (pe_glob (v := .int (-6)) rfl c_TOO_FEW_CORRECTIONS ⟨_, rfl⟩) pa_nil)))) pss_nil)
      (pss_one (ps_ret (pe_op op_cat (pe_lst (pa_cons pe_int pa_nil)) (pe_call G_told_value (hr.mono (by decide)) rfl g_told_value k_told_value b_told_value .nil pass0 (pa_cons (pe_meth (pv 0) T.cl_Series T.m_Series_value_as_of G_Series_value_as_of (hr.mono (by decide)) b_Series_value_as_of .nil pass0 (pa_cons (pv 1) (pa_cons (pv 2) pa_nil))) pa_nil))))))), ?_⟩), F.bindsN (fun _ _ _ _ _ _ us hl => match us, hl with | [_, _, _], _ => rfl), F.kp, T.g_was_at_place⟩
  obtain ⟨x, F, s0, k, n, rfl, hs, hQ⟩ := h
  refine q_when (et_not (et_B (ev_serM hs (ev_var rfl) (ea_cons (ev_var rfl) ea_nil) (sv_has hs)))) (fun hb H1 e1 => ?_) (fun hb H1 e1 => ?_)
  · have hb : ¬ k < s0.added.length := by simpa using hb
    have e : aWas s0 k n = [-4] := if_pos (by omega)
    rw [e] at hQ
    exact s_retL (el_lst (ea_cons ev_c ea_nil) (by decide)) fun p H2 hp e2 h2 => hQ.go e1 hp e2 h2
  · have hb : k < s0.added.length := by simpa using hb
    have hs1 := hs.ex e1
    refine q_when (et_test (ev_op (ev_serM hs1 (ev_var rfl) ea_nil (sv_fixes hs1)) (ev_var rfl) rv_I0)) (fun hb2 H2 e2 => ?_) (fun hb2 H2 e2 => ?_)
    · have hb2 := of_decide_eq_true hb2
      have e : aWas s0 k n = [-6] := (if_neg (by omega)).trans (if_pos (by omega))
      rw [e] at hQ
      exact s_retL (el_lst (ea_cons ev_c ea_nil) (by decide)) fun p H3 hp e3 h3 => hQ.go (e1.trans e2) hp e3 h3
    · have hb2 := of_decide_eq_false hb2
      have e : aWas s0 k n = 0 :: Vbemaz.told ((Vbemaz.asOf s0 n).getD k none) := (if_neg (by omega)).trans (if_neg (by omega))
      rw [e] at hQ
      have hs2 := hs1.ex e2
      refine s_retL (el_cat (el_lst (ea_cons ev_c ea_nil) (by decide)) (el_call (ea_cons (ev_serM hs2 (ev_var rfl) (ea_cons (ev_var rfl) (ea_cons (ev_var rfl) ea_nil)) (sv_asOf hs2 hb (by omega))) ea_nil) (sl_toldV (fun z hz => asOf_ok hs.good n z ?_))) ?_) fun p H3 hp e3 h3 => hQ.go (e1.trans e2) hp e3 h3
      · have hk : k < (Vbemaz.asOf s0 n).length := by rw [asOf_len]; exact hb
        rw [List.getD_eq_getElem?_getD, List.getElem?_eq_getElem hk] at hz
        rw [← hz]
        exact List.getElem_mem hk
      · rw [List.length_map, told_len]
        decide
theorem ok_is_span (T : Top K w mg) : Def P w K mg base "is_span" 2 ["series", "start", "end"] (spIsSpan K) := by
  obtain ⟨fd_Series_place_count, G_Series_place_count, b_Series_place_count⟩ := ok_Series_place_count (P := P) (w := w) (base := base) T
  obtain ⟨fd, F⟩ := T.f_is_span
  refine ⟨fd, F.ok sc_is_span (fun vs H Q E h => by obtain ⟨_, _, _, _, _, rfl, _⟩ := h; rfl) (fun cdv A outer s H vs Q E hr h => ⟨_, PSs.nox (pss_one (ps_ret (pe_and (pe_cmpR op_le (pv 1) (pv 2) (nomark _)) (pe_one (pe_cmpR op_le (pv 2) (pe_meth0 (pv 0) T.cl_Series T.m_Series_place_count G_Series_place_count (hr.mono (by decide)) b_Series_place_count .nil pass0) (nomark _)))))), ?_⟩), F.bindsN (fun _ _ _ _ _ _ us hl => match us, hl with | [_, _, _], _ => rfl), F.kp, T.g_is_span⟩
  obtain ⟨x, F, s0, i, j, rfl, hs, hQ⟩ := h
  refine s_ret (ev_is (w := .bl (!decide (j < i ∨ s0.added.length < j))) (ev_andV (ev_op (ev_var rfl) (ev_var rfl) rv_I0) (fun _ => ev_op (ev_var rfl) (ev_serM hs (ev_var rfl) ea_nil (sv_count hs)) rv_I0)) ?_) fun H1 e1 => hQ.go e1
  show V.bl _ = V.bl _
  congr 1
  rw [← Bool.decide_and, ← decide_not]
  exact decide_eq_decide.mpr (by omega)
theorem ok_seek_from (T : Top K w mg) : Def P w K mg base "seek_from" 2 ["series", "start", "bound"] (spSeek K) := by
  obtain ⟨fd_Series_place_count, G_Series_place_count, b_Series_place_count⟩ := ok_Series_place_count (P := P) (w := w) (base := base) T
  obtain ⟨_, c_NO_SUCH_PLACE⟩ := T.c_NO_SUCH_PLACE
  obtain ⟨_, c_GAP⟩ := T.c_GAP
  obtain ⟨_, c_NO_READING⟩ := T.c_NO_READING
  obtain ⟨fd, F⟩ := T.f_seek_from
  refine ⟨fd, F.ok sc_seek_from (fun vs H Q E h => by obtain ⟨_, _, _, _, _, rfl, _⟩ := h; rfl) (fun cdv A outer s H vs Q E hr h => ⟨_, PSs.nox (pss_cons (ps_if (pt_cmpR op_gt (pv 1) (pe_meth0 (pv 0) T.cl_Series T.m_Series_place_count G_Series_place_count (hr.mono (by decide)) b_Series_place_count .nil pass0) (nomark _)) (pss_one (ps_ret (pe_lst (pa_cons (pe_glob (v := .int (-4)) rfl c_NO_SUCH_PLACE ⟨_, rfl⟩) pa_nil)))) pss_nil)
      (pss_cons (ps_for PassesOwn.never rfl (pi_range2 rfl T.b_range (pa_cons (pv 1) (pa_cons (pe_meth0 (pv 0) T.cl_Series T.m_Series_place_count G_Series_place_count (hr.mono (by decide)) b_Series_place_count .nil pass0) pa_nil))) (pg_name (i := 3) sc_seek_from.nd rfl (Or.inl rfl)) (pss_cons (ps_set (i := 4) sc_seek_from.nd rfl (Or.inl rfl) (pe_ix (ix_listK (K := K) rfl) (pe_fldK (K := K) rfl (pv 0) rfl) (pv 3) (fun _ _ => rfl)))
      (pss_one (ps_if (PW.pt (pw_and (pt_cmpR op_ne (pv 4) (pe_glob (v := .int (2000000000)) rfl c_GAP ⟨_, rfl⟩) (nomark _)) (pw_and1 (pt_cmpR op_ge (pv 4) (pv 2) (nomark _))))) (pss_one (ps_ret (pe_lst (pa_cons pe_int (pa_cons (pv 3) pa_nil))))) pss_nil))))
      (pss_one (ps_ret (pe_lst (pa_cons (pe_glob (v := .int (-8)) rfl c_NO_READING ⟨_, rfl⟩) pa_nil)))))), ?_⟩), F.bindsN (fun _ _ _ _ _ _ us hl => match us, hl with | [_, _, _], _ => rfl), F.kp, T.g_seek_from⟩
  obtain ⟨x, F, s0, i, y, rfl, hs, hi, hQ⟩ := h
  have hla := hs.good.la
  refine q_when (et_test (ev_op (ev_var rfl) (ev_serM hs (ev_var rfl) ea_nil (sv_count hs)) rv_I0)) (fun hb H1 e1 => ?_) (fun hb H1 e1 => ?_)
  · have hb := of_decide_eq_true hb
    have e : aSeek s0 i y = [-4] := if_pos (by omega)
    rw [e] at hQ
    exact s_retL (el_lst (ea_cons ev_c ea_nil) (by decide)) fun p H2 hp e2 h2 => hQ.go e1 hp e2 h2
  · have hb := of_decide_eq_false hb
    have e : aSeek s0 i y = (match Vbemaz.seekIn y i ((Vbemaz.now s0).drop i) with
      | some k => [0, (k : Int)]
      | none => [-8]) := if_neg (by omega)
    rw [e] at hQ
    have hs1 := hs.ex e1
    refine q_forR2 (lo := (i : Int)) (n := (s0.added.length : Int)) (ea_cons (ev_var rfl) (ea_cons (ev_serM hs1 (ev_var rfl) ea_nil (sv_count hs1)) ea_nil)) (by omega)
      (fun t σ' H' => ∃ u v, σ' = [some (.ref x), some (nV i), some (.int y), u, v] ∧ Ex H H' ∧ Vbemaz.seekIn y i ((Vbemaz.now s0).drop i) = Vbemaz.seekIn y (i + t) ((Vbemaz.now s0).drop (i + t))) (fun H2 e2 => ⟨none, none, rfl, e1.trans e2, rfl⟩) ?_ ?_
    · rintro t σ' H' ht ⟨u, v, rfl, e2, hk⟩
      have hlt : i + t < s0.added.length := by omega
      obtain ⟨ps, es, hps⟩ := ev_standing (σ := [some (.ref x), some (nV i), some (.int y), some (.int ((i : Int) + (t : Int))), v]) T.cl_Series T.n_Series_standing (hs.ex e2) (ta := tVar 0) (ev_var rfl)
      obtain ⟨na, nm⟩ := now_at hlt
      have na2 : (Vbemaz.now s0)[i + t]? = some ((Vbemaz.now s0).getD (i + t) none) := by
        have hlt2 : i + t < (Vbemaz.now s0).length := by rw [now_len]; exact hlt
        rw [List.getD_eq_getElem?_getD, List.getElem?_eq_getElem hlt2]; rfl
      have hnv : ∀ z, (Vbemaz.now s0).getD (i + t) none = some z → z.natAbs ≤ 1000000000 := fun z hz => now_ok hs.good z (by rw [← hz]; exact nm)
      refine q_asg (ev_op es (ev_var rfl) (rv_ixL (sq_of hps) (at_of (j := i + t) (by omega) na))) fun H2 e3 => ?_
      generalize hg : (Vbemaz.now s0).getD (i + t) none = g at na na2 hnv
      cases g with
      | none =>
        refine s_when (b := false) (et_is (et_and (b := true) (et_test (ev_op (ev_var rfl) ev_c (rv_ne rfl))) (fun z => by cases z)) rfl) (fun z => by cases z) (fun _ H3 e4 => ⟨some (.int ((i : Int) + (t : Int))), some (gv none), rfl, (e2.trans e3).trans e4, ?_⟩)
        rw [hk, seek_gap na2]
        rfl
      | some z =>
        have hz := hnv z rfl
        refine s_when (b := decide (y ≤ z)) (et_is (et_and (et_test (ev_op (ev_var rfl) ev_c (rv_ne rfl))) (fun _ => et_test (ev_op (ev_var rfl) (ev_var rfl) rv_I0))) ?_) (fun hb2 H3 e4 => ?_) (fun hb2 H3 e4 => ⟨some (.int ((i : Int) + (t : Int))), some (gv (some z)), rfl, (e2.trans e3).trans e4, ?_⟩)
        · have hne : ¬ gv (some z) = V.int 2000000000 := fun q => by
            have q2 : z = 2000000000 := V.int.inj q
            omega
          rw [decide_eq_false hne]
          rfl
        · have hb2 := of_decide_eq_true hb2
          rw [hk, seek_some na2, if_pos hb2] at hQ
          refine s_retL (σ := [some (.ref x), some (nV i), some (.int y), some (.int ((i : Int) + (t : Int))), some (gv (some z))]) (el_is (el_lst (ea_cons ev_c (ea_cons (ev_var rfl) ea_nil)) (show 2 ≤ 100000 by decide)) ?_) fun p H4 hp e5 h5 => hQ.go ((e2.trans e3).trans e4) hp e5 h5
          show [V.int 0, V.int ((i : Int) + (t : Int))] = [V.int 0, V.int ((i + t : Nat) : Int)]
          rw [Int.natCast_add]
        · have hb2 := of_decide_eq_false hb2
          rw [hk, seek_some na2, if_neg hb2]
          rfl
    · rintro σ' H' ⟨u, v, rfl, e2, hk⟩
      have e9 : i + ((s0.added.length : Int) - (i : Int)).toNat = (Vbemaz.now s0).length := by rw [now_len]; omega
      rw [hk, e9, List.drop_length] at hQ
      exact s_retL (σ := [some (.ref x), some (nV i), some (.int y), u, v]) (el_lst (ea_cons ev_c ea_nil) (by decide)) fun p H3 hp e3 h3 => hQ.go e2 hp e3 h3
end
end PR
set_option Elab.async false
set_option linter.all false
set_option maxRecDepth 100000
set_option maxHeartbeats 4000000
namespace PR
open PySem PySem.Spec PyProof.Rows L2 Evl
/-! ### lists of new lists -/
def Lists (H : Hp) (c : Addr) (n : Nat) (v : Nat → List V) : Prop := ∃ p : Nat → Addr, H c = some (.lst ((List.range n).map fun i => V.ref (p i))) ∧ ∀ i, i < n → H (p i) = some (.lst (v i))
theorem Lists.ex {H H' : Hp} {c : Addr} {n : Nat} {v : Nat → List V} (h : Lists H c n v) (e : Ex H H') : Lists H' c n v := by
  obtain ⟨p, h1, h2⟩ := h
  exact ⟨p, e c _ h1, fun i hi => e _ _ (h2 i hi)⟩
def EvLs (te : TE) (σ : L2.St) (H : Hp) (n : Nat) (v : Nat → List V) : Prop := ∀ H1, Ex H H1 → ∀ Q : VK, (∀ c H2, H1 c = none → Ex H1 H2 → Lists H2 c n v → Q (.ref c) H2) → te σ H1 Q
section
variable {K : PySem.W.Frag} {σ : L2.St} {H : Hp} {te : TE}
theorem els_lcR3 {ta : TA} {j : Nat} {vs : List Nat} {lo n c : Int} {m : Nat} (v : Nat → List V) (h : EvA ta σ H [.int lo, .int n, .int c]) (hr : RgC lo n c m) (hm : m ≤ 40000) (hw : ∀ x, wipe ((wipe σ vs).set j (some x)) vs = wipe σ vs)
    (he : ∀ (i : Nat) H1, Ex H H1 → i < m → EvL te ((wipe σ vs).set j (some (.int (lo + (i : Int) * c)))) H1 (v i)) :
    EvLs (tLc (iRng3 ta) (gName j) tYes te vs) σ H m v := fun H0 e Q q => h H0 e _ fun H1 e1 => ⟨lo, n, c, m, rfl, hr, fun Dl hD =>
  lc_it (walk_rangeC (lo := lo) (c := c) (n := m)) (fun i H' => H1 Dl = none ∧ Ex H1 H' ∧ ∃ p : Nat → Addr, H' Dl = some (.lst ((List.range i).map fun k => V.ref (p k))) ∧ ∀ k, k < i → H' (p k) = some (.lst (v k)) ∧ p k ≠ Dl) ⟨hD, Ex.new hD, fun _ => 0, upd_same, fun k hk => by omega⟩ (fun _ _ _ _ => trivial) (fun i x H' H'' hi p y => by
    obtain ⟨rfl, rfl⟩ := y
    obtain ⟨p1, p2, p, p3, p4⟩ := p
    refine ⟨hw _, ?_⟩
    show te _ H'' _
    refine he i H'' ((e.trans e1).trans p2) hi H'' (Ex.refl _) _ fun r H4 hr4 e4 h4 => ⟨_, e4 _ _ p3, by rw [List.length_map, List.length_range]; exact sz_lt (by omega), p1, Ex.mut (p2.trans e4) p1, fun k => if k = i then r else p k, ?_, fun k hk => ?_⟩
    · have hrD : r ≠ Dl := (ne_of_none p3 hr4).symm
      rw [upd_same, List.range_succ, List.map_append]
      congr 2
      congr 1
      · apply List.map_congr_left
        intro k hk
        have := List.mem_range.mp hk
        show V.ref (p k) = V.ref (if k = i then r else p k)
        rw [if_neg (by omega)]
      · simp
    · have hrD : r ≠ Dl := (ne_of_none p3 hr4).symm
      by_cases hki : k = i
      · subst hki
        simp only [if_true]
        exact ⟨by rw [upd_ne hrD]; exact h4, hrD⟩
      · simp only [if_neg hki]
        obtain ⟨a, b⟩ := p4 k (by omega)
        exact ⟨by rw [upd_ne b]; exact e4 _ _ a, b⟩) (fun H' p => by
    obtain ⟨p1, p2, p, p3, p4⟩ := p
    exact q Dl H' (fresh_back e1 p1) (e1.trans p2) ⟨p, p3, fun k hk => (p4 k hk).1⟩)⟩
def SpLs (sp : Sp) (vs : List V) (H : Hp) (n : Nat) (v : Nat → List V) : Prop := ∀ H1, Ex H H1 → ∀ Q : VK, (∀ c H2, H1 c = none → Ex H1 H2 → Lists H2 c n v → Q (.ref c) H2) → ∀ E : XK, sp vs H1 Q E
theorem els_call {sp : Sp} {dvs vs : List V} {E : XK} {ta : TA} {n : Nat} {v : Nat → List V} (h : EvA ta σ H vs) (hs : SpLs sp (vs ++ dvs) H n v) : EvLs (tCall sp dvs E ta) σ H n v := fun H1 e Q q =>
  h H1 e _ fun H2 e2 => hs H2 (e.trans e2) Q (fun c H3 hc e3 h3 => q c H3 (fresh_back e2 hc) (e2.trans e3) h3) E
theorem q_asgLs {D : Ends} {tz : TS} {i n : Nat} {v : Nat → List V} (h : EvLs te σ H n v) (k : ∀ c H1, H c = none → Ex H H1 → Lists H1 c n v → tz D (σ.set i (some (.ref c))) H1) : tSeq (tAsg te (gName i)) tz D σ H := h H (Ex.refl H) _ k
theorem el_lcLs {tl : TE} {j n : Nat} {vs : List Nat} {v : Nat → List V} (g : Nat → V) (h : EvLs tl σ H n v) (hz : n ≤ 40000) (hw : ∀ x, wipe ((wipe σ vs).set j (some x)) vs = wipe σ vs)
    (he : ∀ i, i < n → ∀ p H1, Ex H H1 → H1 p = some (.lst (v i)) → Ev te ((wipe σ vs).set j (some (.ref p))) H1 (g i)) : EvL (tLc (iList K tl) (gName j) tYes te vs) σ H ((List.range n).map g) := fun H0 e Q q =>
  h H0 e _ fun c H1 hc e1 ⟨p, h1, h2⟩ => (el_lcA (te := te) (fun i => V.ref (p i)) g (List.range n) (ev_c (v := .ref c)) (sq_of h1) (by rw [List.length_range]; exact hz) hw (fun i hi H2 e2 => he i (List.mem_range.mp hi) (p i) H2 ((e.trans e1).trans e2) (e2 _ _ (h2 i (List.mem_range.mp hi))))) H1 (Ex.refl H1) Q fun D H2 hD e2 h3 => q D H2 (fresh_back e1 hD) (e1.trans e2) h3
end
theorem cut_span {l : List Vbemaz.Val} {i j : Nat} (h1 : i ≤ j) (h2 : j ≤ l.length) : cutV (l.map gv) (some (i : Int)) (some (j : Int)) = (Vbemaz.span l i j).map gv := by
  unfold cutV
  rw [HT.sIx_nat, HT.sIx_nat, List.length_map, Nat.min_eq_left h2, Nat.min_eq_left (by omega), span_is, List.map_take, List.map_drop]
theorem cut_any {l : List Vbemaz.Val} {i j : Nat} (h1 : i ≤ j) : cutV (l.map gv) (some (i : Int)) (some (j : Int)) = ((l.drop i).take (j - i)).map gv := by
  unfold cutV
  rw [HT.sIx_nat, HT.sIx_nat, List.length_map, List.map_take, List.map_drop]
  by_cases hi : i ≤ l.length
  · rw [Nat.min_eq_left hi]
    by_cases hj : j ≤ l.length
    · rw [Nat.min_eq_left hj]
    · rw [Nat.min_eq_right (by omega)]
      have a : (List.drop i (l.map gv)).length ≤ l.length - i := by simp
      rw [List.take_of_length_le a, List.take_of_length_le (by omega)]
  · rw [Nat.min_eq_right (by omega), Nat.min_eq_right (by omega), Nat.sub_self, List.take_zero]
    rw [List.drop_eq_nil_of_le (by rw [List.length_map]; omega), List.take_nil]
def spToldPiece (K : PySem.W.Frag) : Sp := fun vs H Q _ => ∃ (a : Addr) (l : List Vbemaz.Val), vs = [.ref a] ∧ SqL K H a (l.map gv) ∧ okV l ∧ RetL ((toldPiece l).map V.int) H Q
def spBlocks (K : PySem.W.Frag) : Sp := fun vs H Q _ => ∃ (x : Addr) (F : List Addr) (s : Vbemaz.Series), vs = [.ref x] ∧ Ser (cSer K) H x F s ∧ ∀ c H', H c = none → Ex H H' → Lists H' c (((Vbemaz.now s).length + 15) / 16) (fun i => (((Vbemaz.now s).drop (i * 16)).take 16).map gv) → Q (.ref c) H'
theorem sls_blocks {K : PySem.W.Frag} {H : Hp} {x : Addr} {F : List Addr} {s : Vbemaz.Series} (h : Ser (cSer K) H x F s) : SpLs (spBlocks K) [.ref x] H (((Vbemaz.now s).length + 15) / 16) (fun i => (((Vbemaz.now s).drop (i * 16)).take 16).map gv) := fun H1 e _ q _ => ⟨x, F, s, rfl, h.ex e, q⟩
abbrev spCoarse (K : PySem.W.Frag) : Sp := spAsk1 K (fun n => 1 ≤ n ∧ n ≤ 96) aCoarse
abbrev spBlock (K : PySem.W.Frag) : Sp := spAsk1 K (fun n => n ≤ 30) aBlock
section
variable {P : Program} {w : World} {K : PySem.W.Frag} {mg : Str → Option Value} {base : Heap}
theorem ok_sum_of_span (T : Top K w mg) : Def P w K mg base "sum_of_span" 3 ["series", "start", "end"] (spAsk2 K aSum) := by
  obtain ⟨fd_is_span, G_is_span, b_is_span, k_is_span, g_is_span⟩ := ok_is_span (P := P) (w := w) (base := base) T
  obtain ⟨fd_readings_in, G_readings_in, b_readings_in, k_readings_in, g_readings_in⟩ := ok_readings_in (P := P) (w := w) (base := base) T
  obtain ⟨_, c_NO_SUCH_PLACE⟩ := T.c_NO_SUCH_PLACE
  obtain ⟨fd, F⟩ := T.f_sum_of_span
  refine ⟨fd, F.ok sc_sum_of_span (fun vs H Q E h => by obtain ⟨_, _, _, _, _, rfl, _⟩ := h; rfl) (fun cdv A outer s H vs Q E hr h => ⟨_, PSs.nox (pss_cons (ps_if (pt_not (pt_val (pe_call G_is_span (hr.mono (by decide)) rfl g_is_span k_is_span b_is_span .nil pass0 (pa_cons (pv 0) (pa_cons (pv 1) (pa_cons (pv 2) pa_nil)))))) (pss_one (ps_ret (pe_lst (pa_cons (pe_glob (v := .int (-4)) rfl c_NO_SUCH_PLACE ⟨_, rfl⟩) pa_nil)))) pss_nil)
      (pss_cons (ps_set (i := 3) sc_sum_of_span.nd rfl (Or.inl rfl) (pe_call G_readings_in (hr.mono (by decide)) rfl g_readings_in k_readings_in b_readings_in .nil pass0 (pa_cons (pe_slice (sl_listK (K := K) rfl) (pe_fldK (K := K) rfl (pv 0) rfl) (po_some (pv 1)) (po_some (pv 2))) pa_nil)))
      (pss_one (ps_ret (pe_lst (pa_cons pe_int (pa_cons (pe_callB (call_lenK (K := K) rfl) (by rfl) T.b_len PySem.boot_len (pa_cons (pv 3) pa_nil)) (pa_cons (pe_callB (cr_sumK (K := K) rfl rfl) (by rfl) T.b_sum (by decide +kernel) (pa_cons (pv 3) pa_nil)) pa_nil)))))))), ?_⟩), F.bindsN (fun _ _ _ _ _ _ us hl => match us, hl with | [_, _, _], _ => rfl), F.kp, T.g_sum_of_span⟩
  obtain ⟨x, F, s0, i, j, rfl, hs, hQ⟩ := h
  refine q_when (et_not (et_B (ev_call (ea_cons (ev_var rfl) (ea_cons (ev_var rfl) (ea_cons (ev_var rfl) ea_nil))) (sv_isSpan hs)))) (fun hb H1 e1 => ?_) (fun hb H1 e1 => ?_)
  · have hb : j < i ∨ s0.added.length < j := by simpa using hb
    have e : aSum s0 i j = [-4] := if_pos hb
    rw [e] at hQ
    exact s_retL (el_lst (ea_cons ev_c ea_nil) (by decide)) fun p H2 hp e2 h2 => hQ.go e1 hp e2 h2
  · have hb : ¬ (j < i ∨ s0.added.length < j) := by simpa using hb
    have e : aSum s0 i j = _ := if_neg hb
    rw [e] at hQ
    obtain ⟨ps, es, hps⟩ := ev_standing (σ := start N_sum_of_span [.ref x, nV i, nV j]) T.cl_Series T.n_Series_standing (hs.ex e1) (ta := tVar 0) (ev_var rfl)
    have hlen := span_len (l := Vbemaz.now s0) (i := i) (j := j) (by rw [now_len]; omega)
    have hla := hs.good.la
    refine q_asgL (el_callN (el_is (el_sl es (eo_some (ev_var rfl)) (eo_some (ev_var rfl)) (sq_of hps)) (cut_span (by omega) (by rw [now_len]; omega))) (fun p H2 hp e2 => sl_readingsIn (sq_of hp) (fun z hz => now_ok hs.good z (span_mem hz)) (by omega))) fun p H2 hp e2 h2 => ?_
    refine s_retL (σ := [some (.ref x), some (nV i), some (nV j), some (.ref p)]) (el_lst (ea_cons ev_c (ea_cons (ev_is (ev_lenS (ea_cons (ev_var rfl) ea_nil) (sq_of h2)) (by rw [List.length_map])) (ea_cons (ev_sum (ea_cons (ev_var rfl) ea_nil) (sq_of h2)) ea_nil))) (show 3 ≤ 100000 by decide)) fun q H3 hq e3 h3 => hQ.go (e1.trans e2) hq e3 h3
theorem ok_extremes_of_span (T : Top K w mg) : Def P w K mg base "extremes_of_span" 3 ["series", "start", "end"] (spAsk2 K aSpan) := by
  obtain ⟨fd_is_span, G_is_span, b_is_span, k_is_span, g_is_span⟩ := ok_is_span (P := P) (w := w) (base := base) T
  obtain ⟨fd_readings_in, G_readings_in, b_readings_in, k_readings_in, g_readings_in⟩ := ok_readings_in (P := P) (w := w) (base := base) T
  obtain ⟨_, c_NO_SUCH_PLACE⟩ := T.c_NO_SUCH_PLACE
  obtain ⟨_, c_NO_READING⟩ := T.c_NO_READING
  obtain ⟨fd, F⟩ := T.f_extremes_of_span
  refine ⟨fd, F.ok sc_extremes_of_span (fun vs H Q E h => by obtain ⟨_, _, _, _, _, rfl, _⟩ := h; rfl) (fun cdv A outer s H vs Q E hr h => ⟨_, PSs.nox (pss_cons (ps_if (pt_not (pt_val (pe_call G_is_span (hr.mono (by decide)) rfl g_is_span k_is_span b_is_span .nil pass0 (pa_cons (pv 0) (pa_cons (pv 1) (pa_cons (pv 2) pa_nil)))))) (pss_one (ps_ret (pe_lst (pa_cons (pe_glob (v := .int (-4)) rfl c_NO_SUCH_PLACE ⟨_, rfl⟩) pa_nil)))) pss_nil)
      (pss_cons (ps_set (i := 3) sc_extremes_of_span.nd rfl (Or.inl rfl) (pe_slice (sl_listK (K := K) rfl) (pe_fldK (K := K) rfl (pv 0) rfl) (po_some (pv 1)) (po_some (pv 2))))
      (pss_cons (ps_set (i := 4) sc_extremes_of_span.nd rfl (Or.inl rfl) (pe_call G_readings_in (hr.mono (by decide)) rfl g_readings_in k_readings_in b_readings_in .nil pass0 (pa_cons (pv 3) pa_nil)))
      (pss_cons (ps_if (pt_cmpR op_eq (pe_callB (call_lenK (K := K) rfl) (by rfl) T.b_len PySem.boot_len (pa_cons (pv 4) pa_nil)) pe_int (nomark _)) (pss_one (ps_ret (pe_lst (pa_cons (pe_glob (v := .int (-8)) rfl c_NO_READING ⟨_, rfl⟩) pa_nil)))) pss_nil)
      (pss_cons (ps_set (i := 5) sc_extremes_of_span.nd rfl (Or.inl rfl) (pe_callB (cr_minK (K := K) rfl rfl) (by rfl) T.b_min (by decide +kernel) (pa_cons (pv 4) pa_nil)))
      (pss_cons (ps_set (i := 6) sc_extremes_of_span.nd rfl (Or.inl rfl) (pe_callB (cr_maxK (K := K) rfl rfl) (by rfl) T.b_max (by decide +kernel) (pa_cons (pv 4) pa_nil)))
      (pss_one (ps_ret (pe_lst (pa_cons pe_int (pa_cons (pv 5) (pa_cons (pe_op op_add (pv 1) (pe_bm PySem.F.plainAttrs_list PySem.F.slot_list_index PySem.F.type_list_index (mt_indexK (K := K) rfl) (pv 3) (pa_cons (pv 5) pa_nil))) (pa_cons (pv 6) (pa_cons (pe_op op_add (pv 1) (pe_bm PySem.F.plainAttrs_list PySem.F.slot_list_index PySem.F.type_list_index (mt_indexK (K := K) rfl) (pv 3) (pa_cons (pv 6) pa_nil))) pa_nil)))))))))))))), ?_⟩), F.bindsN (fun _ _ _ _ _ _ us hl => match us, hl with | [_, _, _], _ => rfl), F.kp, T.g_extremes_of_span⟩
  obtain ⟨x, F, s0, i, j, rfl, hs, hQ⟩ := h
  refine q_when (et_not (et_B (ev_call (ea_cons (ev_var rfl) (ea_cons (ev_var rfl) (ea_cons (ev_var rfl) ea_nil))) (sv_isSpan hs)))) (fun hb H1 e1 => ?_) (fun hb H1 e1 => ?_)
  · have hb : j < i ∨ s0.added.length < j := by simpa using hb
    have e : aSpan s0 i j = [-4] := if_pos hb
    rw [e] at hQ
    exact s_retL (el_lst (ea_cons ev_c ea_nil) (by decide)) fun p H2 hp e2 h2 => hQ.go e1 hp e2 h2
  · have hb : ¬ (j < i ∨ s0.added.length < j) := by simpa using hb
    have e : aSpan s0 i j = _ := if_neg hb
    rw [e] at hQ
    obtain ⟨ps, es, hps⟩ := ev_standing (σ := start N_extremes_of_span [.ref x, nV i, nV j]) T.cl_Series T.n_Series_standing (hs.ex e1) (ta := tVar 0) (ev_var rfl)
    have hlen := span_len (l := Vbemaz.now s0) (i := i) (j := j) (by rw [now_len]; omega)
    have hla := hs.good.la
    have hok : okV (Vbemaz.span (Vbemaz.now s0) i j) := fun z hz => now_ok hs.good z (span_mem hz)
    refine q_asgL (el_is (el_sl es (eo_some (ev_var rfl)) (eo_some (ev_var rfl)) (sq_of hps)) (cut_span (by omega) (by rw [now_len]; omega))) fun p H2 hp e2 h2 => ?_
    generalize Vbemaz.span (Vbemaz.now s0) i j = l at hQ hlen hok h2
    refine q_asgL (el_call (ea_cons (ev_var rfl) ea_nil) (sl_readingsIn (sq_of h2) hok (by omega))) fun q H3 hq e3 h3 => ?_
    have hlp : (((Vbemaz.present l).map V.int).length : Int) = ((Vbemaz.present l).length : Int) := by rw [List.length_map]
    refine q_when (et_test (ev_op (ev_lenS (ea_cons (ev_var rfl) ea_nil) (sq_of h3)) ev_c (rv_eq rfl))) (fun hb2 H4 e4 => ?_) (fun hb2 H4 e4 => ?_)
    · have hb2 := V.int.inj (of_decide_eq_true hb2)
      have hnil : Vbemaz.present l = [] := List.eq_nil_of_length_eq_zero (by omega)
      rw [(leastIn_none l i).mpr hnil] at hQ
      exact s_retL (σ := [some (.ref x), some (nV i), some (nV j), some (.ref p), some (.ref q), none, none]) (el_lst (ea_cons ev_c ea_nil) (by decide)) fun r H5 hr5 e5 h5 => hQ.go (((e1.trans e2).trans e3).trans e4) hr5 e5 h5
    · have hb2 := of_decide_eq_false hb2
      have hne : Vbemaz.present l ≠ [] := fun z => hb2 (by rw [z]; rfl)
      cases hmin : Vbemaz.leastIn i l with
      | none => exact absurd ((leastIn_none l i).mp hmin) hne
      | some a =>
        cases hmax : Vbemaz.greatestIn i l with
        | none => exact absurd ((greatestIn_none l i).mp hmax) hne
        | some b =>
          rw [hmin, hmax] at hQ
          obtain ⟨a1, a2⟩ := a
          obtain ⟨b1, b2⟩ := b
          obtain ⟨am, al, ja, rfl, ag, an⟩ := leastIn_some l i a1 a2 hmin
          obtain ⟨bm, bl, jb, rfl, bg, bn⟩ := greatestIn_some l i b1 b2 hmax
          have hall : (l.map gv).all flatV = true := by
            rw [List.all_map]
            exact List.all_eq_true.mpr fun _ _ => rfl
          have hearly : ∀ (m : Int) (jm : Nat), some m ∈ l → (∀ j', j' < jm → l[j']? ≠ some (some m)) → ∀ (n : Nat) (z' : V), n < jm → (l.map gv)[n]? = some z' → eqV z' (.int m) = false := by
            intro m jm hm hno n z' hn hz
            rw [List.getElem?_map] at hz
            obtain ⟨u, hu, rfl⟩ := Option.map_eq_some_iff.mp hz
            have hmb := hok m hm
            show ((gI u : Int) == m) = false
            refine beq_eq_false_iff_ne.mpr ?_
            cases u with
            | none =>
              show (2000000000 : Int) ≠ m
              omega
            | some y =>
              intro z
              have z : y = m := z
              rw [z] at hu
              exact hno n hn hu
          refine q_asg (ev_min (ea_cons (ev_var rfl) ea_nil) (sq_of (e4 _ _ h3)) am al) fun H5 e5 => ?_
          refine q_asg (ev_max (ea_cons (ev_var rfl) ea_nil) (sq_of (e5 _ _ (e4 _ _ h3))) bm bl) fun H6 e6 => ?_
          have h2' := sq_of (K := K) (e6 _ _ (e5 _ _ (e4 _ _ (e3 _ _ h2))))
          refine s_retL (el_is (el_lst (ea_cons ev_c (ea_cons (ev_var rfl) (ea_cons (ev_op (ev_var rfl) (ev_index (j := ja) (z := .int a1) (ev_var rfl) (ev_var rfl) h2' rfl hall (by rw [List.getElem?_map, ag]; rfl) (beq_self_eq_true a1) (hearly a1 ja (List.mem_of_getElem? ag) an)) rv_I0) (ea_cons (ev_var rfl) (ea_cons (ev_op (ev_var rfl) (ev_index (j := jb) (z := .int b1) (ev_var rfl) (ev_var rfl) h2' rfl hall (by rw [List.getElem?_map, bg]; rfl) (beq_self_eq_true b1) (hearly b1 jb (List.mem_of_getElem? bg) bn)) rv_I0) ea_nil))))) (show 5 ≤ 100000 by decide)) (ys := ([0, a1, ((i + ja : Nat) : Int), b1, ((i + jb : Nat) : Int)] : List Int).map V.int) ?_) fun r H7 hr7 e7 h7 => hQ.go (((((e1.trans e2).trans e3).trans e4).trans e5).trans e6) hr7 e7 h7
          show [V.int 0, V.int a1, V.int ((i : Int) + (ja : Int)), V.int b1, V.int ((i : Int) + (jb : Int))] = [V.int 0, V.int a1, V.int ((i + ja : Nat) : Int), V.int b1, V.int ((i + jb : Nat) : Int)]
          rw [Int.natCast_add, Int.natCast_add]
theorem ok_told_piece (T : Top K w mg) : Def P w K mg base "told_piece" 1 ["values"] (spToldPiece K) := by
  obtain ⟨_, c_GAP⟩ := T.c_GAP
  obtain ⟨fd, F⟩ := T.f_told_piece
  refine ⟨fd, F.ok sc_told_piece (fun vs H Q E h => by obtain ⟨_, _, rfl, _⟩ := h; rfl) (fun cdv A outer s H vs Q E hr h => ⟨_, PSs.nox (pss_cons (ps_if (pt_cmpR (op_in_seqK (K := K) rfl) (pe_glob (v := .int (2000000000)) rfl c_GAP ⟨_, rfl⟩) (pv 0) (by rfl)) (pss_one (ps_ret (pe_lst (pa_cons pe_int (pa_cons pe_int pa_nil))))) pss_nil)
      (pss_one (ps_ret (pe_lst (pa_cons pe_int (pa_cons (pe_callB (cr_sumK (K := K) rfl rfl) (by rfl) T.b_sum (by decide +kernel) (pa_cons (pv 0) pa_nil)) pa_nil)))))), ?_⟩), F.bindsN (fun _ _ _ _ _ _ us hl => match us, hl with | [_], _ => rfl), F.kp, T.g_told_piece⟩
  obtain ⟨a, l, rfl, hS, hok, hQ⟩ := h
  have hall : (l.map gv).all flatV = true := by
    rw [List.all_map]
    exact List.all_eq_true.mpr fun _ _ => rfl
  refine q_when (et_is (et_test (ev_op ev_c (ev_var rfl) (rv_isL hS rfl hall))) (show inV (.int 2000000000) (l.map gv) = !(l.all fun v => v.isSome) by rw [in_gap hok, all_some, Bool.not_not])) (fun hb H1 e1 => ?_) (fun hb H1 e1 => ?_)
  · have e : toldPiece l = [0, 0] := by
      unfold toldPiece
      rw [if_neg (by simpa using hb)]
      rfl
    rw [e] at hQ
    exact s_retL (el_lst (ea_cons ev_c (ea_cons ev_c ea_nil)) (by decide)) fun p H2 hp e2 h2 => hQ.go e1 hp e2 h2
  · have hb : (l.all fun v => v.isSome) = true := by simpa using hb
    have e : toldPiece l = [1, Vbemaz.sumOf l] := by
      unfold toldPiece
      rw [if_pos hb]
      rfl
    rw [e] at hQ
    have hS2 : SqL K H1 a ((Vbemaz.present l).map V.int) := by
      have h := ex_l e1 hS
      rw [present_all hb, List.map_map] at h
      exact h
    exact s_retL (el_lst (ea_cons ev_c (ea_cons (ev_sum (ea_cons (ev_var rfl) ea_nil) hS2) ea_nil)) (show 2 ≤ 100000 by decide)) fun p H2 hp e2 h2 => hQ.go e1 hp e2 h2
theorem ok_coarse_pieces (T : Top K w mg) : Def P w K mg base "coarse_pieces" 2 ["series", "length"] (spCoarse K) := by
  obtain ⟨fd_told_piece, G_told_piece, b_told_piece, k_told_piece, g_told_piece⟩ := ok_told_piece (P := P) (w := w) (base := base) T
  obtain ⟨fd_told_row, G_told_row, b_told_row, k_told_row, g_told_row⟩ := ok_told_row (P := P) (w := w) (base := base) T
  obtain ⟨fd_Series_place_count, G_Series_place_count, b_Series_place_count⟩ := ok_Series_place_count (P := P) (w := w) (base := base) T
  obtain ⟨fd, F⟩ := T.f_coarse_pieces
  refine ⟨fd, F.ok sc_coarse_pieces (fun vs H Q E h => by obtain ⟨_, _, _, _, rfl, _⟩ := h; rfl) (fun cdv A outer s H vs Q E hr h => ⟨_, PSs.nox (pss_cons (ps_set (i := 2) sc_coarse_pieces.nd rfl (Or.inl rfl) (pe_lst pa_nil))
      (pss_cons (ps_for PassesOwn.never rfl (pi_range1 rfl T.b_range (pa_cons (pe_op op_fdiv (pe_meth0 (pv 0) T.cl_Series T.m_Series_place_count G_Series_place_count (hr.mono (by decide)) b_Series_place_count .nil pass0) (pv 1)) pa_nil)) (pg_name (i := 3) sc_coarse_pieces.nd rfl (Or.inl rfl)) (pss_one (ps_expr (pe_bm PySem.F.plainAttrs_list PySem.F.slot_list_extend PySem.F.type_list_extend mt_extend (pv 2) (pa_cons (pe_call G_told_piece (hr.mono (by decide)) rfl g_told_piece k_told_piece b_told_piece .nil pass0 (pa_cons (pe_slice (sl_listK (K := K) rfl) (pe_fldK (K := K) rfl (pv 0) rfl) (po_some (pe_op op_mul (pv 3) (pv 1))) (po_some (pe_op op_mul (pe_op op_add (pv 3) pe_int) (pv 1)))) pa_nil)) pa_nil)))))
      (pss_one (ps_ret (pe_op op_cat (pe_lst (pa_cons pe_int pa_nil)) (pe_call G_told_row (hr.mono (by decide)) rfl g_told_row k_told_row b_told_row .nil pass0 (pa_cons (pv 2) pa_nil))))))), ?_⟩), F.bindsN (fun _ _ _ _ _ _ us hl => match us, hl with | [_, _], _ => rfl), F.kp, T.g_coarse_pieces⟩
  obtain ⟨x, F, s0, n, rfl, hs, ⟨hn1, hn2⟩, hQ⟩ := h
  have hla := hs.good.la
  have hdiv : s0.added.length / n ≤ s0.added.length := Nat.div_le_self _ _
  refine q_asgL (el_lst ea_nil (by decide)) fun p H1 hp e1 h1 => ?_
  have hs1 := hs.ex e1
  refine q_forR1 (n := ((s0.added.length / n : Nat) : Int)) (ea_cons (ev_is (ev_op (ev_serM hs1 (ev_var rfl) ea_nil (sv_count hs1)) (ev_var rfl) (rv_I ⟨by omega, by omega⟩)) (show V.int ((s0.added.length : Int) / (n : Int)) = _ by rw [Int.natCast_ediv])) ea_nil) ⟨Int.natCast_nonneg _, Int.le_trans (Int.ofNat_le.mpr hdiv) (by omega)⟩
    (fun t σ' H' => ∃ u, σ' = [some (.ref x), some (nV n), some (.ref p), u] ∧ Ex H H' ∧ t ≤ s0.added.length / n ∧ H' p = some (.lst (((List.range t).flatMap fun i => toldPiece (((Vbemaz.now s0).drop (i * n)).take n)).map V.int))) (fun H2 e2 => ⟨none, rfl, e1.trans e2, Nat.zero_le _, e2 _ _ h1⟩) ?_ ?_
  · rintro t σ' H' ht ⟨u, rfl, e2, ht2, h2⟩
    have hs2 := hs.ex e2
    obtain ⟨ps, es, hps⟩ := ev_standing (σ := [some (.ref x), some (nV n), some (.ref p), some (.int (t : Int))]) T.cl_Series T.n_Series_standing hs2 (ta := tVar 0) (ev_var rfl)
    have hpl : ∀ l : List Vbemaz.Val, (toldPiece l).length = 2 := fun l => told_len _
    have hfl : ∀ t, ((List.range t).flatMap fun i => toldPiece (((Vbemaz.now s0).drop (i * n)).take n)).length = 2 * t := by
      intro t
      induction t with
      | zero => rfl
      | succ t ih =>
        rw [List.range_succ, List.flatMap_append, List.length_append, ih]
        simp [hpl]
        omega
    have e6 : (t : Int) * (n : Int) = ((t * n : Nat) : Int) := (Int.natCast_mul t n).symm
    have e7 : ((t : Int) + 1) * (n : Int) = (((t + 1) * n : Nat) : Int) := by rw [Int.natCast_mul, Int.natCast_add]; rfl
    have hle : t * n ≤ (t + 1) * n := Nat.mul_le_mul_right n (by omega)
    have hcut : cutV ((Vbemaz.now s0).map gv) (some ((t : Int) * (n : Int))) (some (((t : Int) + 1) * (n : Int))) = (((Vbemaz.now s0).drop (t * n)).take n).map gv := by
      rw [e6, e7, cut_any hle, Nat.succ_mul, Nat.add_sub_cancel_left]
    refine s_ext h2 (ev_var rfl) (el_callN (el_is (el_sl es (eo_some (ev_op (ev_var rfl) (ev_var rfl) (rv_I (Or.inl ⟨by omega, by omega⟩)))) (eo_some (ev_op (ev_op (ev_var rfl) ev_c rv_I0) (ev_var rfl) (rv_I (Or.inl ⟨by omega, by omega⟩)))) (sq_of hps)) hcut) (fun r H3 hr3 e3 => fun H4 e4 _ q _ => ⟨r, _, rfl, sq_of (e4 _ _ hr3), fun z hz => now_ok hs.good z (List.mem_of_mem_drop (List.mem_of_mem_take hz)), q⟩)) ?_ fun H3 e3 => ⟨some (.int (t : Int)), rfl, Ex.mut (e2.trans e3) hp, by omega, ?_⟩
    · rw [List.length_map, List.length_map, hfl, hpl]
      omega
    · rw [upd_same, List.range_succ, List.flatMap_append, List.map_append]
      simp
  · rintro σ' H' ⟨u, rfl, e2, ht2, h2⟩
    rw [Int.toNat_natCast] at h2
    have hc := coarse_range (n := n) (by omega) (Vbemaz.now s0)
    rw [now_len] at hc
    rw [← hc] at h2
    have hlen : ((Vbemaz.coarse n (Vbemaz.now s0)).flatMap Vbemaz.told).length ≤ 1000 := by
      rw [hc]
      have hpl : ∀ l : List Vbemaz.Val, (toldPiece l).length = 2 := fun l => told_len _
      have : ∀ t, ((List.range t).flatMap fun i => toldPiece (((Vbemaz.now s0).drop (i * n)).take n)).length = 2 * t := by
        intro t
        induction t with
        | zero => rfl
        | succ t ih =>
          rw [List.range_succ, List.flatMap_append, List.length_append, ih]
          simp [hpl]
          omega
      rw [this]
      omega
    refine s_retL (σ := [some (.ref x), some (nV n), some (.ref p), u]) (el_cat (el_lst (ea_cons ev_c ea_nil) (by decide)) (el_call (ea_cons (ev_var rfl) ea_nil) (sl_toldRow h2 (by omega))) ?_) fun q H3 hq e3 h3 => hQ.go e2 hq e3 h3
    rw [List.length_map]
    show 1 + (_ + 1) ≤ 100000
    omega
theorem ok_blocks_of (T : Top K w mg) : Def P w K mg base "blocks_of" 1 ["series"] (spBlocks K) := by
  obtain ⟨_, c_BLOCK_LENGTH⟩ := T.c_BLOCK_LENGTH
  obtain ⟨fd, F⟩ := T.f_blocks_of
  refine ⟨fd, F.ok sc_blocks_of (fun vs H Q E h => by obtain ⟨_, _, _, rfl, _⟩ := h; rfl) (fun cdv A outer s H vs Q E hr h => ⟨_, PSs.nox (pss_cons (ps_set (i := 1) sc_blocks_of.nd rfl (Or.inr rfl) (pe_fldK (K := K) rfl (pv 0) rfl))
      (pss_one (ps_ret (pe_lc (own := [("start", 2)]) (g := gName 2) rfl sc_blocks_of.nd (pi_range3 rfl T.b_range (pa_cons pe_int (pa_cons (pe_callB (call_lenK (K := K) rfl) (by rfl) T.b_len PySem.boot_len (pa_cons (pv 1) pa_nil)) (pa_cons (pe_glob (v := .int (16)) rfl c_BLOCK_LENGTH ⟨_, rfl⟩) pa_nil)))) (blkOk_by (own := [("start", 2)]) (N := N_blocks_of) (sc := defScope st_blocks_of) (by decide +kernel)) (fun _ _ _ _ _ => pg_name (i := 2) sc_blocks_of.nd rfl (Or.inl rfl)) (fun _ _ _ _ _ => pts_nil) (fun _ _ _ _ _ => (pe_slice (sl_listK (K := K) rfl) (pv 1) (po_some (pv 2)) (po_some (pe_op op_add (pv 2) (pe_glob (v := .int (16)) rfl c_BLOCK_LENGTH ⟨_, rfl⟩))))))))), ?_⟩), F.bindsN (fun _ _ _ _ _ _ us hl => match us, hl with | [_], _ => rfl), F.kp, T.g_blocks_of⟩
  obtain ⟨x, F, s0, rfl, hs, hQ⟩ := h
  have hla := hs.good.la
  have hlen := now_len s0
  obtain ⟨ps, es, hps⟩ := ev_standing (σ := start N_blocks_of [.ref x]) T.cl_Series T.n_Series_standing hs (ta := tVar 0) (ev_var rfl)
  refine q_asg es fun H1 e1 => ?_
  have hps1 := e1 _ _ hps
  refine (els_lcR3 (m := ((Vbemaz.now s0).length + 15) / 16) (fun i => (((Vbemaz.now s0).drop (i * 16)).take 16).map gv) (ea_cons ev_c (ea_cons (ev_is (ev_lenS (ea_cons (ev_var rfl) ea_nil) (sq_of hps1)) (show V.int (((Vbemaz.now s0).map gv).length : Nat) = V.int ((Vbemaz.now s0).length : Nat) by rw [List.length_map])) (ea_cons ev_c ea_nil))) (rgC16 (by omega)) (by omega) (fun _ => rfl) (fun i H2 e2 hi => ?_)) H1 (Ex.refl H1) _ fun c H2 hc e2 h2 => hQ c H2 (fresh_back e1 hc) (e1.trans e2) h2
  have e6 : (0 : Int) + (i : Int) * 16 = ((i * 16 : Nat) : Int) := by omega
  have e7 : (0 : Int) + (i : Int) * 16 + 16 = ((i * 16 + 16 : Nat) : Int) := by omega
  have hcut : cutV ((Vbemaz.now s0).map gv) (some ((0 : Int) + (i : Int) * 16)) (some ((0 : Int) + (i : Int) * 16 + 16)) = (((Vbemaz.now s0).drop (i * 16)).take 16).map gv := by
    rw [e7, e6, cut_any (by omega), Nat.add_sub_cancel_left]
  exact el_is (el_sl (ev_var rfl) (eo_some (ev_var rfl)) (eo_some (ev_op (ev_var rfl) ev_c rv_I0)) (sq_of (e2 _ _ hps1))) hcut
theorem block_ok {s : Vbemaz.Series} (h : GoodS s) {i : Nat} (hi : i < ((Vbemaz.now s).length + 15) / 16) : okV (((Vbemaz.now s).drop (i * 16)).take 16) ∧ (((Vbemaz.now s).drop (i * 16)).take 16).length ≤ 16 ∧ ((Vbemaz.now s).drop (i * 16)).take 16 ≠ [] := by
  refine ⟨fun z hz => now_ok h z (List.mem_of_mem_drop (List.mem_of_mem_take hz)), by rw [List.length_take]; omega, fun z => ?_⟩
  have := congrArg List.length z
  rw [List.length_take, List.length_drop] at this
  simp at this
  omega
theorem ok_sizes_of_blocks (T : Top K w mg) : Def P w K mg base "sizes_of_blocks" 8 ["series"] (spAsk K aSizes) := by
  obtain ⟨fd_blocks_of, G_blocks_of, b_blocks_of, k_blocks_of, g_blocks_of⟩ := ok_blocks_of (P := P) (w := w) (base := base) T
  obtain ⟨fd_block_bits, G_block_bits, b_block_bits, k_block_bits, g_block_bits⟩ := ok_block_bits (P := P) (w := w) (base := base) T
  obtain ⟨fd_told_row, G_told_row, b_told_row, k_told_row, g_told_row⟩ := ok_told_row (P := P) (w := w) (base := base) T
  obtain ⟨fd, F⟩ := T.f_sizes_of_blocks
  refine ⟨fd, F.ok sc_sizes_of_blocks (fun vs H Q E h => by obtain ⟨_, _, _, rfl, _⟩ := h; rfl) (fun cdv A outer s H vs Q E hr h => ⟨_, PSs.nox (pss_cons (ps_setLc (i := 1) (own := [("values", 2)]) (g := gName 2) rfl sc_sizes_of_blocks.nd rfl rfl (sw_true rfl rfl rfl (by decide +kernel)) (pi_list (pe_call G_blocks_of (hr.mono (by decide)) rfl g_blocks_of k_blocks_of b_blocks_of .nil pass0 (pa_cons (pv 0) pa_nil))) (blkOk_by (own := [("values", 2)]) (N := N_sizes_of_blocks) (sc := defScope st_sizes_of_blocks) (by decide +kernel)) (fun _ _ _ _ _ => pg_name (i := 2) sc_sizes_of_blocks.nd rfl (Or.inl rfl)) (fun _ _ _ _ _ => pts_nil) (fun _ _ _ _ _ => (pe_callB (call_lenK (K := K) rfl) (by rfl) T.b_len PySem.boot_len (pa_cons (pe_call G_block_bits (hr.mono (by decide)) rfl g_block_bits k_block_bits b_block_bits .nil pass0 (pa_cons (pv 2) pa_nil)) pa_nil))))
      (pss_one (ps_ret (pe_op op_cat (pe_lst (pa_cons pe_int (pa_cons (pe_callB (cr_sumK (K := K) rfl rfl) (by rfl) T.b_sum (by decide +kernel) (pa_cons (pv 1) pa_nil)) pa_nil))) (pe_call G_told_row (hr.mono (by decide)) rfl g_told_row k_told_row b_told_row .nil pass0 (pa_cons (pv 1) pa_nil)))))), ?_⟩), F.bindsN (fun _ _ _ _ _ _ us hl => match us, hl with | [_], _ => rfl), F.kp, T.g_sizes_of_blocks⟩
  obtain ⟨x, F, s0, rfl, hs, hQ⟩ := h
  have hla := hs.good.la
  have hlen := now_len s0
  refine q_asgL (el_lcLs (fun i => nV (Vbemaz.packed (((Vbemaz.now s0).drop (i * 16)).take 16)).length) (els_call (ea_cons (ev_var rfl) ea_nil) (sls_blocks hs)) (by omega) (fun _ => rfl) (fun i hi p H1 e1 h1 => ?_)) fun q H1 hq e1 h1 => ?_
  · obtain ⟨b1, b2, b3⟩ := block_ok hs.good hi
    exact ev_cbN (el_call (ea_cons (ev_var rfl) ea_nil) (sl_blockBits (sq_of h1) b1 b2 b3)) (fun r H2 hr2 e2 => by
      have := rc_len (K := K) (sq_of hr2)
      rwa [List.length_map] at this)
  · have e2 : (List.range (((Vbemaz.now s0).length + 15) / 16)).map (fun i => nV (Vbemaz.packed (((Vbemaz.now s0).drop (i * 16)).take 16)).length) = ((Vbemaz.blocks (Vbemaz.now s0)).map fun b => ((Vbemaz.packed b).length : Int)).map V.int := by
      rw [blocks_range, List.map_map, List.map_map]
      rfl
    rw [e2] at h1
    have e3 : aSizes s0 = 0 :: ((Vbemaz.blocks (Vbemaz.now s0)).map fun b => ((Vbemaz.packed b).length : Int)).sum :: Vbemaz.row ((Vbemaz.blocks (Vbemaz.now s0)).map fun b => ((Vbemaz.packed b).length : Int)) := by
      unfold aSizes
      rw [bitsIn_sum]
    rw [e3] at hQ
    have hbl : (Vbemaz.blocks (Vbemaz.now s0)).length ≤ 30 := by
      rw [blocks_range, List.length_map, List.length_range]
      omega
    refine s_retL (σ := [some (.ref x), some (.ref q), none]) (el_cat (el_lst (ea_cons ev_c (ea_cons (ev_sum (ea_cons (ev_var rfl) ea_nil) (sq_of h1)) ea_nil)) (show 2 ≤ 100000 by decide)) (el_call (ea_cons (ev_var rfl) ea_nil) (sl_toldRow h1 (by rw [List.length_map]; omega))) ?_) fun p H3 hp e4 h3 => hQ.go e1 hp e4 h3
    rw [List.length_map]
    show 2 + (_ + 1) ≤ 100000
    rw [List.length_map]
    omega
theorem ok_bytes_of_block (T : Top K w mg) : Def P w K mg base "bytes_of_block" 8 ["series", "number"] (spBlock K) := by
  obtain ⟨fd_blocks_of, G_blocks_of, b_blocks_of, k_blocks_of, g_blocks_of⟩ := ok_blocks_of (P := P) (w := w) (base := base) T
  obtain ⟨fd_told_row, G_told_row, b_told_row, k_told_row, g_told_row⟩ := ok_told_row (P := P) (w := w) (base := base) T
  obtain ⟨fd_as_bytes, G_as_bytes, b_as_bytes, k_as_bytes, g_as_bytes⟩ := ok_as_bytes (P := P) (w := w) (base := base) T
  obtain ⟨fd_block_bits, G_block_bits, b_block_bits, k_block_bits, g_block_bits⟩ := ok_block_bits (P := P) (w := w) (base := base) T
  obtain ⟨_, c_NO_SUCH_PLACE⟩ := T.c_NO_SUCH_PLACE
  obtain ⟨fd, F⟩ := T.f_bytes_of_block
  refine ⟨fd, F.ok sc_bytes_of_block (fun vs H Q E h => by obtain ⟨_, _, _, _, rfl, _⟩ := h; rfl) (fun cdv A outer s H vs Q E hr h => ⟨_, PSs.nox (pss_cons (ps_set (i := 2) sc_bytes_of_block.nd rfl (Or.inl rfl) (pe_call G_blocks_of (hr.mono (by decide)) rfl g_blocks_of k_blocks_of b_blocks_of .nil pass0 (pa_cons (pv 0) pa_nil)))
      (pss_cons (ps_if (pt_cmpR op_ge (pv 1) (pe_callB (call_lenK (K := K) rfl) (by rfl) T.b_len PySem.boot_len (pa_cons (pv 2) pa_nil)) (nomark _)) (pss_one (ps_ret (pe_lst (pa_cons (pe_glob (v := .int (-4)) rfl c_NO_SUCH_PLACE ⟨_, rfl⟩) pa_nil)))) pss_nil)
      (pss_one (ps_ret (pe_op op_cat (pe_lst (pa_cons pe_int pa_nil)) (pe_call G_told_row (hr.mono (by decide)) rfl g_told_row k_told_row b_told_row .nil pass0 (pa_cons (pe_call G_as_bytes (hr.mono (by decide)) rfl g_as_bytes k_as_bytes b_as_bytes .nil pass0 (pa_cons (pe_call G_block_bits (hr.mono (by decide)) rfl g_block_bits k_block_bits b_block_bits .nil pass0 (pa_cons (pe_ix (ix_listK (K := K) rfl) (pv 2) (pv 1) (fun _ _ => rfl)) pa_nil)) pa_nil)) pa_nil))))))), ?_⟩), F.bindsN (fun _ _ _ _ _ _ us hl => match us, hl with | [_, _], _ => rfl), F.kp, T.g_bytes_of_block⟩
  obtain ⟨x, F, s0, n, rfl, hs, hn, hQ⟩ := h
  have hla := hs.good.la
  have hlen := now_len s0
  refine q_asgLs (els_call (ea_cons (ev_var rfl) ea_nil) (sls_blocks hs)) fun c H1 hc e1 hL => ?_
  obtain ⟨p, hp1, hp2⟩ := hL
  have hb0 := blocks_range (Vbemaz.now s0)
  refine q_when (et_is (et_test (ev_op (ev_var rfl) (ev_lenS (ea_cons (ev_var rfl) ea_nil) (sq_of hp1)) rv_I0)) (show _ = decide (((Vbemaz.now s0).length + 15) / 16 ≤ n) from decide_eq_decide.mpr (by rw [List.length_map, List.length_range]; omega))) (fun hb H2 e2 => ?_) (fun hb H2 e2 => ?_)
  · have hb := of_decide_eq_true hb
    have e : aBlock s0 n = [-4] := by
      unfold aBlock
      rw [hb0, List.getElem?_eq_none (by rw [List.length_map, List.length_range]; exact hb)]
    rw [e] at hQ
    exact s_retL (σ := [some (.ref x), some (nV n), some (.ref c)]) (el_lst (ea_cons ev_c ea_nil) (by decide)) fun r H3 hr3 e3 h3 => hQ.go (e1.trans e2) hr3 e3 h3
  · have hb : n < ((Vbemaz.now s0).length + 15) / 16 := by have := of_decide_eq_false hb; omega
    have e : aBlock s0 n = 0 :: Vbemaz.row (Vbemaz.nats (Vbemaz.pack (((Vbemaz.now s0).drop (n * 16)).take 16))) := by
      unfold aBlock
      rw [hb0, List.getElem?_map, List.getElem?_range hb]
      rfl
    rw [e] at hQ
    obtain ⟨b1, b2, b3⟩ := block_ok hs.good hb
    have hpl := packed_len b2 b1
    have hbn : (Vbemaz.nats (Vbemaz.pack (((Vbemaz.now s0).drop (n * 16)).take 16))).map V.int = (Vbemaz.toBytes (Vbemaz.packed (((Vbemaz.now s0).drop (n * 16)).take 16))).map fun n => V.int (n : Nat) := by
      unfold Vbemaz.nats Vbemaz.pack
      rw [List.map_map]
      rfl
    have hbl : (Vbemaz.nats (Vbemaz.pack (((Vbemaz.now s0).drop (n * 16)).take 16))).length ≤ 1000 := by
      unfold Vbemaz.nats Vbemaz.pack
      rw [List.length_map, toBytes_len]
      omega
    refine s_retL (σ := [some (.ref x), some (nV n), some (.ref c)]) (el_cat (el_lst (ea_cons ev_c ea_nil) (by decide)) (el_callN (el_callN (el_call (ea_cons (ev_op (ev_var rfl) (ev_var rfl) (rv_ixL (v := .ref (p n)) (sq_of (e2 _ _ hp1)) (atI_nat (by rw [List.getElem?_map, List.getElem?_range hb]; rfl)))) ea_nil) (sl_blockBits (sq_of (e2 _ _ (hp2 n hb))) b1 b2 b3)) (fun r H3 hr3 e3 => sl_asBytes (sq_of hr3) (by omega))) (fun r H3 hr3 e3 => sl_toldRow (l := Vbemaz.nats (Vbemaz.pack (((Vbemaz.now s0).drop (n * 16)).take 16))) (by rw [hr3, hbn]) (by omega))) ?_) fun r H3 hr3 e3 h3 => hQ.go (e1.trans e2) hr3 e3 h3
    rw [List.length_map]
    show 1 + (_ + 1) ≤ 100000
    omega
end
end PR
set_option Elab.async false
set_option linter.all false
set_option maxRecDepth 100000
set_option maxHeartbeats 4000000
namespace PR
open PySem PySem.Spec PyProof.Rows L2 Evl
/-! ### the four series in the heap -/
structure All (C : Addr) (H : Hp) (xs : List Addr) (Fs : List (List Addr)) (S : Vbemaz.State) : Prop where
  lx : xs.length = 4
  lf : Fs.length = 4
  ls : S.series.length = 4
  ser : ∀ (i : Nat) (x : Addr) (F : List Addr) (s : Vbemaz.Series), xs[i]? = some x → Fs[i]? = some F → S.series[i]? = some s → Ser C H x F s
  nd : xs.Nodup
  dj : ∀ (i j : Nat) (F G : List Addr), i ≠ j → Fs[i]? = some F → Fs[j]? = some G → ∀ b, b ∈ F → b ∉ G
theorem Ser.kinds {C : Addr} {H : Hp} {x : Addr} {F : List Addr} {s : Vbemaz.Series} (h : Ser C H x F s) : (∃ dx fs, H x = some (.ins C dx fs)) ∧ ∀ b, b ∈ F → ∃ l, H b = some (.lst l) := by
  obtain ⟨pa, pc, ps, rfl, h⟩ := h
  obtain ⟨dx, hx⟩ := h.ins
  obtain ⟨ts, hc, _⟩ := h.hc
  refine ⟨⟨dx, _, hx⟩, fun b hb => ?_⟩
  simp only [List.mem_cons, List.not_mem_nil, or_false] at hb
  rcases hb with rfl | rfl | rfl
  · exact ⟨_, h.ha⟩
  · exact ⟨_, hc⟩
  · exact ⟨_, h.hs⟩
/-- a series stands where nothing of it is touched -/
theorem Ser.keep {C : Addr} {H H' : Hp} {x y : Addr} {F G : List Addr} {s : Vbemaz.Series} (h : Ser C H y G s) (k : Keep H H' x F) (hy : y ≠ x) (hyF : y ∉ F) (hG : ∀ b, b ∈ G → b ≠ x ∧ b ∉ F) (hF : ∀ b, b ∈ F → ∃ l, H b = some (.lst l)) (hx : ∃ D dx fs, H x = some (.ins D dx fs)) : Ser C H' y G s := by
  obtain ⟨pa, pc, ps, rfl, h⟩ := h
  obtain ⟨dx, hin⟩ := h.ins
  obtain ⟨ts, hc, hl, ht⟩ := h.hc
  have ga := hG pa (by simp)
  have gc := hG pc (by simp)
  have gs := hG ps (by simp)
  refine ⟨pa, pc, ps, rfl, ⟨dx, k _ _ hin hy hyF⟩, k _ _ h.ha ga.1 ga.2, ⟨ts, k _ _ hc gc.1 gc.2, hl, fun i t f a b => ?_⟩, k _ _ h.hs gs.1 gs.2, h.d1, h.d2, h.d3, h.good⟩
  have htt := ht i t f a b
  refine k _ _ htt ?_ ?_
  · obtain ⟨D, dx', fs, hx⟩ := hx
    exact ne_of htt hx (by intro z; cases z)
  · intro z
    obtain ⟨l, hl⟩ := hF t z
    rw [htt] at hl
    cases hl
theorem All.ex {C : Addr} {H H' : Hp} {xs : List Addr} {Fs : List (List Addr)} {S : Vbemaz.State} (h : All C H xs Fs S) (e : Ex H H') : All C H' xs Fs S :=
  ⟨h.lx, h.lf, h.ls, fun i x F s a b c => (h.ser i x F s a b c).ex e, h.nd, h.dj⟩
/-- what is none of the series' stands; their lists are the old ones or new -/
def KeepA (H H' : Hp) (xs : List Addr) (Fs : List (List Addr)) : Prop := ∀ b o, H b = some o → b ∉ xs → (∀ F, F ∈ Fs → b ∉ F) → H' b = some o
def NewA (H : Hp) (Fs Fs' : List (List Addr)) : Prop := ∀ F', F' ∈ Fs' → ∀ b, b ∈ F' → (∃ F, F ∈ Fs ∧ b ∈ F) ∨ H b = none
theorem All.chg {C : Addr} {H H' : Hp} {xs : List Addr} {Fs : List (List Addr)} {S : Vbemaz.State} {i : Nat} {x : Addr} {F : List Addr} {s' : Vbemaz.Series} (h : All C H xs Fs S) (hx : xs[i]? = some x) (hF : Fs[i]? = some F) (c : Chg C H H' x F s') :
    ∃ Fs', All C H' xs Fs' (Vbemaz.put S i s') ∧ KeepA H H' xs Fs ∧ NewA H Fs Fs' := by
  obtain ⟨F', hs, hk, hn, _⟩ := c
  have hi : i < 4 := by
    have := (List.getElem?_eq_some_iff.mp hx).1
    rw [h.lx] at this
    exact this
  have hsl : i < S.series.length := by rw [h.ls]; exact hi
  have hsi : S.series[i]? = some S.series[i] := List.getElem?_eq_getElem hsl
  have old := h.ser i x F _ hx hF hsi
  obtain ⟨⟨dx, fs, kx⟩, kF⟩ := old.kinds
  have oth : ∀ (j : Nat) (y : Addr) (G : List Addr) (s : Vbemaz.Series), j ≠ i → xs[j]? = some y → Fs[j]? = some G → S.series[j]? = some s → Ser C H y G s ∧ y ≠ x ∧ y ∉ F ∧ (∀ b, b ∈ G → b ≠ x ∧ b ∉ F) := by
    intro j y G s hj a b d
    have hS := h.ser j y G s a b d
    obtain ⟨⟨dy, gy, ky⟩, kG⟩ := hS.kinds
    refine ⟨hS, fun z => ?_, fun z => ?_, fun b' hb' => ⟨fun z => ?_, fun z => ?_⟩⟩
    · subst z
      exact hj (nd_ix h.nd a hx)
    · obtain ⟨l, hl⟩ := kF y z
      rw [ky] at hl
      cases hl
    · obtain ⟨l, hl⟩ := kG b' hb'
      rw [z, kx] at hl
      cases hl
    · exact h.dj j i G F hj b hF b' hb' z
  refine ⟨Fs.set i F', ⟨h.lx, by rw [List.length_set]; exact h.lf, by show (S.series.set i s').length = 4; rw [List.length_set]; exact h.ls, ?_, h.nd, ?_⟩, ?_, ?_⟩
  · intro j y G s a b d
    have d : (S.series.set i s')[j]? = some s := d
    by_cases hj : j = i
    · subst hj
      rw [List.getElem?_set_self (by rw [h.lf]; exact hi)] at b
      rw [List.getElem?_set_self (by rw [h.ls]; exact hi)] at d
      obtain rfl : x = y := Option.some.inj (hx.symm.trans a)
      obtain rfl : F' = G := Option.some.inj b
      obtain rfl : s' = s := Option.some.inj d
      exact hs
    · rw [List.getElem?_set_ne (Ne.symm hj)] at b d
      obtain ⟨hS, a1, a2, a3⟩ := oth j y G s hj a b d
      exact hS.keep hk a1 a2 a3 kF ⟨_, _, _, kx⟩
  · have fresh : ∀ (j : Nat) (G : List Addr), j ≠ i → Fs[j]? = some G → ∀ b, b ∈ F' → b ∉ G := by
      intro j G hj hG b hb hbG
      have hjl : j < 4 := by
        have := (List.getElem?_eq_some_iff.mp hG).1
        rw [h.lf] at this
        exact this
      have hxl : j < xs.length := by rw [h.lx]; exact hjl
      have hsl2 : j < S.series.length := by rw [h.ls]; exact hjl
      have hxj : xs[j]? = some xs[j] := List.getElem?_eq_getElem hxl
      have hsj : S.series[j]? = some S.series[j] := List.getElem?_eq_getElem hsl2
      rcases hn b hb with z | z
      · exact h.dj i j F G (Ne.symm hj) hF hG b z hbG
      · obtain ⟨l, hl⟩ := (h.ser j _ G _ hxj hG hsj).kinds.2 b hbG
        rw [z] at hl
        cases hl
    intro j k G1 G2 hjk a b
    by_cases hj : j = i
    · subst hj
      rw [List.getElem?_set_self (by rw [h.lf]; exact hi)] at a
      rw [List.getElem?_set_ne hjk] at b
      obtain rfl : F' = G1 := Option.some.inj a
      exact fresh k G2 (Ne.symm hjk) b
    · rw [List.getElem?_set_ne (Ne.symm hj)] at a
      by_cases hk2 : k = i
      · subst hk2
        rw [List.getElem?_set_self (by rw [h.lf]; exact hi)] at b
        obtain rfl : F' = G2 := Option.some.inj b
        intro c hc hc2
        exact fresh j G1 hj a c hc2 hc
      · rw [List.getElem?_set_ne (Ne.symm hk2)] at b
        exact h.dj j k G1 G2 hjk a b
  · intro b o hb h1 h2
    exact hk b o hb (fun z => h1 (by rw [z]; exact List.mem_of_getElem? hx)) (h2 F (List.mem_of_getElem? hF))
  · intro G hG b hb
    rcases List.mem_or_eq_of_mem_set hG with z | z
    · exact .inl ⟨G, z, hb⟩
    · subst z
      rcases hn b hb with z | z
      · exact .inl ⟨F, List.mem_of_getElem? hF, z⟩
      · exact .inr z
end PR
set_option Elab.async false
set_option linter.all false
set_option maxRecDepth 100000
set_option maxHeartbeats 4000000
namespace PR
open PySem PySem.Spec PyProof.Rows L2 Evl
/-! ### the reader of the calls' list -/
abbrev rdF (a : Addr) (i : Nat) : List (Str × V) := [("numbers", .ref a), ("at", nV i)]
theorem rdF_numbers {a : Addr} {i : Nat} : (rdF a i).lookup ("numbers" : Str) = some (.ref a) := lk_here
theorem rdF_at {a : Addr} {i : Nat} : (rdF a i).lookup ("at" : Str) = some (nV i) := (lk_past (by decide +kernel)).trans lk_here
theorem rdF_none {a : Addr} {i : Nat} {m : Str} (h1 : (m == ("numbers" : Str)) = false) (h2 : (m == ("at" : Str)) = false) : (rdF a i).lookup m = none := (lk_past h1).trans ((lk_past h2).trans rfl)
theorem rdF_put {a : Addr} {i : Nat} {y : V} : putF "at" y (rdF a i) = ([("numbers", .ref a), ("at", y)] : List (Str × V)) := (put_past (by decide +kernel)).trans (congrArg _ put_here)
theorem rdF_new {a : Addr} : putF "at" (nV 0) (putF "numbers" (.ref a) []) = rdF a 0 := (put_past (by decide +kernel)).trans rfl
abbrev cRd (K : PySem.W.Frag) : Addr := He.ga K "Reader"
/-- a reader of ns, at i -/
structure RdAt (K : PySem.W.Frag) (H : Hp) (x a : Addr) (ns : List Int) (i : Nat) : Prop where
  ins : ∃ dx, H x = some (.ins (cRd K) dx (rdF a i))
  num : SqL K H a (ns.map V.int)
theorem RdAt.ex {K : PySem.W.Frag} {H H' : Hp} {x a : Addr} {ns : List Int} {i : Nat} (h : RdAt K H x a ns i) (e : Ex H H') : RdAt K H' x a ns i := by
  obtain ⟨dx, hx⟩ := h.ins
  exact ⟨⟨dx, e _ _ hx⟩, ex_l e h.num⟩
/-- all but x stands -/
def But (H H' : Hp) (x : Addr) : Prop := ∀ b o, H b = some o → b ≠ x → H' b = some o
theorem But.of {H H' : Hp} {x : Addr} (e : Ex H H') : But H H' x := fun b o h _ => e b o h
theorem But.trans {H H1 H' : Hp} {x : Addr} (a : But H H1 x) (b : But H1 H' x) : But H H' x := fun c o h n => b c o (a c o h n) n
theorem But.upd {H : Hp} {x : Addr} {o : HO} : But H (upd H x o) x := fun b u h n => by rw [upd_ne n]; exact h
theorem But.list {K : PySem.W.Frag} {H H' : Hp} {x a : Addr} {l : List V} (k : But H H' x) (hx : ∃ C dx fs, H x = some (.ins C dx fs)) (h : SqL K H a l) : SqL K H' a l := by
  obtain ⟨C, dx, fs, hx⟩ := hx
  rcases h with (h | ⟨o, h⟩) | h
  · exact .inl (.inl (k _ _ h (ne_of h hx (by intro z; cases z))))
  · exact .inl (.inr ⟨o, k _ _ h (ne_of h hx (by intro z; cases z))⟩)
  · exact .inr h
def spRdInit (K : PySem.W.Frag) : Sp := fun vs H Q _ => ∃ (x a dx : Addr) (ns : List Int), vs = [.ref x, .ref a] ∧ H x = some (.ins (cRd K) dx []) ∧ SqL K H a (ns.map V.int) ∧ ∀ H', But H H' x → RdAt K H' x a ns 0 → Q .non H'
def spRdMore (K : PySem.W.Frag) : Sp := fun vs H Q _ => ∃ (x a : Addr) (ns : List Int) (i : Nat), vs = [.ref x] ∧ RdAt K H x a ns i ∧ RetV (.bl (decide (i < ns.length))) H Q
def spRdNum (K : PySem.W.Frag) : Sp := fun vs H Q _ => ∃ (x a : Addr) (ns : List Int) (i : Nat) (n : Int), vs = [.ref x] ∧ RdAt K H x a ns i ∧ ns[i]? = some n ∧ ∀ H', But H H' x → RdAt K H' x a ns (i + 1) → Q (.int n) H'
def spRdRow (K : PySem.W.Frag) : Sp := fun vs H Q _ => ∃ (x a : Addr) (ns : List Int) (i m : Nat), vs = [.ref x] ∧ RdAt K H x a ns i ∧ ns[i]? = some (m : Int) ∧ i + 1 + m ≤ ns.length ∧ ∀ H' p, H p = none → But H H' x → RdAt K H' x a ns (i + 1 + m) → H' p = some (.lst (((ns.drop (i + 1)).take m).map V.int)) → Q (.ref p) H'
section
variable {P : Program} {w : World} {K : PySem.W.Frag} {mg : Str → Option Value} {base : Heap}
theorem ok_Reader___init__ (T : Top K w mg) : DefM P w K mg base "Reader" "__init__" 1 ["self", "numbers"] (spRdInit K) := by
  obtain ⟨fd, F⟩ := T.f_Reader___init__
  refine ⟨fd, F.ok sc_Reader___init__ (fun vs H Q E h => by obtain ⟨_, _, _, _, rfl, _⟩ := h; rfl) (fun cdv A outer s H vs Q E hr h => ⟨_, PSs.nox (pss_cons (ps_fld (pv 0) (pv 1) rfl)
      (pss_one (ps_fld (pv 0) pe_int rfl))), ?_⟩), F.bindsN (fun _ _ _ _ _ _ us hl => match us, hl with | [_, _], _ => rfl)⟩
  obtain ⟨x, a, dx, ns, rfl, hx, hS, hQ⟩ := h
  refine ⟨_, rfl, _, rfl, x, _, dx, [], rfl, hx, T.cl_Reader, T.n_Reader_numbers, show 0 < 1000 by decide, ?_⟩
  refine ⟨_, rfl, x, _, dx, _, rfl, upd_same, T.cl_Reader, T.n_Reader_at, show 1 < 1000 by decide, ?_⟩
  have e := rdF_new (a := a)
  refine hQ _ (But.upd.trans But.upd) ⟨⟨dx, by rw [upd_same]; exact congrArg (fun z => some (HO.ins (cRd K) dx z)) e⟩, ?_⟩
  exact But.list (But.upd.trans But.upd) ⟨_, _, _, hx⟩ hS
theorem ok_Reader_has_more (T : Top K w mg) : DefM P w K mg base "Reader" "has_more" 1 ["self"] (spRdMore K) := by
  obtain ⟨fd, F⟩ := T.f_Reader_has_more
  refine ⟨fd, F.ok sc_Reader_has_more (fun vs H Q E h => by obtain ⟨_, _, _, _, rfl, _⟩ := h; rfl) (fun cdv A outer s H vs Q E hr h => ⟨_, PSs.nox (pss_one (ps_ret (pe_cmpR op_lt (pe_fldK (K := K) rfl (pv 0) rfl) (pe_callB (call_lenK (K := K) rfl) (by rfl) T.b_len PySem.boot_len (pa_cons (pe_fldK (K := K) rfl (pv 0) rfl) pa_nil)) (nomark _)))), ?_⟩), F.bindsN (fun _ _ _ _ _ _ us hl => match us, hl with | [_], _ => rfl)⟩
  obtain ⟨x, a, ns, i, rfl, hr0, hQ⟩ := h
  obtain ⟨dx, hx⟩ := hr0.ins
  refine s_ret (ev_is (w := .bl (decide (i < ns.length))) (ev_op (ev_fld (ev_var rfl) hx T.cl_Reader T.n_Reader_at rdF_at) (ev_lenS (ea_cons (ev_fld (ev_var rfl) hx T.cl_Reader T.n_Reader_numbers rdF_numbers) ea_nil) hr0.num) rv_I0) ?_) fun H1 e1 => hQ.go e1
  rw [List.length_map]
  show V.bl _ = V.bl _
  congr 1
  exact decide_eq_decide.mpr (by omega)
theorem ok_Reader_take_number (T : Top K w mg) : DefM P w K mg base "Reader" "take_number" 1 ["self"] (spRdNum K) := by
  obtain ⟨fd, F⟩ := T.f_Reader_take_number
  refine ⟨fd, F.ok sc_Reader_take_number (fun vs H Q E h => by obtain ⟨_, _, _, _, _, rfl, _⟩ := h; rfl) (fun cdv A outer s H vs Q E hr h => ⟨_, PSs.nox (pss_cons (ps_set (i := 1) sc_Reader_take_number.nd rfl (Or.inl rfl) (pe_ix (ix_listK (K := K) rfl) (pe_fldK (K := K) rfl (pv 0) rfl) (pe_fldK (K := K) rfl (pv 0) rfl) (fun _ _ => rfl)))
      (pss_cons (ps_fld (pv 0) (pe_op op_add (pe_fldK (K := K) rfl (pv 0) rfl) pe_int) rfl)
      (pss_one (ps_ret (pv 1))))), ?_⟩), F.bindsN (fun _ _ _ _ _ _ us hl => match us, hl with | [_], _ => rfl)⟩
  obtain ⟨x, a, ns, i, n, rfl, hr0, hn, hQ⟩ := h
  obtain ⟨dx, hx⟩ := hr0.ins
  refine q_asg (ev_op (ev_fld (ev_var rfl) hx T.cl_Reader T.n_Reader_numbers rdF_numbers) (ev_fld (ev_var rfl) hx T.cl_Reader T.n_Reader_at rdF_at) (rv_ixL hr0.num (atI_nat (by rw [List.getElem?_map, hn]; rfl)))) fun H1 e1 => ?_
  have hx1 := e1 _ _ hx
  refine ⟨_, rfl, x, _, dx, _, _, rfl, hx1, T.cl_Reader, T.n_Reader_at, rdF_at, _, _, rfl, rfl, _, rfl, x, _, dx, _, rfl, hx1, T.cl_Reader, T.n_Reader_at, show 2 < 1000 by decide, ?_⟩
  refine ⟨_, rfl, hQ _ ((But.of e1).trans But.upd) ⟨⟨dx, ?_⟩, But.list But.upd ⟨_, _, _, hx1⟩ (ex_l e1 hr0.num)⟩⟩
  rw [upd_same, rdF_put]
  rfl
theorem ok_Reader_take_row (T : Top K w mg) : DefM P w K mg base "Reader" "take_row" 2 ["self"] (spRdRow K) := by
  obtain ⟨fd_Reader_take_number, G_Reader_take_number, b_Reader_take_number⟩ := ok_Reader_take_number (P := P) (w := w) (base := base) T
  obtain ⟨fd, F⟩ := T.f_Reader_take_row
  refine ⟨fd, F.ok sc_Reader_take_row (fun vs H Q E h => by obtain ⟨_, _, _, _, _, rfl, _⟩ := h; rfl) (fun cdv A outer s H vs Q E hr h => ⟨_, PSs.nox (pss_cons (ps_set (i := 1) sc_Reader_take_row.nd rfl (Or.inl rfl) (pe_meth0 (pv 0) T.cl_Reader T.m_Reader_take_number G_Reader_take_number (hr.mono (by decide)) b_Reader_take_number .nil pass0))
      (pss_cons (ps_set (i := 2) sc_Reader_take_row.nd rfl (Or.inl rfl) (pe_slice (sl_listK (K := K) rfl) (pe_fldK (K := K) rfl (pv 0) rfl) (po_some (pe_fldK (K := K) rfl (pv 0) rfl)) (po_some (pe_op op_add (pe_fldK (K := K) rfl (pv 0) rfl) (pv 1)))))
      (pss_cons (ps_fld (pv 0) (pe_op op_add (pe_fldK (K := K) rfl (pv 0) rfl) (pv 1)) rfl)
      (pss_one (ps_ret (pv 2)))))), ?_⟩), F.bindsN (fun _ _ _ _ _ _ us hl => match us, hl with | [_], _ => rfl)⟩
  obtain ⟨x, a, ns, i, m, rfl, hr0, hm, hle, hQ⟩ := h
  obtain ⟨dx, hx⟩ := hr0.ins
  refine ⟨_, rfl, x, dx, _, rfl, hx, rdF_none (by decide +kernel) (by decide +kernel), x, a, ns, i, _, rfl, hr0, hm, fun H1 k1 r1 => ?_⟩
  obtain ⟨dx1, hx1⟩ := r1.ins
  have hcut : cutV (ns.map V.int) (some ((i + 1 : Nat) : Int)) (some ((i + 1 : Nat) + (m : Int))) = ((ns.drop (i + 1)).take m).map V.int := by
    have e : ((i + 1 : Nat) : Int) + (m : Int) = ((i + 1 + m : Nat) : Int) := by omega
    unfold cutV
    rw [e, HT.sIx_nat, HT.sIx_nat, List.length_map, Nat.min_eq_left (show i + 1 ≤ ns.length by omega), Nat.min_eq_left hle, Nat.add_sub_cancel_left, List.map_take, List.map_drop]
  refine q_asgL (σ := [some (.ref x), some (nV m), none]) (el_is (el_sl (ev_fld (ev_var rfl) hx1 T.cl_Reader T.n_Reader_numbers rdF_numbers) (eo_some (ev_fld (ev_var rfl) hx1 T.cl_Reader T.n_Reader_at rdF_at)) (eo_some (ev_op (ev_fld (ev_var rfl) hx1 T.cl_Reader T.n_Reader_at rdF_at) (ev_var rfl) rv_I0)) r1.num) hcut) fun p H2 hp e2 h2 => ?_
  have hx2 := e2 _ _ hx1
  have hp0 : H p = none := by
    cases q : H p with
    | none => rfl
    | some o =>
      by_cases z : p = x
      · rw [z, hx1] at hp
        cases hp
      · rw [k1 p o q z] at hp
        cases hp
  refine ⟨_, rfl, x, _, dx1, _, _, rfl, hx2, T.cl_Reader, T.n_Reader_at, rdF_at, _, rfl, _, _, rfl, rfl, _, rfl, x, _, dx1, _, rfl, hx2, T.cl_Reader, T.n_Reader_at, show 2 < 1000 by decide, ?_⟩
  refine ⟨_, rfl, hQ _ p hp0 ((k1.trans (But.of e2)).trans But.upd) ⟨⟨dx1, ?_⟩, But.list But.upd ⟨_, _, _, hx2⟩ (ex_l e2 r1.num)⟩ ?_⟩
  · rw [upd_same, rdF_put]
    rfl
  · rw [upd_ne (ne_of h2 hx2 (by intro z; cases z))]
    exact h2
end
end PR
set_option Elab.async false
set_option linter.all false
set_option maxRecDepth 100000
set_option maxHeartbeats 4000000
namespace PR
open PySem PySem.Spec PyProof.Rows L2 Evl
/-! ### what is given with a call, in the heap: the numbers, then the rows -/
def Giv (H : Hp) (g : Addr) (rs : List Addr) (nums : List Int) (rows : List (List Int)) : Prop := H g = some (.lst (nums.map V.int ++ rs.map V.ref)) ∧ rs.length = rows.length ∧ ∀ (i : Nat) (r : Addr) (l : List Int), rs[i]? = some r → rows[i]? = some l → H r = some (.lst (l.map V.int))
theorem Giv.ex {H H' : Hp} {g : Addr} {rs : List Addr} {nums : List Int} {rows : List (List Int)} (h : Giv H g rs nums rows) (e : Ex H H') : Giv H' g rs nums rows := ⟨e _ _ h.1, h.2.1, fun i r l a b => e _ _ (h.2.2 i r l a b)⟩
def spTakeGivens (K : PySem.W.Frag) : Sp := fun vs H Q _ => ∃ (x a : Addr) (ns : List Int) (i i' : Nat) (p : Int) (nums : List Int) (rows : List (List Int)), vs = [.ref x, .int p] ∧ RdAt K H x a ns i ∧ Takes ns i p nums rows i' ∧
  ∀ H' g rs, But H H' x → RdAt K H' x a ns i' → Giv H' g rs nums rows → H g = none → (∀ r, r ∈ rs → H r = none) → Q (.ref g) H'
/-- a call's numbers and rows as its place has them, its rows not too long -/
def Fit (p : Int) (nums : List Int) (rows : List (List Int)) : Prop := PyVbemaz.shape p = some (nums.length, rows.length) ∧ ∀ r, r ∈ rows → r.length ≤ 250
def spAnswerOf (K : PySem.W.Frag) : Sp := fun vs H Q _ => ∃ (c g : Addr) (xs rs : List Addr) (Fs : List (List Addr)) (S : Vbemaz.State) (p : Int) (nums : List Int) (rows : List (List Int)), vs = [.ref c, .int p, .ref g] ∧ H c = some (.lst (xs.map V.ref)) ∧ All (cSer K) H xs Fs S ∧ Giv H g rs nums rows ∧ (∀ F, F ∈ Fs → ∀ r, r ∈ rs → r ∉ F) ∧ Fit p nums rows ∧
  ∀ H' q Fs', H q = none → All (cSer K) H' xs Fs' (Vbemaz.stepNumbers S ((p :: nums) :: rows)).1 → KeepA H H' xs Fs → NewA H Fs Fs' → H' q = some (.lst ((Vbemaz.stepNumbers S ((p :: nums) :: rows)).2.map V.int)) → (Vbemaz.stepNumbers S ((p :: nums) :: rows)).2.length ≤ 900 → Q (.ref q) H'
def spAnswers (K : PySem.W.Frag) : Sp := fun vs H Q _ => ∃ (a : Addr) (ns : List Int), vs = [.ref a] ∧ SqL K H a (ns.map V.int) ∧ PyVbemaz.answers_asked ns = true ∧ ns.length ≤ 16000 ∧ ∀ (H' : Hp) (p : Addr), H' p = some (.lst ((PyVbemaz.answers ns).map V.int)) → Q (.ref p) H'
theorem Takes.fit {ns : List Int} {i i' : Nat} {p : Int} {nums : List Int} {rows : List (List Int)} (h : Takes ns i p nums rows i') (hin : PyInside.call PyVbemaz.bound ((p :: nums) :: rows) = true) : Fit p nums rows := by
  obtain ⟨n, _, hl, h⟩ := h
  rcases h with ⟨hs, _, rfl, _⟩ | ⟨hs, m, _, _, hr, _⟩
  · exact ⟨by rw [hl]; exact hs, fun r hr => by cases hr⟩
  · subst hr
    refine ⟨by rw [hl]; exact hs, fun r hr => ?_⟩
    rw [List.mem_singleton] at hr
    subst hr
    have h2 : (PyInside.each (PyVbemaz.bound p).1 nums && PyInside.lists (PyVbemaz.bound p).2 [(ns.drop (i + n + 1)).take m]) = true := hin
    rw [Bool.and_eq_true] at h2
    have hb : ∃ lo hi, (PyVbemaz.bound p).2 = [(lo, hi, 0, 250)] := by
      have hp := shape_rows hs
      have : p = 1 ∨ p = 11 ∨ p = 12 ∨ p = 13 := by
        have h3 := hp.2
        have : p = 0 ∨ p = 1 ∨ p = 2 ∨ p = 3 ∨ p = 4 ∨ p = 5 ∨ p = 6 ∨ p = 7 ∨ p = 8 ∨ p = 9 ∨ p = 10 ∨ p = 11 ∨ p = 12 ∨ p = 13 ∨ p = 14 ∨ p = 15 ∨ p = 16 ∨ p = 17 ∨ p = 18 ∨ p = 19 ∨ p = 20 := by omega
        rcases this with rfl | rfl | rfl | rfl | rfl | rfl | rfl | rfl | rfl | rfl | rfl | rfl | rfl | rfl | rfl | rfl | rfl | rfl | rfl | rfl | rfl <;> first | (exact .inl rfl) | (exact .inr (.inl rfl)) | (exact .inr (.inr (.inl rfl))) | (exact .inr (.inr (.inr rfl))) | (cases hs)
      rcases this with rfl | rfl | rfl | rfl <;> exact ⟨_, _, rfl⟩
    obtain ⟨lo, hi, e⟩ := hb
    rw [e] at h2
    have h4 : (decide (0 ≤ ((ns.drop (i + n + 1)).take m).length) && decide (((ns.drop (i + n + 1)).take m).length ≤ 250) && _ && _) = true := h2.2
    simp only [Bool.and_eq_true, decide_eq_true_eq] at h4
    exact h4.1.1.2
/-- four new series made in a comprehension: the turn's word -/
structure Made (C : Addr) (H0 H : Hp) (D : Addr) (i : Nat) (xs : List Addr) (Fs : List (List Addr)) : Prop where
  ex : Ex H0 H
  d0 : H0 D = none
  lst : H D = some (.lst (xs.map V.ref))
  lx : xs.length = i
  lf : Fs.length = i
  ser : ∀ (j : Nat) (x : Addr) (F : List Addr), xs[j]? = some x → Fs[j]? = some F → Ser C H x F ⟨[], []⟩
  nx : ∀ x, x ∈ xs → H0 x = none
  nf : ∀ F, F ∈ Fs → ∀ b, b ∈ F → H0 b = none ∧ b ≠ D
  nd : xs.Nodup
  dj : ∀ (j k : Nat) (F G : List Addr), j ≠ k → Fs[j]? = some F → Fs[k]? = some G → ∀ b, b ∈ F → b ∉ G
theorem Made.more {C : Addr} {H0 H H1 : Hp} {D : Addr} {i : Nat} {xs : List Addr} {Fs : List (List Addr)} {x dx : Addr} (m : Made C H0 H D i xs Fs) (hx : H x = none) (hdx : H dx = none) (hne : dx ≠ x) (c : Chg C (upd (upd H dx (.own x)) x (.ins C dx [])) H1 x [] ⟨[], []⟩) :
    H1 D = some (.lst (xs.map V.ref)) ∧ ∃ F, Made C H0 (upd H1 D (.lst (xs.map V.ref ++ [V.ref x]))) D (i + 1) (xs ++ [x]) (Fs ++ [F]) := by
  obtain ⟨F, hs, hk, hn, _⟩ := c
  have hxD : D ≠ x := ne_of_none m.lst hx
  have hdD : D ≠ dx := ne_of_none m.lst hdx
  have keep : ∀ b o, H b = some o → H1 b = some o := by
    intro b o hb
    refine hk b o ?_ (ne_of_none hb hx) (by simp)
    rw [upd_ne (ne_of_none hb hx), upd_ne (ne_of_none hb hdx)]
    exact hb
  have hD1 := keep D _ m.lst
  have fr : ∀ b, b ∈ F → H b = none ∧ b ≠ x ∧ b ≠ dx := by
    intro b hb
    rcases hn b hb with z | z
    · cases z
    · have b1 : b ≠ x := by
        intro q
        rw [q, upd_same] at z
        cases z
      have b2 : b ≠ dx := by
        intro q
        rw [upd_ne b1, q, upd_same] at z
        cases z
      rw [upd_ne b1, upd_ne b2] at z
      exact ⟨z, b1, b2⟩
  have kx : (∃ dx fs, H1 x = some (.ins C dx fs)) ∧ ∀ b, b ∈ F → ∃ l, H1 b = some (.lst l) := hs.kinds
  refine ⟨hD1, F, ?_⟩
  have exD : Ex H0 (upd H1 D (.lst (xs.map V.ref ++ [V.ref x]))) := Ex.mut (fun b o hb => keep b o (m.ex b o hb)) m.d0
  have sD : ∀ (y : Addr) (G : List Addr) (s : Vbemaz.Series), Ser C H1 y G s → (∀ b, b ∈ G → b ≠ D) → Ser C (upd H1 D (.lst (xs.map V.ref ++ [V.ref x]))) y G s := by
    intro y G s hS hG
    obtain ⟨pa, pc, ps, rfl, h⟩ := hS
    obtain ⟨dy, hin⟩ := h.ins
    obtain ⟨ts, hc, hl, ht⟩ := h.hc
    refine ⟨pa, pc, ps, rfl, ⟨dy, ?_⟩, ?_, ⟨ts, ?_, hl, fun i t f a b => ?_⟩, ?_, h.d1, h.d2, h.d3, h.good⟩
    · rw [upd_ne (ne_of hin hD1 (by intro z; cases z))]; exact hin
    · rw [upd_ne (hG pa (by simp))]; exact h.ha
    · rw [upd_ne (hG pc (by simp))]; exact hc
    · have htt := ht i t f a b
      rw [upd_ne (ne_of htt hD1 (by intro z; cases z))]; exact htt
    · rw [upd_ne (hG ps (by simp))]; exact h.hs
  have FD : ∀ b, b ∈ F → b ≠ D := fun b hb => (ne_of_none m.lst (fr b hb).1).symm
  refine ⟨exD, m.d0, by rw [upd_same, List.map_append]; rfl, by rw [List.length_append, m.lx]; rfl, by rw [List.length_append, m.lf]; rfl, ?_, ?_, ?_, ?_, ?_⟩
  · intro j y G a b
    by_cases hj : j < i
    · rw [List.getElem?_append_left (by rw [m.lx]; exact hj)] at a
      rw [List.getElem?_append_left (by rw [m.lf]; exact hj)] at b
      have hS := m.ser j y G a b
      have hS1 : Ser C H1 y G ⟨[], []⟩ := by
        exact hS.ex (fun b o hb => keep b o hb)
      exact sD y G _ hS1 (fun b' hb' => (m.nf G (List.mem_of_getElem? b) b' hb').2)
    · rw [List.getElem?_append_right (by rw [m.lx]; omega)] at a
      rw [List.getElem?_append_right (by rw [m.lf]; omega)] at b
      rw [m.lx] at a
      rw [m.lf] at b
      have hz : j - i = 0 := by
        have := (List.getElem?_eq_some_iff.mp a).1
        simp at this
        omega
      rw [hz] at a b
      obtain rfl : x = y := Option.some.inj a
      obtain rfl : F = G := Option.some.inj b
      exact sD x F _ hs FD
  · intro y hy
    rcases List.mem_append.mp hy with z | z
    · exact m.nx y z
    · rw [List.mem_singleton.mp z]
      exact fresh_back m.ex hx
  · intro G hG b hb
    rcases List.mem_append.mp hG with z | z
    · exact m.nf G z b hb
    · rw [List.mem_singleton.mp z] at hb
      exact ⟨fresh_back m.ex (fr b hb).1, FD b hb⟩
  · rw [List.nodup_append]
    refine ⟨m.nd, by simp, fun y hy z hz e => ?_⟩
    rw [List.mem_singleton] at hz
    obtain ⟨k, hk1, rfl⟩ := List.getElem_of_mem hy
    have hk2 : k < Fs.length := by rw [m.lf, ← m.lx]; exact hk1
    obtain ⟨⟨dy, gy, ky⟩, _⟩ := (m.ser k _ _ (List.getElem?_eq_getElem hk1) (List.getElem?_eq_getElem hk2)).kinds
    rw [e, hz, hx] at ky
    cases ky
  · have fresh : ∀ (k : Nat) (G : List Addr), Fs[k]? = some G → ∀ b, b ∈ F → b ∉ G := by
      intro k G hG b hb hbG
      have hk2 := (List.getElem?_eq_some_iff.mp hG).1
      have hk1 : k < xs.length := by rw [m.lx, ← m.lf]; exact hk2
      obtain ⟨l, hl⟩ := (m.ser k _ G (List.getElem?_eq_getElem hk1) hG).kinds.2 b hbG
      rw [(fr b hb).1] at hl
      cases hl
    have last : ∀ (k : Nat) (G : List Addr), (Fs ++ [F])[k]? = some G → ¬ k < i → G = F ∧ k = i := by
      intro k G hG hk
      rw [List.getElem?_append_right (by rw [m.lf]; omega), m.lf] at hG
      have hz : k - i = 0 := by
        have := (List.getElem?_eq_some_iff.mp hG).1
        simp at this
        omega
      rw [hz] at hG
      exact ⟨(Option.some.inj hG).symm, by omega⟩
    intro j k G1 G2 hjk a b
    by_cases hj : j < i
    · have a' : Fs[j]? = some G1 := by rwa [List.getElem?_append_left (by rw [m.lf]; exact hj)] at a
      by_cases hk2 : k < i
      · have b' : Fs[k]? = some G2 := by rwa [List.getElem?_append_left (by rw [m.lf]; exact hk2)] at b
        exact m.dj j k G1 G2 hjk a' b'
      · obtain ⟨rfl, _⟩ := last k G2 b hk2
        intro c hc hc2
        exact fresh j G1 a' c hc2 hc
    · obtain ⟨rfl, rfl⟩ := last j G1 a hj
      by_cases hk2 : k < j
      · have b' : Fs[k]? = some G2 := by rwa [List.getElem?_append_left (by rw [m.lf]; exact hk2)] at b
        exact fresh k G2 b'
      · obtain ⟨_, rfl⟩ := last k G2 b hk2
        exact absurd rfl hjk
theorem Made.all {C : Addr} {H0 H : Hp} {D : Addr} {xs : List Addr} {Fs : List (List Addr)} (m : Made C H0 H D 4 xs Fs) : All C H xs Fs Vbemaz.start := by
  refine ⟨m.lx, m.lf, rfl, fun i x F s a b c => ?_, m.nd, m.dj⟩
  have e : s = ⟨[], []⟩ := by
    have : s ∈ Vbemaz.start.series := List.mem_of_getElem? c
    exact List.eq_of_mem_replicate this
  subst e
  exact m.ser i x F a b
/-- the comprehension that makes them -/
theorem mk_series {K : PySem.W.Frag} {σ : L2.St} {H : Hp} {ta : TA} {j : Nat} {vs : List Nat} {E : XK} {Q : VK} (h : EvA ta σ H [.int 4]) (hw : ∀ x, wipe ((wipe σ vs).set j (some x)) vs = wipe σ vs)
    (q : ∀ D H' xs Fs, Made (cSer K) H H' D 4 xs Fs → Q (.ref D) H') : tLc (iRng1 ta) (gName j) tYes (tMake (cSer K) (spSerInit K) [] E tNil) vs σ H Q :=
  h H (Ex.refl H) _ fun H1 e1 => ⟨4, rfl, by decide, by decide, fun D hD =>
    lc_range (lo := 0) (n := 4) (fun i H' => ∃ xs Fs, Made (cSer K) H H' D i xs Fs)
      ⟨[], [], ⟨e1.trans (Ex.new hD), fresh_back e1 hD, upd_same, rfl, rfl, fun j x F a b => (by simp at a), fun x hx => (by cases hx), fun F hF => (by cases hF), List.nodup_nil, fun j k F G _ a b => (by simp at a)⟩⟩
      (fun i H' hi ⟨xs, Fs, m⟩ => ⟨hw _, fun x dx hx hdx hne => by
        refine ⟨x, dx, rfl, upd_same, fun H2 c => ⟨rfl, ?_⟩⟩
        obtain ⟨hD2, F, m2⟩ := m.more hx hdx hne c
        exact ⟨_, hD2, by rw [List.length_map, m.lx]; exact sz_lt (by omega), xs ++ [x], Fs ++ [F], m2⟩⟩)
      (fun H' ⟨xs, Fs, m⟩ => q D H' xs Fs m)⟩
theorem q_mkSeries {K : PySem.W.Frag} {σ : L2.St} {H : Hp} {ta : TA} {j k : Nat} {vs : List Nat} {E : XK} {D : Ends} {tz : TS} (h : EvA ta σ H [.int 4]) (hw : ∀ x, wipe ((wipe σ vs).set j (some x)) vs = wipe σ vs)
    (q : ∀ c H' xs Fs, Made (cSer K) H H' c 4 xs Fs → tz D (σ.set k (some (.ref c))) H') : tSeq (tAsg (tLc (iRng1 ta) (gName j) tYes (tMake (cSer K) (spSerInit K) [] E tNil) vs) (gName k)) tz D σ H := by
  show tLc _ _ _ _ _ σ H (fun x H1 => gName k x σ H1 (tz D))
  exact mk_series h hw q
end PR
set_option Elab.async false
set_option linter.all false
set_option maxRecDepth 100000
set_option maxHeartbeats 4000000
namespace PR
open PySem PySem.Spec PyProof.Rows L2 Evl
/-! ### the kinds of what is given -/
inductive Kd where
  | series | place | corr | seek | piece | blockno | byte | selfend | value | values | blockvals | bytes
def Kd.txt : Kd → Str
  | .series => "series"
  | .place => "place"
  | .corr => "correction count"
  | .seek => "seek bound"
  | .piece => "piece length"
  | .blockno => "block number"
  | .byte => "byte"
  | .selfend => "self-ending number"
  | .value => "value"
  | .values => "values"
  | .blockvals => "block values"
  | .bytes => "bytes"
def Kd.isRow : Kd → Bool
  | .values => true
  | .blockvals => true
  | .bytes => true
  | _ => false
def Kd.range : Kd → Option (Int × Int)
  | .series => some (0, 3)
  | .place => some (0, 400)
  | .corr => some (0, 100)
  | .seek => some (-2000000000, 2000000000)
  | .piece => some (1, 96)
  | .blockno => some (0, 30)
  | .byte => some (0, 255)
  | .selfend => some (1, 4294967296)
  | _ => none
def Kd.isValue : Kd → Bool
  | .value => true
  | _ => false
theorem Kd.txt_value (k : Kd) : decide (V.str k.txt = V.str "value") = k.isValue := by
  cases k <;> decide +kernel
/-- a number, or a row -/
inductive Gv where
  | num (n : Int)
  | row (l : List Int)
def Kd.fits : Kd → Gv → Bool
  | .values, .row l => decide (1 ≤ l.length ∧ l.length ≤ 64) && l.all Vbemaz.isVal
  | .blockvals, .row l => decide (1 ≤ l.length ∧ l.length ≤ 16) && l.all Vbemaz.isVal
  | .bytes, .row l => decide (l.length ≤ 200) && l.all fun c => Vbemaz.within c 0 255
  | .value, .num n => Vbemaz.isVal n
  | .series, .num n => Vbemaz.within n 0 3
  | .place, .num n => Vbemaz.within n 0 400
  | .corr, .num n => Vbemaz.within n 0 100
  | .seek, .num n => Vbemaz.within n (-2000000000) 2000000000
  | .piece, .num n => Vbemaz.within n 1 96
  | .blockno, .num n => Vbemaz.within n 0 30
  | .byte, .num n => Vbemaz.within n 0 255
  | .selfend, .num n => Vbemaz.within n 1 4294967296
  | _, _ => false
/-- a given's value in the heap -/
def GvAt (K : PySem.W.Frag) (H : Hp) : V → Gv → Prop
  | v, .num n => v = .int n
  | v, .row l => ∃ r, v = .ref r ∧ SqL K H r (l.map V.int) ∧ l.length ≤ 250
def Kd.takes (k : Kd) (g : Gv) : Prop := match g with
  | .num _ => k.isRow = false
  | .row _ => k.isRow = true
def spWithin (K : PySem.W.Frag) : Sp := fun vs H Q _ => ∃ (n lo hi : Int) (t : Addr), vs = [.int n, .ref t] ∧ SqT K H t [.int lo, .int hi] ∧ RetV (.bl (Vbemaz.within n lo hi)) H Q
def spIsReading : Sp := fun vs H Q _ => ∃ n : Int, vs = [.int n] ∧ RetV (.bl (Vbemaz.within n (-1000000000) 1000000000)) H Q
def spIsRow : Sp := fun vs H Q _ => ∃ k : Kd, vs = [.str k.txt] ∧ RetV (.bl k.isRow) H Q
def spNumFits : Sp := fun vs H Q _ => ∃ (k : Kd) (n : Int), vs = [.str k.txt, .int n] ∧ k.isRow = false ∧ RetV (.bl (k.fits (.num n))) H Q
def spRowFits (K : PySem.W.Frag) : Sp := fun vs H Q _ => ∃ (k : Kd) (r : Addr) (l : List Int), vs = [.str k.txt, .ref r] ∧ k.isRow = true ∧ SqL K H r (l.map V.int) ∧ l.length ≤ 250 ∧ RetV (.bl (k.fits (.row l))) H Q
def spFits (K : PySem.W.Frag) : Sp := fun vs H Q _ => ∃ (k : Kd) (v : V) (g : Gv), vs = [.str k.txt, v] ∧ GvAt K H v g ∧ k.takes g ∧ RetV (.bl (k.fits g)) H Q
section
variable {K : PySem.W.Frag} {H : Hp}
theorem sv_within {n lo hi : Int} {t : Addr} (h : SqT K H t [.int lo, .int hi]) : SpV (spWithin K) [.int n, .ref t] H (.bl (Vbemaz.within n lo hi)) := fun H1 e _ q _ => ⟨n, lo, hi, t, rfl, ex_t e h, q⟩
theorem sv_isReading {n : Int} : SpV spIsReading [.int n] H (.bl (Vbemaz.within n (-1000000000) 1000000000)) := fun H1 e _ q _ => ⟨n, rfl, q⟩
theorem sv_isRow {k : Kd} : SpV spIsRow [.str k.txt] H (.bl k.isRow) := fun H1 e _ q _ => ⟨k, rfl, q⟩
theorem sv_numFits {k : Kd} {n : Int} (h : k.isRow = false) : SpV spNumFits [.str k.txt, .int n] H (.bl (k.fits (.num n))) := fun H1 e _ q _ => ⟨k, n, rfl, h, q⟩
end
section
variable {P : Program} {w : World} {K : PySem.W.Frag} {mg : Str → Option Value} {base : Heap}
theorem Top.ranges (T : Top K w mg) (k : Kd) {lo hi : Int} (h : k.range = some (lo, hi)) : ∃ t, KDct K w (He.ga K "RANGES") k.txt (.ref t) ∧ ∀ H : Hp, SqT K H t [.int lo, .int hi] := by
  cases k with
  | series => cases h; exact ⟨_, T.kv_RANGES_0, T.kt_RANGES_0⟩
  | place => cases h; exact ⟨_, T.kv_RANGES_1, T.kt_RANGES_1⟩
  | corr => cases h; exact ⟨_, T.kv_RANGES_2, T.kt_RANGES_2⟩
  | seek => cases h; exact ⟨_, T.kv_RANGES_3, T.kt_RANGES_3⟩
  | piece => cases h; exact ⟨_, T.kv_RANGES_4, T.kt_RANGES_4⟩
  | blockno => cases h; exact ⟨_, T.kv_RANGES_5, T.kt_RANGES_5⟩
  | byte => cases h; exact ⟨_, T.kv_RANGES_6, T.kt_RANGES_6⟩
  | selfend => cases h; exact ⟨_, T.kv_RANGES_7, T.kt_RANGES_7⟩
  | value => cases h
  | values => cases h
  | blockvals => cases h
  | bytes => cases h
/-- what the tables tell of a kind of rows -/
theorem Top.rowKinds (T : Top K w mg) (k : Kd) (h : k.isRow = true) : ∃ (lo hi : Int) (m : Kd) (t : Addr), KDct K w (He.ga K "ROW_LENGTHS") k.txt (.ref t) ∧ (∀ H : Hp, SqT K H t [.int lo, .int hi]) ∧ KDct K w (He.ga K "ROW_MEMBERS") k.txt (.str m.txt) ∧ m.isRow = false ∧
    ∀ l : List Int, k.fits (.row l) = (Vbemaz.within (l.length : Int) lo hi && l.all fun n => m.fits (.num n)) := by
  have dec : ∀ (a b c : Bool), a = b → (a && c) = (b && c) := fun a b c e => by rw [e]
  cases k with
  | values =>
    refine ⟨1, 64, .value, _, T.kv_ROW_LENGTHS_0, T.kt_ROW_LENGTHS_0, T.kv_ROW_MEMBERS_0, rfl, fun l => dec _ _ _ ?_⟩
    unfold Vbemaz.within
    rw [← Bool.decide_and]
    exact decide_eq_decide.mpr (by omega)
  | blockvals =>
    refine ⟨1, 16, .value, _, T.kv_ROW_LENGTHS_1, T.kt_ROW_LENGTHS_1, T.kv_ROW_MEMBERS_1, rfl, fun l => dec _ _ _ ?_⟩
    unfold Vbemaz.within
    rw [← Bool.decide_and]
    exact decide_eq_decide.mpr (by omega)
  | bytes =>
    refine ⟨0, 200, .byte, _, T.kv_ROW_LENGTHS_2, T.kt_ROW_LENGTHS_2, T.kv_ROW_MEMBERS_2, rfl, fun l => dec _ _ _ ?_⟩
    unfold Vbemaz.within
    rw [← Bool.decide_and]
    exact decide_eq_decide.mpr (by omega)
  | _ => cases h
theorem ok_lies_within (T : Top K w mg) : Def P w K mg base "lies_within" 1 ["number", "bounds"] (spWithin K) := by
  obtain ⟨fd, F⟩ := T.f_lies_within
  refine ⟨fd, F.ok sc_lies_within (fun vs H Q E h => by obtain ⟨_, _, _, _, rfl, _⟩ := h; rfl) (fun cdv A outer s H vs Q E hr h => ⟨_, PSs.nox (pss_one (ps_ret (pe_and (pe_cmpR op_le (pe_ix (ix_tupK (K := K) rfl) (pv 1) pe_int (fun _ _ => rfl)) (pv 0) (nomark _)) (pe_one (pe_cmpR op_le (pv 0) (pe_ix (ix_tupK (K := K) rfl) (pv 1) pe_int (fun _ _ => rfl)) (nomark _)))))), ?_⟩), F.bindsN (fun _ _ _ _ _ _ us hl => match us, hl with | [_, _], _ => rfl), F.kp, T.g_lies_within⟩
  obtain ⟨n, lo, hi, t, rfl, ht, hQ⟩ := h
  exact s_ret (ev_andV (ev_op (ev_op (ev_var rfl) ev_c (rv_ixT ht (at_of (j := 0) rfl rfl))) (ev_var rfl) rv_I0) (fun _ => ev_op (ev_var rfl) (ev_op (ev_var rfl) ev_c (rv_ixT ht (at_of (j := 1) rfl rfl))) rv_I0)) fun H1 e1 => hQ.go e1
theorem ok_is_reading (T : Top K w mg) : Def P w K mg base "is_reading" 1 ["number"] spIsReading := by
  obtain ⟨_, c_GREATEST_READING⟩ := T.c_GREATEST_READING
  obtain ⟨_, c_LEAST_READING⟩ := T.c_LEAST_READING
  obtain ⟨fd, F⟩ := T.f_is_reading
  refine ⟨fd, F.ok sc_is_reading (fun vs H Q E h => by obtain ⟨_, rfl, _⟩ := h; rfl) (fun cdv A outer s H vs Q E hr h => ⟨_, PSs.nox (pss_one (ps_ret (pe_and (pe_cmpR op_le (pe_glob (v := .int (-1000000000)) rfl c_LEAST_READING ⟨_, rfl⟩) (pv 0) (nomark _)) (pe_one (pe_cmpR op_le (pv 0) (pe_glob (v := .int (1000000000)) rfl c_GREATEST_READING ⟨_, rfl⟩) (nomark _)))))), ?_⟩), F.bindsN (fun _ _ _ _ _ _ us hl => match us, hl with | [_], _ => rfl), F.kp, T.g_is_reading⟩
  obtain ⟨n, rfl, hQ⟩ := h
  exact s_ret (ev_andV (ev_op ev_c (ev_var rfl) rv_I0) (fun _ => ev_op (ev_var rfl) ev_c rv_I0)) fun H1 e1 => hQ.go e1
theorem ok_is_row (T : Top K w mg) : Def P w K mg base "is_row" 1 ["kind"] spIsRow := by
  obtain ⟨_, _, D_ROW_LENGTHS⟩ := T.kd_ROW_LENGTHS
  obtain ⟨fd, F⟩ := T.f_is_row
  refine ⟨fd, F.ok sc_is_row (fun vs H Q E h => by obtain ⟨_, rfl, _⟩ := h; rfl) (fun cdv A outer s H vs Q E hr h => ⟨_, PSs.nox (pss_one (ps_ret (pe_cmpR (op_in_kdK (K := K) (w := w) rfl rfl D_ROW_LENGTHS) (pv 0) (pe_glob (v := .ref (He.ga K "ROW_LENGTHS")) rfl T.g_ROW_LENGTHS rfl) (by rfl)))), ?_⟩), F.bindsN (fun _ _ _ _ _ _ us hl => match us, hl with | [_], _ => rfl), F.kp, T.g_is_row⟩
  obtain ⟨k, rfl, hQ⟩ := h
  have key : ∃ r, PySem.W.nsIn K (He.ga K "ROW_LENGTHS") k.txt = some r ∧ r.isSome = k.isRow := by
    cases k with
    | series => exact ⟨_, T.ka_ROW_LENGTHS_0, rfl⟩
    | place => exact ⟨_, T.ka_ROW_LENGTHS_1, rfl⟩
    | corr => exact ⟨_, T.ka_ROW_LENGTHS_2, rfl⟩
    | seek => exact ⟨_, T.ka_ROW_LENGTHS_3, rfl⟩
    | piece => exact ⟨_, T.ka_ROW_LENGTHS_4, rfl⟩
    | blockno => exact ⟨_, T.ka_ROW_LENGTHS_5, rfl⟩
    | byte => exact ⟨_, T.ka_ROW_LENGTHS_6, rfl⟩
    | selfend => exact ⟨_, T.ka_ROW_LENGTHS_7, rfl⟩
    | value => exact ⟨_, T.ka_ROW_LENGTHS_8, rfl⟩
    | values =>
      obtain ⟨_, _, u, _, _, e, _⟩ := T.kv_ROW_LENGTHS_0
      exact ⟨_, e, rfl⟩
    | blockvals =>
      obtain ⟨_, _, u, _, _, e, _⟩ := T.kv_ROW_LENGTHS_1
      exact ⟨_, e, rfl⟩
    | bytes =>
      obtain ⟨_, _, u, _, _, e, _⟩ := T.kv_ROW_LENGTHS_2
      exact ⟨_, e, rfl⟩
  obtain ⟨r, e, er⟩ := key
  refine s_ret (v := .bl k.isRow) (ev_op (ev_var rfl) ev_c (rv_val fun H1 _ Q q => ⟨k.txt, r, rfl, rfl, e, ?_⟩)) fun H1 e1 => hQ.go e1
  rw [er]
  exact q
theorem ok_number_fits (T : Top K w mg) : Def P w K mg base "number_fits" 2 ["kind", "number"] spNumFits := by
  obtain ⟨fd_is_reading, G_is_reading, b_is_reading, k_is_reading, g_is_reading⟩ := ok_is_reading (P := P) (w := w) (base := base) T
  obtain ⟨fd_lies_within, G_lies_within, b_lies_within, k_lies_within, g_lies_within⟩ := ok_lies_within (P := P) (w := w) (base := base) T
  obtain ⟨_, c_GAP⟩ := T.c_GAP
  obtain ⟨fd, F⟩ := T.f_number_fits
  refine ⟨fd, F.ok sc_number_fits (fun vs H Q E h => by obtain ⟨_, _, rfl, _⟩ := h; rfl) (fun cdv A outer s H vs Q E hr h => ⟨_, PSs.nox (pss_cons (ps_if (pt_cmpR op_eq (pv 0) pe_str (nomark _)) (pss_one (ps_ret (pe_or (pe_cmpR op_eq (pv 1) (pe_glob (v := .int (2000000000)) rfl c_GAP ⟨_, rfl⟩) (nomark _)) (pe_one (pe_call G_is_reading (hr.mono (by decide)) rfl g_is_reading k_is_reading b_is_reading .nil pass0 (pa_cons (pv 1) pa_nil)))))) pss_nil)
      (pss_one (ps_ret (pe_call G_lies_within (hr.mono (by decide)) rfl g_lies_within k_lies_within b_lies_within .nil pass0 (pa_cons (pv 1) (pa_cons (pe_ix (ix_kdictK (K := K) (w := w) rfl rfl) (pe_glob (v := .ref (He.ga K "RANGES")) rfl T.g_RANGES rfl) (pv 0) (fun _ _ => rfl)) pa_nil)))))), ?_⟩), F.bindsN (fun _ _ _ _ _ _ us hl => match us, hl with | [_, _], _ => rfl), F.kp, T.g_number_fits⟩
  obtain ⟨k, n, rfl, hk, hQ⟩ := h
  refine q_when (et_is (et_test (ev_op (ev_var rfl) ev_c (rv_eq rfl))) (Kd.txt_value k)) (fun hb2 H2 e2 => ?_) (fun hb2 H2 e2 => ?_)
  · cases k <;> try (cases hb2)
    refine s_ret (ev_is (w := .bl (Vbemaz.isVal n)) (ev_orV (ev_op (ev_var rfl) ev_c (rv_eq rfl)) (fun _ => ev_call (ea_cons (ev_var rfl) ea_nil) sv_isReading)) ?_) fun H3 e3 => hQ.go (e2.trans e3)
    show V.bl _ = V.bl _
    congr 1
    unfold Vbemaz.isVal
    rw [Bool.or_comm]
    congr 1
    show decide (V.int n = V.int 2000000000) = (n == 2000000000)
    rw [Bool.eq_iff_iff]
    simp
  · have hrg : ∃ lo hi, k.range = some (lo, hi) ∧ k.fits (.num n) = Vbemaz.within n lo hi := by
      cases k with
      | value => cases hb2
      | values => cases hk
      | blockvals => cases hk
      | bytes => cases hk
      | _ => exact ⟨_, _, rfl, rfl⟩
    obtain ⟨lo, hi, hrg, hf⟩ := hrg
    obtain ⟨t, ht1, ht2⟩ := T.ranges k hrg
    rw [hf] at hQ
    exact s_ret (ev_call (ea_cons (ev_var rfl) (ea_cons (ev_kdict ev_c (ev_var rfl) ht1) ea_nil)) (sv_within (ht2 _))) fun H3 e3 => hQ.go (e2.trans e3)
theorem ok_row_fits (T : Top K w mg) : Def P w K mg base "row_fits" 3 ["kind", "row"] (spRowFits K) := by
  obtain ⟨fd_lies_within, G_lies_within, b_lies_within, k_lies_within, g_lies_within⟩ := ok_lies_within (P := P) (w := w) (base := base) T
  obtain ⟨fd_number_fits, G_number_fits, b_number_fits, k_number_fits, g_number_fits⟩ := ok_number_fits (P := P) (w := w) (base := base) T
  obtain ⟨fd, F⟩ := T.f_row_fits
  refine ⟨fd, F.ok sc_row_fits (fun vs H Q E h => by obtain ⟨_, _, _, rfl, _⟩ := h; rfl) (fun cdv A outer s H vs Q E hr h => ⟨_, PSs.nox (pss_cons (ps_if (pt_not (pt_val (pe_call G_lies_within (hr.mono (by decide)) rfl g_lies_within k_lies_within b_lies_within .nil pass0 (pa_cons (pe_callB (call_lenK (K := K) rfl) (by rfl) T.b_len PySem.boot_len (pa_cons (pv 1) pa_nil)) (pa_cons (pe_ix (ix_kdictK (K := K) (w := w) rfl rfl) (pe_glob (v := .ref (He.ga K "ROW_LENGTHS")) rfl T.g_ROW_LENGTHS rfl) (pv 0) (fun _ _ => rfl)) pa_nil))))) (pss_one (ps_ret pe_bl)) pss_nil)
      (pss_one (ps_ret (pe_callB (cr_allK (K := K) rfl rfl) (by rfl) T.b_all (by decide +kernel) (pa_cons (pe_lc (own := [("number", 2)]) (g := gName 2) rfl sc_row_fits.nd (pi_list (pv 1)) (blkOk_by (own := [("number", 2)]) (N := N_row_fits) (sc := defScope st_row_fits) (by decide +kernel)) (fun _ _ _ _ _ => pg_name (i := 2) sc_row_fits.nd rfl (Or.inl rfl)) (fun _ _ _ _ _ => pts_nil) (fun _ _ _ _ _ => (pe_call G_number_fits (hr.mono (by decide)) rfl g_number_fits k_number_fits b_number_fits .nil pass0 (pa_cons (pe_ix (ix_kdictK (K := K) (w := w) rfl rfl) (pe_glob (v := .ref (He.ga K "ROW_MEMBERS")) rfl T.g_ROW_MEMBERS rfl) (pv 0) (fun _ _ => rfl)) (pa_cons (pv 2) pa_nil))))) pa_nil))))), ?_⟩), F.bindsN (fun _ _ _ _ _ _ us hl => match us, hl with | [_, _], _ => rfl), F.kp, T.g_row_fits⟩
  obtain ⟨k, r, l, rfl, hk, hr0, hl, hQ⟩ := h
  obtain ⟨lo, hi, m, t, t1, t2, t3, hm, hf⟩ := T.rowKinds k hk
  have hl1 : ((l.map V.int).length : Int) = (l.length : Int) := by rw [List.length_map]
  rw [hf l] at hQ
  refine q_when (et_not (et_B (ev_call (ea_cons (ev_is (ev_lenS (ea_cons (ev_var rfl) ea_nil) hr0) (show V.int _ = V.int (l.length : Int) by rw [hl1])) (ea_cons (ev_kdict ev_c (ev_var rfl) t1) ea_nil)) (sv_within (t2 _))))) (fun hb H1 e1 => ?_) (fun hb H1 e1 => ?_)
  · have hb : Vbemaz.within (l.length : Int) lo hi = false := by simpa using hb
    rw [hb, Bool.false_and] at hQ
    exact s_ret ev_c fun H2 e2 => hQ.go (e1.trans e2)
  · have hb : Vbemaz.within (l.length : Int) lo hi = true := by simpa using hb
    rw [hb, Bool.true_and] at hQ
    refine s_ret (ev_is (ev_cbN (el_is (el_lcA V.int (fun n => .bl (m.fits (.num n))) l (ev_var rfl) (ex_l e1 hr0) (by omega) (fun _ => rfl) (fun x hx H2 e2 => ev_call (ea_cons (ev_kdict ev_c (ev_var rfl) t3) (ea_cons (ev_var rfl) ea_nil)) (sv_numFits hm))) (show _ = (l.map fun n => m.fits (.num n)).map V.bl by rw [List.map_map]; rfl)) (fun p H2 hp e2 => rc_all (sq_of hp))) (show V.bl _ = V.bl (l.all fun n => m.fits (.num n)) by rw [List.all_map]; rfl)) fun H2 e2 => hQ.go (e1.trans e2)
theorem ok_fits (T : Top K w mg) : Def P w K mg base "fits" 4 ["kind", "given"] (spFits K) := by
  obtain ⟨fd_is_row, G_is_row, b_is_row, k_is_row, g_is_row⟩ := ok_is_row (P := P) (w := w) (base := base) T
  obtain ⟨fd_row_fits, G_row_fits, b_row_fits, k_row_fits, g_row_fits⟩ := ok_row_fits (P := P) (w := w) (base := base) T
  obtain ⟨fd_number_fits, G_number_fits, b_number_fits, k_number_fits, g_number_fits⟩ := ok_number_fits (P := P) (w := w) (base := base) T
  obtain ⟨fd, F⟩ := T.f_fits
  refine ⟨fd, F.ok sc_fits (fun vs H Q E h => by obtain ⟨_, _, _, rfl, _⟩ := h; rfl) (fun cdv A outer s H vs Q E hr h => ⟨_, PSs.nox (pss_cons (ps_if (pt_val (pe_call G_is_row (hr.mono (by decide)) rfl g_is_row k_is_row b_is_row .nil pass0 (pa_cons (pv 0) pa_nil))) (pss_one (ps_ret (pe_call G_row_fits (hr.mono (by decide)) rfl g_row_fits k_row_fits b_row_fits .nil pass0 (pa_cons (pv 0) (pa_cons (pv 1) pa_nil))))) pss_nil)
      (pss_one (ps_ret (pe_call G_number_fits (hr.mono (by decide)) rfl g_number_fits k_number_fits b_number_fits .nil pass0 (pa_cons (pv 0) (pa_cons (pv 1) pa_nil)))))), ?_⟩), F.bindsN (fun _ _ _ _ _ _ us hl => match us, hl with | [_, _], _ => rfl), F.kp, T.g_fits⟩
  obtain ⟨k, v, g, rfl, hg, hk, hQ⟩ := h
  refine q_when (et_B (ev_call (ea_cons (ev_var rfl) ea_nil) sv_isRow)) (fun hb H1 e1 => ?_) (fun hb H1 e1 => ?_)
  · cases g with
    | num n => rw [show k.isRow = false from hk] at hb; cases hb
    | row l =>
      obtain ⟨r, rfl, hr0, hl⟩ := hg
      exact s_ret (ev_call (ea_cons (ev_var rfl) (ea_cons (ev_var rfl) ea_nil)) (fun H2 e2 _ q _ => ⟨k, r, l, rfl, hb, ex_l (e1.trans e2) hr0, hl, q⟩)) fun H2 e2 => hQ.go (e1.trans e2)
  · cases g with
    | row l => rw [show k.isRow = true from hk] at hb; cases hb
    | num n =>
      have hg : v = .int n := hg
      subst hg
      exact s_ret (ev_call (ea_cons (ev_var rfl) (ea_cons (ev_var rfl) ea_nil)) (sv_numFits hb)) fun H3 e3 => hQ.go (e1.trans e3)
end
end PR
set_option Elab.async false
set_option linter.all false
set_option maxRecDepth 100000
set_option maxHeartbeats 4000000
namespace PR
open PySem PySem.Spec PyProof.Rows L2 Evl
/-! ### the shapes of the calls -/
def shapeK (p : Int) : List Kd := if p = 0 then [.series] else if p = 1 then [.series, .values] else if p = 2 then [.series, .place, .value] else if p = 3 then [.series, .place] else if p = 4 then [.series, .place, .corr] else if p = 5 then [.series, .place, .place] else if p = 6 then [.series, .place, .place]
  else if p = 7 then [.series, .place, .seek] else if p = 8 then [.series, .piece] else if p = 9 then [.series] else if p = 10 then [.series, .blockno] else if p = 11 then [.bytes] else if p = 12 then [.series, .bytes] else if p = 13 then [.blockvals] else if p = 14 then [.selfend] else if p = 15 then [.series, .series] else if p = 16 then [.series, .series, .place]
  else if p = 17 then [.series, .series] else if p = 18 then [.series, .place] else if p = 19 then [.series, .place] else []
/-- the calls that the program knows -/
abbrev Known (p : Int) : Prop := 0 ≤ p ∧ p ≤ 20
theorem known_cases {p : Int} (h : Known p) : p = 0 ∨ p = 1 ∨ p = 2 ∨ p = 3 ∨ p = 4 ∨ p = 5 ∨ p = 6 ∨ p = 7 ∨ p = 8 ∨ p = 9 ∨ p = 10 ∨ p = 11 ∨ p = 12 ∨ p = 13 ∨ p = 14 ∨ p = 15 ∨ p = 16 ∨ p = 17 ∨ p = 18 ∨ p = 19 ∨ p = 20 := by
  have h1 := h.1
  have h2 := h.2
  omega
/-- the numbers come first, then the rows -/
def rowsLast (n : Nat) : Nat → List Kd → Bool
  | _, [] => true
  | j, k :: l => (k.isRow == decide (n ≤ j)) && rowsLast n (j + 1) l
theorem rowsLast_at : ∀ {n j : Nat} {l : List Kd}, rowsLast n j l = true → ∀ (i : Nat) (k : Kd), l[i]? = some k → k.isRow = decide (n ≤ j + i)
  | n, j, [], _, i, k, e => by simp at e
  | n, j, k0 :: l, h, i, k, e => by
    have h : ((k0.isRow == decide (n ≤ j)) && rowsLast n (j + 1) l) = true := h
    rw [Bool.and_eq_true] at h
    cases i with
    | zero =>
      obtain rfl : k0 = k := Option.some.inj e
      exact eq_of_beq h.1
    | succ i =>
      have := rowsLast_at h.2 i k e
      rw [this]
      congr 2
      omega
theorem shapeK_shape {p : Int} (h : Known p) {n m : Nat} (hs : PyVbemaz.shape p = some (n, m)) : (shapeK p).length = n + m ∧ rowsLast n 0 (shapeK p) = true := by
  rcases known_cases h with rfl | rfl | rfl | rfl | rfl | rfl | rfl | rfl | rfl | rfl | rfl | rfl | rfl | rfl | rfl | rfl | rfl | rfl | rfl | rfl | rfl <;> (obtain ⟨rfl, rfl⟩ := Prod.mk.inj (Option.some.inj hs); exact ⟨rfl, rfl⟩)
def allFit (ks : List Kd) (gs : List Gv) : Bool := ((List.range ks.length).map fun i => (ks.getD i .series).fits (gs.getD i (.num 0))).all id
def spShapeOf (K : PySem.W.Frag) : Sp := fun vs H Q _ => ∃ p : Int, vs = [.int p] ∧ Known p ∧ RetV (.ref (tI K (He.ga K "SHAPES") p)) H Q
/-- the givens of a call as they stand in a list -/
def GvsAt (K : PySem.W.Frag) (H : Hp) (vs : List V) (gs : List Gv) : Prop := vs.length = gs.length ∧ ∀ (i : Nat) (v : V) (g : Gv), vs[i]? = some v → gs[i]? = some g → GvAt K H v g
def spAllFit (K : PySem.W.Frag) : Sp := fun vs H Q _ => ∃ (p : Int) (a : Addr) (ws : List V) (gs : List Gv), vs = [.int p, .ref a] ∧ Known p ∧ SqL K H a ws ∧ GvsAt K H ws gs ∧ gs.length = (shapeK p).length ∧ (∀ (i : Nat) (k : Kd) (g : Gv), (shapeK p)[i]? = some k → gs[i]? = some g → k.takes g) ∧ RetV (.bl (allFit (shapeK p) gs)) H Q
theorem GvAt.ex {K : PySem.W.Frag} {H H' : Hp} {v : V} {g : Gv} (h : GvAt K H v g) (e : Ex H H') : GvAt K H' v g := by
  cases g with
  | num n => exact h
  | row l =>
    obtain ⟨r, h1, h2, h3⟩ := h
    exact ⟨r, h1, ex_l e h2, h3⟩
section
variable {P : Program} {w : World} {K : PySem.W.Frag} {mg : Str → Option Value} {base : Heap}
theorem Top.shapes (T : Top K w mg) {p : Int} (h : Known p) : KIDct K (He.ga K "SHAPES") p (.ref (tI K (He.ga K "SHAPES") p)) ∧ ∀ H : Hp, SqT K H (tI K (He.ga K "SHAPES") p) ((shapeK p).map fun k => V.str k.txt) := by
  rcases known_cases h with rfl | rfl | rfl | rfl | rfl | rfl | rfl | rfl | rfl | rfl | rfl | rfl | rfl | rfl | rfl | rfl | rfl | rfl | rfl | rfl | rfl
  · exact ⟨T.kv_SHAPES_0, T.kt_SHAPES_0⟩
  · exact ⟨T.kv_SHAPES_1, T.kt_SHAPES_1⟩
  · exact ⟨T.kv_SHAPES_2, T.kt_SHAPES_2⟩
  · exact ⟨T.kv_SHAPES_3, T.kt_SHAPES_3⟩
  · exact ⟨T.kv_SHAPES_4, T.kt_SHAPES_4⟩
  · exact ⟨T.kv_SHAPES_5, T.kt_SHAPES_5⟩
  · exact ⟨T.kv_SHAPES_6, T.kt_SHAPES_6⟩
  · exact ⟨T.kv_SHAPES_7, T.kt_SHAPES_7⟩
  · exact ⟨T.kv_SHAPES_8, T.kt_SHAPES_8⟩
  · exact ⟨T.kv_SHAPES_9, T.kt_SHAPES_9⟩
  · exact ⟨T.kv_SHAPES_10, T.kt_SHAPES_10⟩
  · exact ⟨T.kv_SHAPES_11, T.kt_SHAPES_11⟩
  · exact ⟨T.kv_SHAPES_12, T.kt_SHAPES_12⟩
  · exact ⟨T.kv_SHAPES_13, T.kt_SHAPES_13⟩
  · exact ⟨T.kv_SHAPES_14, T.kt_SHAPES_14⟩
  · exact ⟨T.kv_SHAPES_15, T.kt_SHAPES_15⟩
  · exact ⟨T.kv_SHAPES_16, T.kt_SHAPES_16⟩
  · exact ⟨T.kv_SHAPES_17, T.kt_SHAPES_17⟩
  · exact ⟨T.kv_SHAPES_18, T.kt_SHAPES_18⟩
  · exact ⟨T.kv_SHAPES_19, T.kt_SHAPES_19⟩
  · exact ⟨T.kv_SHAPES_20, T.kt_SHAPES_20⟩
theorem ok_shape_of (T : Top K w mg) : Def P w K mg base "shape_of" 1 ["call_number"] (spShapeOf K) := by
  obtain ⟨fd, F⟩ := T.f_shape_of
  refine ⟨fd, F.ok sc_shape_of (fun vs H Q E h => by obtain ⟨_, rfl, _⟩ := h; rfl) (fun cdv A outer s H vs Q E hr h => ⟨_, PSs.nox (pss_one (ps_ret (pe_ix (ix_kidictK (K := K) rfl) (pe_glob (v := .ref (He.ga K "SHAPES")) rfl T.g_SHAPES rfl) (pv 0) (fun _ _ => rfl)))), ?_⟩), F.bindsN (fun _ _ _ _ _ _ us hl => match us, hl with | [_], _ => rfl), F.kp, T.g_shape_of⟩
  obtain ⟨p, rfl, hp, hQ⟩ := h
  exact s_ret (ev_kidict ev_c (ev_var rfl) (T.shapes hp).1) fun H1 e1 => hQ.go e1
theorem ok_all_fit (T : Top K w mg) : Def P w K mg base "all_fit" 5 ["call_number", "givens"] (spAllFit K) := by
  obtain ⟨fd_shape_of, G_shape_of, b_shape_of, k_shape_of, g_shape_of⟩ := ok_shape_of (P := P) (w := w) (base := base) T
  obtain ⟨fd_fits, G_fits, b_fits, k_fits, g_fits⟩ := ok_fits (P := P) (w := w) (base := base) T
  obtain ⟨fd, F⟩ := T.f_all_fit
  refine ⟨fd, F.ok sc_all_fit (fun vs H Q E h => by obtain ⟨_, _, _, _, rfl, _⟩ := h; rfl) (fun cdv A outer s H vs Q E hr h => ⟨_, PSs.nox (pss_cons (ps_set (i := 2) sc_all_fit.nd rfl (Or.inr rfl) (pe_call G_shape_of (hr.mono (by decide)) rfl g_shape_of k_shape_of b_shape_of .nil pass0 (pa_cons (pv 0) pa_nil)))
      (pss_one (ps_ret (pe_callB (cr_allK (K := K) rfl rfl) (by rfl) T.b_all (by decide +kernel) (pa_cons (pe_lc (own := [("k", 3)]) (g := gName 3) rfl sc_all_fit.nd (pi_range1 rfl T.b_range (pa_cons (pe_callB (call_lenK (K := K) rfl) (by rfl) T.b_len PySem.boot_len (pa_cons (pv 2) pa_nil)) pa_nil)) (blkOk_by (own := [("k", 3)]) (N := N_all_fit) (sc := defScope st_all_fit) (by decide +kernel)) (fun _ _ _ _ _ => pg_name (i := 3) sc_all_fit.nd rfl (Or.inl rfl)) (fun _ _ _ _ _ => pts_nil) (fun _ _ _ _ _ => (pe_call G_fits (hr.mono (by decide)) rfl g_fits k_fits b_fits .nil pass0 (pa_cons (pe_ix (ix_tupK (K := K) rfl) (pv 2) (pv 3) (fun _ _ => rfl)) (pa_cons (pe_ix (ix_listK (K := K) rfl) (pv 1) (pv 3) (fun _ _ => rfl)) pa_nil))))) pa_nil))))), ?_⟩), F.bindsN (fun _ _ _ _ _ _ us hl => match us, hl with | [_, _], _ => rfl), F.kp, T.g_all_fit⟩
  obtain ⟨p, a, ws, gs, rfl, hp, ha, hg, hl, htk, hQ⟩ := h
  have hT := (T.shapes hp).2
  refine q_asg (ev_call (ea_cons (ev_var rfl) ea_nil) (fun H1 e1 _ q _ => ⟨p, rfl, hp, q⟩)) fun H1 e1 => ?_
  have hlen : ((shapeK p).map fun k => V.str k.txt).length = (shapeK p).length := List.length_map _
  have hle : (shapeK p).length ≤ 3 := by
    rcases known_cases hp with rfl | rfl | rfl | rfl | rfl | rfl | rfl | rfl | rfl | rfl | rfl | rfl | rfl | rfl | rfl | rfl | rfl | rfl | rfl | rfl | rfl <;> decide
  refine s_ret (ev_is (ev_cbN (el_is (el_lcR1 (n := ((shapeK p).length : Int)) (fun _ => true) (fun i => V.bl ((((shapeK p).getD i .series)).fits (gs.getD i (.num 0)))) (ea_cons (ev_is (ev_lenT (ea_cons (ev_var rfl) ea_nil) (hT H1)) (by rw [hlen])) ea_nil) (by omega) (fun _ => rfl) (fun i H2 e2 hi => et_yes) (fun i H2 e2 hi _ => ?_)) (ys := ((List.range (shapeK p).length).map fun i => (((shapeK p).getD i .series)).fits (gs.getD i (.num 0))).map V.bl) ?_) (fun q H2 hq e2 => rc_all (sq_of hq))) (show _ = V.bl (allFit (shapeK p) gs) from rfl)) fun H2 e2 => hQ.go (e1.trans e2)
  · have hi : i < (shapeK p).length := by omega
    have gk : (shapeK p)[i]? = some ((shapeK p).getD i .series) := by rw [List.getD_eq_getElem?_getD, List.getElem?_eq_getElem hi]; rfl
    have gg : gs[i]? = some (gs.getD i (.num 0)) := by
      have : i < gs.length := by rw [hl]; exact hi
      rw [List.getD_eq_getElem?_getD, List.getElem?_eq_getElem this]; rfl
    have hwl : i < ws.length := by rw [hg.1, hl]; exact hi
    have gw : ws[i]? = some ws[i] := List.getElem?_eq_getElem hwl
    have hga := (hg.2 i _ _ gw gg).ex (e1.trans e2)
    exact ev_call (ea_cons (ev_op (ev_var rfl) (ev_var rfl) (rv_ixT (hT H2) (atI_nat (by rw [List.getElem?_map, gk]; rfl)))) (ea_cons (ev_op (ev_var rfl) (ev_var rfl) (rv_ixL (ex_l (e1.trans e2) ha) (atI_nat gw))) ea_nil)) (fun H3 e3 _ q _ => ⟨_, _, _, rfl, hga.ex e3, htk i _ _ gk gg, q⟩)
  · rw [given_all, Int.toNat_natCast, List.map_map]
    rfl
end
end PR
set_option Elab.async false
set_option linter.all false
set_option maxRecDepth 100000
set_option maxHeartbeats 4000000
namespace PR
open PySem PySem.Spec PyProof.Rows L2 Evl
def spTakeKind (K : PySem.W.Frag) : Sp := fun vs H Q _ => ∃ (x a : Addr) (ns : List Int) (i : Nat) (k : Kd), vs = [.ref x, .str k.txt] ∧ RdAt K H x a ns i ∧
  ((k.isRow = false ∧ ∃ n : Int, ns[i]? = some n ∧ ∀ H', But H H' x → RdAt K H' x a ns (i + 1) → Q (.int n) H') ∨
   (k.isRow = true ∧ ∃ m : Nat, ns[i]? = some (m : Int) ∧ i + 1 + m ≤ ns.length ∧ ∀ H' p, H p = none → But H H' x → RdAt K H' x a ns (i + 1 + m) → H' p = some (.lst (((ns.drop (i + 1)).take m).map V.int)) → Q (.ref p) H'))
section
variable {P : Program} {w : World} {K : PySem.W.Frag} {mg : Str → Option Value} {base : Heap}
theorem ok_Reader_take_kind (T : Top K w mg) : DefM P w K mg base "Reader" "take_kind" 3 ["self", "kind"] (spTakeKind K) := by
  obtain ⟨fd_is_row, G_is_row, b_is_row, k_is_row, g_is_row⟩ := ok_is_row (P := P) (w := w) (base := base) T
  obtain ⟨fd_Reader_take_row, G_Reader_take_row, b_Reader_take_row⟩ := ok_Reader_take_row (P := P) (w := w) (base := base) T
  obtain ⟨fd_Reader_take_number, G_Reader_take_number, b_Reader_take_number⟩ := ok_Reader_take_number (P := P) (w := w) (base := base) T
  obtain ⟨fd, F⟩ := T.f_Reader_take_kind
  refine ⟨fd, F.ok sc_Reader_take_kind (fun vs H Q E h => by obtain ⟨_, _, _, _, _, rfl, _⟩ := h; rfl) (fun cdv A outer s H vs Q E hr h => ⟨_, PSs.nox (pss_cons (ps_if (pt_val (pe_call G_is_row (hr.mono (by decide)) rfl g_is_row k_is_row b_is_row .nil pass0 (pa_cons (pv 1) pa_nil))) (pss_one (ps_ret (pe_meth0 (pv 0) T.cl_Reader T.m_Reader_take_row G_Reader_take_row (hr.mono (by decide)) b_Reader_take_row .nil pass0))) pss_nil)
      (pss_one (ps_ret (pe_meth0 (pv 0) T.cl_Reader T.m_Reader_take_number G_Reader_take_number (hr.mono (by decide)) b_Reader_take_number .nil pass0)))), ?_⟩), F.bindsN (fun _ _ _ _ _ _ us hl => match us, hl with | [_, _], _ => rfl)⟩
  obtain ⟨x, a, ns, i, k, rfl, hr0, hk⟩ := h
  refine q_when (et_B (ev_call (ea_cons (ev_var rfl) ea_nil) sv_isRow)) (fun hb H1 e1 => ?_) (fun hb H1 e1 => ?_)
  · rcases hk with ⟨z, _⟩ | ⟨_, m, hm, hle, hQ⟩
    · rw [z] at hb; cases hb
    · obtain ⟨dx, hx⟩ := (hr0.ex e1).ins
      exact ⟨_, rfl, x, dx, _, rfl, hx, rdF_none (by decide +kernel) (by decide +kernel), x, a, ns, i, m, rfl, hr0.ex e1, hm, hle, fun H2 p hp k2 r2 h2 => hQ H2 p (fresh_back e1 hp) ((But.of e1).trans k2) r2 h2⟩
  · rcases hk with ⟨_, n, hn, hQ⟩ | ⟨z, _⟩
    · obtain ⟨dx, hx⟩ := (hr0.ex e1).ins
      exact ⟨_, rfl, x, dx, _, rfl, hx, rdF_none (by decide +kernel) (by decide +kernel), x, a, ns, i, n, rfl, hr0.ex e1, hn, fun H2 k2 r2 => hQ H2 ((But.of e1).trans k2) r2⟩
    · rw [z] at hb; cases hb
theorem ok_take_givens (T : Top K w mg) : Def P w K mg base "take_givens" 4 ["reader", "call_number"] (spTakeGivens K) := by
  obtain ⟨fd_shape_of, G_shape_of, b_shape_of, k_shape_of, g_shape_of⟩ := ok_shape_of (P := P) (w := w) (base := base) T
  obtain ⟨fd_Reader_take_kind, G_Reader_take_kind, b_Reader_take_kind⟩ := ok_Reader_take_kind (P := P) (w := w) (base := base) T
  obtain ⟨fd, F⟩ := T.f_take_givens
  refine ⟨fd, F.ok sc_take_givens (fun vs H Q E h => by obtain ⟨_, _, _, _, _, _, _, _, rfl, _⟩ := h; rfl) (fun cdv A outer s H vs Q E hr h => ⟨_, PSs.nox (pss_cons (ps_set (i := 2) sc_take_givens.nd rfl (Or.inl rfl) (pe_lst pa_nil))
      (pss_cons (ps_for PassesOwn.never rfl (pi_tup (pe_call G_shape_of (hr.mono (by decide)) rfl g_shape_of k_shape_of b_shape_of .nil pass0 (pa_cons (pv 1) pa_nil))) (pg_name (i := 3) sc_take_givens.nd rfl (Or.inl rfl)) (pss_one (ps_expr (pe_bm PySem.F.plainAttrs_list PySem.F.slot_list_append PySem.F.type_list_append mt_append (pv 2) (pa_cons (pe_meth (pv 0) T.cl_Reader T.m_Reader_take_kind G_Reader_take_kind (hr.mono (by decide)) b_Reader_take_kind .nil pass0 (pa_cons (pv 3) pa_nil)) pa_nil)))))
      (pss_one (ps_ret (pv 2))))), ?_⟩), F.bindsN (fun _ _ _ _ _ _ us hl => match us, hl with | [_, _], _ => rfl), F.kp, T.g_take_givens⟩
  obtain ⟨x, a, ns, i, i', p, nums, rows, rfl, hr0, htk, hQ⟩ := h
  have hp : Known p := by
    obtain ⟨_, _, _, z⟩ := htk
    rcases z with ⟨hs, _⟩ | ⟨hs, _⟩ <;> exact (shape_rows hs).2
  obtain ⟨n, hnum, hnl, htk⟩ := htk
  obtain ⟨dx0, hx0⟩ := hr0.ins
  have hsh : ∃ m, PyVbemaz.shape p = some (n, m) ∧ (m = 0 ∨ m = 1) := by
    rcases htk with ⟨hs, _⟩ | ⟨hs, _⟩
    · exact ⟨0, hs, .inl rfl⟩
    · exact ⟨1, hs, .inr rfl⟩
  obtain ⟨m, hsh, hm01⟩ := hsh
  obtain ⟨hkl, hkr⟩ := shapeK_shape hp hsh
  have hnle : i + n ≤ ns.length := by
    rcases htk with ⟨_, h1, _⟩ | ⟨_, _, _, h1, _⟩ <;> omega
  have numAt : ∀ j, j < n → ns[i + j]? = some (nums.getD j 0) := by
    intro j hj
    have : nums[j]? = ns[i + j]? := by rw [hnum, List.getElem?_take, if_pos hj, List.getElem?_drop]
    rw [← this, List.getD_eq_getElem?_getD, List.getElem?_eq_getElem (by omega)]
    rfl
  refine q_asgL (el_lst ea_nil (by decide)) fun g H1 hg0 e1 h1 => ?_
  have hle3 : (shapeK p).length ≤ 3 := by
    rcases known_cases hp with rfl | rfl | rfl | rfl | rfl | rfl | rfl | rfl | rfl | rfl | rfl | rfl | rfl | rfl | rfl | rfl | rfl | rfl | rfl | rfl | rfl <;> decide
  refine q_forT (ev_call (ea_cons (ev_var rfl) ea_nil) (fun H2 e2 _ q _ => ⟨p, rfl, hp, q⟩)) ((T.shapes hp).2 H1)
    (fun j σ' H' => ∃ u, σ' = [some (.ref x), some (.int p), some (.ref g), u] ∧ But H H' x ∧ ((j ≤ n ∧ RdAt K H' x a ns (i + j) ∧ H' g = some (.lst ((nums.take j).map V.int))) ∨ (j = n + 1 ∧ RdAt K H' x a ns i' ∧ ∃ rs, Giv H' g rs nums rows ∧ ∀ r, r ∈ rs → H r = none)))
    (fun H2 e2 => ⟨none, rfl, But.of (e1.trans e2), .inl ⟨Nat.zero_le _, hr0.ex (e1.trans e2), by rw [e2 _ _ h1]; rfl⟩⟩) (fun j σ' H' _ _ => (T.shapes hp).2 H') ?_ ?_
  · rintro j v σ' H' hv ⟨u, rfl, kb, hst⟩
    rw [List.getElem?_map] at hv
    obtain ⟨kd, hkd, rfl⟩ := Option.map_eq_some_iff.mp hv
    have hrow := rowsLast_at hkr j kd hkd
    rw [Nat.zero_add] at hrow
    have hjl := (List.getElem?_eq_some_iff.mp hkd).1
    have hjm : j < n + m := by rw [← hkl]; exact hjl
    rcases hst with ⟨hjn, hrd, hgl⟩ | ⟨rfl, _⟩
    · obtain ⟨dx, hx⟩ := hrd.ins
      refine ⟨_, rfl, .inl ⟨rfl, _, sq_of hgl⟩, _, rfl, x, dx, _, rfl, hx, rdF_none (by decide +kernel) (by decide +kernel), _, rfl, x, a, ns, i + j, kd, rfl, hrd, ?_⟩
      have ngx : g ≠ x := ne_of hgl hx (by intro z; cases z)
      by_cases hlt : j < n
      · refine .inl ⟨by rw [hrow]; exact decide_eq_false (by omega), _, numAt j hlt, fun H2 k2 r2 => ?_⟩
        have hg2 := k2 g _ hgl ngx
        obtain ⟨dx2, hx2⟩ := r2.ins
        have kb3 : ∀ o', But H (upd H2 g o') x := fun o' b o hb hbx => by
          rw [upd_ne (ne_of_none hb hg0)]
          exact kb.trans k2 b o hb hbx
        refine ⟨g, _, _, rfl, rfl, hg2, by rw [List.length_map, List.length_take]; exact sz_lt (by omega), some (.str kd.txt), rfl, kb3 _, .inl ⟨hlt, ⟨⟨dx2, ?_⟩, (kb3 _).list ⟨_, _, _, hx0⟩ hr0.num⟩, ?_⟩⟩
        · rw [upd_ne ngx.symm]
          exact hx2
        · have hnj : nums[j]? = some (nums.getD j 0) := by rw [List.getD_eq_getElem?_getD, List.getElem?_eq_getElem (by omega)]; rfl
          rw [upd_same, List.take_succ, hnj, Option.toList_some, List.map_append]
          rfl
      · have hjn2 : j = n := by omega
        subst hjn2
        rcases htk with ⟨hs, _⟩ | ⟨hs, mm, hmm, hmle, hrows, hi'⟩
        · rw [hsh] at hs
          have := (Prod.mk.inj (Option.some.inj hs)).2
          omega
        · subst hrows hi'
          refine .inr ⟨by rw [hrow]; exact decide_eq_true (Nat.le_refl _), mm, hmm, hmle, fun H2 r hr k2 r2 h2 => ?_⟩
          have hg2 := k2 g _ hgl ngx
          obtain ⟨dx2, hx2⟩ := r2.ins
          have hrg : r ≠ g := (ne_of_none hgl hr).symm
          have hrH : H r = none := by
            cases q : H r with
            | none => rfl
            | some o =>
              by_cases z : r = x
              · rw [z, hx] at hr
                cases hr
              · rw [kb r o q z] at hr
                cases hr
          have kb3 : ∀ o', But H (upd H2 g o') x := fun o' b o hb hbx => by
            rw [upd_ne (ne_of_none hb hg0)]
            exact kb.trans k2 b o hb hbx
          have htake : nums.take j = nums := List.take_of_length_le (by omega)
          refine ⟨g, _, _, rfl, rfl, hg2, by rw [List.length_map, List.length_take]; exact sz_lt (by omega), some (.str kd.txt), rfl, kb3 _, .inr ⟨rfl, ⟨⟨dx2, ?_⟩, (kb3 _).list ⟨_, _, _, hx0⟩ hr0.num⟩, [r], ⟨?_, rfl, fun k r' l hr' hl' => ?_⟩, fun r' hr' => ?_⟩⟩
          · rw [upd_ne ngx.symm]
            exact hx2
          · rw [upd_same, htake]
            rfl
          · cases k with
            | zero =>
              obtain rfl : r = r' := Option.some.inj hr'
              obtain rfl : _ = l := Option.some.inj hl'
              rw [upd_ne hrg]
              exact h2
            | succ k => simp at hr'
          · rw [List.mem_singleton.mp hr']
            exact hrH
    · exfalso
      omega
  · rintro σ' H' ⟨u, rfl, kb, hst⟩
    rw [List.length_map, hkl] at hst
    rcases htk with ⟨hs, hle, hrows, hi'⟩ | ⟨hs, mm, hmm, hmle, hrows, hi'⟩
    · have hm0 : m = 0 := by
        rw [hsh] at hs
        exact (Prod.mk.inj (Option.some.inj hs)).2
      subst hm0 hrows hi'
      rcases hst with ⟨_, hrd, hgl⟩ | ⟨z, _⟩
      · rw [Nat.add_zero] at hrd hgl
        rw [List.take_of_length_le (by omega)] at hgl
        exact s_ret (σ := [some (.ref x), some (.int p), some (.ref g), u]) (ev_var rfl) fun H3 e3 => hQ H3 g [] (kb.trans (But.of e3)) (hrd.ex e3) ⟨by rw [e3 _ _ hgl]; simp, rfl, fun k r l hr hl => by simp at hr⟩ hg0 (fun r hr => by cases hr)
      · omega
    · have hm1 : m = 1 := by
        rw [hsh] at hs
        exact (Prod.mk.inj (Option.some.inj hs)).2
      subst hm1
      rcases hst with ⟨z, _⟩ | ⟨_, hrd, rs, hgv, hrs⟩
      · omega
      · exact s_ret (σ := [some (.ref x), some (.int p), some (.ref g), u]) (ev_var rfl) fun H3 e3 => hQ H3 g rs (kb.trans (But.of e3)) (hrd.ex e3) (hgv.ex e3) hg0 hrs
end
end PR
set_option Elab.async false
set_option linter.all false
set_option maxRecDepth 100000
set_option maxHeartbeats 4000000
namespace PR
open PySem PySem.Spec PyProof.Rows L2 Evl
/-! ### a field is given a new list -/
section
variable {K : PySem.W.Frag} {σ : L2.St} {H : Hp} {ta te : TE} {D : Ends} {tz : TS} {x C dx : Addr} {fs : List (Str × V)}
theorem s_fldL {f : Str} {xs : List V} (h : EvL te σ H xs) (ha : Ev ta σ H (.ref x)) (hx : H x = some (.ins C dx fs)) (c : Cls K C) (n : NoAttr K C f) (l : fs.length < 1000)
    (k : ∀ p H1, H p = none → Ex H H1 → H1 p = some (.lst xs) → D.nx σ (upd H1 x (.ins C dx (putF f (.ref p) fs)))) : sFld K ta te f D σ H :=
  h H (Ex.refl H) _ fun p H1 hp e1 h1 => ha H1 e1 _ fun H2 e2 => ⟨x, C, dx, fs, rfl, e2 _ _ (e1 _ _ hx), c, n, l, k p H2 hp (e1.trans e2) (e2 _ _ h1)⟩
theorem q_fldL {f : Str} {xs : List V} (h : EvL te σ H xs) (ha : Ev ta σ H (.ref x)) (hx : H x = some (.ins C dx fs)) (c : Cls K C) (n : NoAttr K C f) (l : fs.length < 1000)
    (k : ∀ p H1, H p = none → Ex H H1 → H1 p = some (.lst xs) → tz D σ (upd H1 x (.ins C dx (putF f (.ref p) fs)))) : tSeq (sFld K ta te f) tz D σ H := s_fldL (D := { D with nx := tz D }) h ha hx c n l k
/-- list(xs) -/
theorem el_listOf {p : Addr} {xs : List V} (ha : Ev ta σ H (.ref p)) (h : SqL K H p xs) : EvL (tCB (fun xs H Q => ∃ p ys, xs = [V.ref p] ∧ (SqL K H p ys ∨ SqT K H p ys) ∧ ∀ l, H l = none → Q (.ref l) (upd H l (.lst ys))) (tCons ta tNil)) σ H xs := fun H1 e Q q =>
  ha H1 e _ fun H2 e2 => ⟨p, xs, rfl, Or.inl (ex_l (e.trans e2) h), fun l hl => q l _ (fresh_back e2 hl) (e2.trans (Ex.new hl)) upd_same⟩
end
theorem But.refl (H : Hp) (x : Addr) : But H H x := fun _ _ h _ => h
/-- x is given a new list: what is left -/
structure Fld (H0 H : Hp) (x : Addr) : Prop where
  but : But H0 H x
  dom : Dom H0 H
theorem Fld.refl (H : Hp) (x : Addr) : Fld H H x := ⟨But.refl H x, Dom.ex (Ex.refl H)⟩
theorem Fld.step {H0 H H1 : Hp} {x : Addr} {o : HO} (a : Fld H0 H x) (e : Ex H H1) : Fld H0 (upd H1 x o) x := ⟨a.but.trans ((But.of e).trans But.upd), (a.dom.trans (Dom.ex e)).upd⟩
theorem Fld.ex {H0 H H1 : Hp} {x : Addr} (a : Fld H0 H x) (e : Ex H H1) : Fld H0 H1 x := ⟨a.but.trans (But.of e), a.dom.trans (Dom.ex e)⟩
/-- three new lists in the fields of x -/
theorem chg_three {C : Addr} {H H' : Hp} {x p1 p2 p3 dx : Addr} {F : List Addr} {s : Vbemaz.Series} {ts : List Addr} (k : Fld H H' x) (hx : H' x = some (.ins C dx (serF p1 p2 p3))) (h1 : H' p1 = some (.lst (s.added.map gv))) (h2 : H' p2 = some (.lst (ts.map V.ref))) (fx : Fixes H' ts s.fixes)
    (h3 : H' p3 = some (.lst ((Vbemaz.now s).map gv))) (n1 : H p1 = none) (n2 : H p2 = none) (n3 : H p3 = none) (d12 : p1 ≠ p2) (d13 : p1 ≠ p3) (d23 : p2 ≠ p3) (g : GoodS s) : Chg C H H' x F s := by
  refine ⟨[p1, p2, p3], ⟨p1, p2, p3, rfl, ⟨dx, hx⟩, h1, ⟨ts, h2, fx⟩, h3, d12, d13, d23, g⟩, fun b o hb hbx _ => k.but b o hb hbx, fun b hb => ?_, k.dom⟩
  simp only [List.mem_cons, List.not_mem_nil, or_false] at hb
  rcases hb with rfl | rfl | rfl
  · exact .inr n1
  · exact .inr n2
  · exact .inr n3
theorem Chg.trans {C : Addr} {H H1 H2 : Hp} {x : Addr} {F F1 : List Addr} {s1 s2 : Vbemaz.Series} (ser : Ser C H1 x F1 s1) (kp : Keep H H1 x F) (nw : ∀ b ∈ F1, b ∈ F ∨ H b = none) (dm : Dom H H1) (c : Chg C H1 H2 x F1 s2) : Chg C H H2 x F s2 := by
  obtain ⟨F2, a, b, c, d⟩ := c
  refine ⟨F2, a, fun q o hq h1 h2 => b q o (kp q o hq h1 h2) h1 (fun z => ?_), fun q hq => ?_, dm.trans d⟩
  · rcases nw q z with z | z
    · exact h2 z
    · rw [z] at hq; cases hq
  · rcases c q hq with z | z
    · exact nw q z
    · exact .inr (dm q z)
theorem Fixes.but {H H' : Hp} {x : Addr} {ts : List Addr} {fs : List (Nat × Vbemaz.Val)} (h : Fixes H ts fs) (k : But H H' x) (hx : ∃ C dx g, H x = some (.ins C dx g)) : Fixes H' ts fs := by
  obtain ⟨C, dx, g, hx⟩ := hx
  refine ⟨h.1, fun i t f a b => ?_⟩
  have := h.2 i t f a b
  exact k _ _ this (ne_of this hx (by intro z; cases z))
def spSerOver (K : PySem.W.Frag) : Sp := fun vs H Q _ => ∃ (x y : Addr) (F G : List Addr) (s t : Vbemaz.Series), vs = [.ref x, .ref y] ∧ Ser (cSer K) H x F s ∧ Ser (cSer K) H y G t ∧ x ≠ y ∧ ∀ H', Chg (cSer K) H H' x F t → Q .non H'
def spSerCut (K : PySem.W.Frag) : Sp := fun vs H Q _ => ∃ (x : Addr) (F : List Addr) (s : Vbemaz.Series) (n : Nat), vs = [.ref x, nV n] ∧ Ser (cSer K) H x F s ∧ n ≤ s.added.length ∧ ∀ H', Chg (cSer K) H H' x F ⟨s.added.take n, s.fixes.filter fun f => decide (f.1 < n)⟩ → Q .non H'
def spTrim (K : PySem.W.Frag) : Sp := fun vs H Q _ => ∃ (x : Addr) (F : List Addr) (s : Vbemaz.Series) (n : Nat), vs = [.ref x, nV n] ∧ Ser (cSer K) H x F s ∧ RetC K x F (cTrim s n).1 (cTrim s n).2 H Q
def spToldVals (K : PySem.W.Frag) : Sp := fun vs H Q _ => ∃ (a : Addr) (l : List Vbemaz.Val), vs = [.ref a] ∧ SqL K H a (l.map gv) ∧ okV l ∧ l.length ≤ 1000 ∧ RetL ((l.flatMap Vbemaz.told).map V.int) H Q
abbrev spHistory (K : PySem.W.Frag) : Sp := spAsk1 K (fun _ => True) aHistory
def spState (K : PySem.W.Frag) : Sp := fun vs H Q _ => ∃ (c : Addr) (xs : List Addr) (Fs : List (List Addr)) (S : Vbemaz.State), vs = [.ref c] ∧ H c = some (.lst (xs.map V.ref)) ∧ All (cSer K) H xs Fs S ∧ RetL ((aState S).map V.int) H Q
def spCodes (K : PySem.W.Frag) : Sp := fun vs H Q _ => ∃ (a : Addr) (l : List Vbemaz.Val), vs = [.ref a] ∧ SqL K H a (l.map gv) ∧ okV l ∧ l.length ≤ 16 ∧ RetL ((aCodes l).map V.int) H Q
def spGamma : Sp := fun vs H Q _ => ∃ n : Nat, vs = [nV n] ∧ n < 2 ^ 64 ∧ 0 < n ∧ RetL ((aGamma n).map V.int) H Q
/-- the second series becomes as the first one, unless they're one -/
def spCopy (K : PySem.W.Frag) : Sp := fun vs H Q _ => ∃ (c : Addr) (xs : List Addr) (i j : Nat) (x y : Addr) (F G : List Addr) (s t : Vbemaz.Series), vs = [.ref c, nV i, nV j] ∧ H c = some (.lst (xs.map V.ref)) ∧ xs[i]? = some y ∧ xs[j]? = some x ∧ Ser (cSer K) H x F s ∧ Ser (cSer K) H y G t ∧ (i ≠ j → x ≠ y) ∧
  (i = j → RetL [.int (-6)] H Q) ∧ (i ≠ j → RetC K x F t [0] H Q)
section
variable {K : PySem.W.Frag} {H : Hp} {x a : Addr} {F : List Addr} {s : Vbemaz.Series}
theorem sl_toldVals {l : List Vbemaz.Val} (h : SqL K H a (l.map gv)) (h1 : okV l) (h2 : l.length ≤ 1000) : SpL (spToldVals K) [.ref a] H ((l.flatMap Vbemaz.told).map V.int) := fun H1 e _ q _ => ⟨a, l, rfl, ex_l e h, h1, h2, q⟩
end
section
variable {P : Program} {w : World} {K : PySem.W.Frag} {mg : Str → Option Value} {base : Heap}
theorem ok_Series_take_over (T : Top K w mg) : DefM P w K mg base "Series" "take_over" 1 ["self", "other"] (spSerOver K) := by
  obtain ⟨fd, F⟩ := T.f_Series_take_over
  refine ⟨fd, F.ok sc_Series_take_over (fun vs H Q E h => by obtain ⟨_, _, _, _, _, _, rfl, _⟩ := h; rfl) (fun cdv A outer s H vs Q E hr h => ⟨_, PSs.nox (pss_cons (ps_fld (pv 0) (pe_callTy call_list_of (by rfl) T.b_list (by decide +kernel) (pa_cons (pe_fldK (K := K) rfl (pv 1) rfl) pa_nil)) rfl)
      (pss_cons (ps_fld (pv 0) (pe_callTy call_list_of (by rfl) T.b_list (by decide +kernel) (pa_cons (pe_fldK (K := K) rfl (pv 1) rfl) pa_nil)) rfl)
      (pss_one (ps_fld (pv 0) (pe_callTy call_list_of (by rfl) T.b_list (by decide +kernel) (pa_cons (pe_fldK (K := K) rfl (pv 1) rfl) pa_nil)) rfl)))), ?_⟩), F.bindsN (fun _ _ _ _ _ _ us hl => match us, hl with | [_, _], _ => rfl)⟩
  obtain ⟨x, y, F, G, s0, t, rfl, hs, ht, hxy, hQ⟩ := h
  obtain ⟨pa, pc, ps, rfl, hser⟩ := hs
  obtain ⟨qa, qc, qs, rfl, hter⟩ := ht
  obtain ⟨dx, hx⟩ := hser.ins
  obtain ⟨dy, hy⟩ := hter.ins
  obtain ⟨ts, hc, hf⟩ := hter.hc
  refine q_fldL (el_listOf (ev_fld (ev_var rfl) hy T.cl_Series T.n_Series_added serF_added) (sq_of hter.ha)) (ev_var rfl) hx T.cl_Series T.n_Series_added (ser3_len (a := .ref pa) (b := .ref pc) (c := .ref ps)) fun p1 H1 n1 e1 h1 => ?_
  have K1 : Fld H (upd H1 x (HO.ins (cSer K) dx (ser3 (.ref p1) (.ref pc) (.ref ps)))) x := (Fld.refl H x).step e1
  have nx1 : p1 ≠ x := (ne_of_none hx n1).symm
  rw [putF_added]
  have y1 := K1.but _ _ hy hxy.symm
  have l1 : ∀ b l, H b = some (.lst l) → (upd H1 x (HO.ins (cSer K) dx (ser3 (.ref p1) (.ref pc) (.ref ps)))) b = some (.lst l) := fun b l hb => by
    rw [upd_ne (ne_of hb hx (by intro z; cases z))]; exact e1 _ _ hb
  refine q_fldL (σ := start N_Series_take_over [.ref x, .ref y]) (el_listOf (ev_fld (ev_var rfl) (by rw [upd_ne hxy.symm]; exact e1 _ _ hy) T.cl_Series T.n_Series_corrections serF_corrections) (sq_of (l1 _ _ hc))) (ev_var rfl) upd_same T.cl_Series T.n_Series_corrections ser3_len fun p2 H2 n2 e2 h2 => ?_
  rw [putF_corrections]
  have x1 : (upd H1 x (HO.ins (cSer K) dx (ser3 (.ref p1) (.ref pc) (.ref ps)))) x = some (HO.ins (cSer K) dx (ser3 (.ref p1) (.ref pc) (.ref ps))) := upd_same
  have p11 : (upd H1 x (HO.ins (cSer K) dx (ser3 (.ref p1) (.ref pc) (.ref ps)))) p1 = some (.lst (t.added.map gv)) := by rw [upd_ne nx1]; exact h1
  have nx2 : p2 ≠ x := (ne_of_none x1 n2).symm
  have d12 : p1 ≠ p2 := ne_of_none p11 n2
  have K2 : Fld H (upd H2 x (HO.ins (cSer K) dx (ser3 (.ref p1) (.ref p2) (.ref ps)))) x := ((Fld.refl H x).step e1).step e2
  have l2 : ∀ b l, (upd H1 x (HO.ins (cSer K) dx (ser3 (.ref p1) (.ref pc) (.ref ps)))) b = some (.lst l) → (upd H2 x (HO.ins (cSer K) dx (ser3 (.ref p1) (.ref p2) (.ref ps)))) b = some (.lst l) := fun b l hb => by
    rw [upd_ne (ne_of hb x1 (by intro z; cases z))]; exact e2 _ _ hb
  refine s_fldL (σ := start N_Series_take_over [.ref x, .ref y]) (el_listOf (ev_fld (ev_var rfl) (by rw [upd_ne hxy.symm]; exact e2 _ _ (by rw [upd_ne hxy.symm]; exact e1 _ _ hy)) T.cl_Series T.n_Series_standing serF_standing) (sq_of (l2 _ _ (l1 _ _ hter.hs)))) (ev_var rfl) upd_same T.cl_Series T.n_Series_standing ser3_len fun p3 H3 n3 e3 h3 => ?_
  rw [putF_standing]
  have x2 : (upd H2 x (HO.ins (cSer K) dx (ser3 (.ref p1) (.ref p2) (.ref ps)))) x = some (HO.ins (cSer K) dx (ser3 (.ref p1) (.ref p2) (.ref ps))) := upd_same
  have p12 := l2 _ _ p11
  have p22 : (upd H2 x (HO.ins (cSer K) dx (ser3 (.ref p1) (.ref p2) (.ref ps)))) p2 = some (.lst (ts.map V.ref)) := by rw [upd_ne nx2]; exact h2
  have nx3 : p3 ≠ x := (ne_of_none x2 n3).symm
  have d13 : p1 ≠ p3 := ne_of_none p12 n3
  have d23 : p2 ≠ p3 := ne_of_none p22 n3
  have K3 : Fld H (upd H3 x (HO.ins (cSer K) dx (ser3 (.ref p1) (.ref p2) (.ref p3)))) x := (((Fld.refl H x).step e1).step e2).step e3
  refine hQ _ (chg_three (ts := ts) K3 upd_same (by rw [upd_ne nx1]; exact e3 _ _ p12) (by rw [upd_ne nx2]; exact e3 _ _ p22) (hf.but K3.but ⟨_, _, _, hx⟩) (by rw [upd_ne nx3]; exact h3) n1 (K1.dom _ n2) (K2.dom _ n3) d12 d13 d23 hter.good)
theorem ok_Series_cut_from (T : Top K w mg) : DefM P w K mg base "Series" "cut_from" 1 ["self", "start"] (spSerCut K) := by
  obtain ⟨fd, F⟩ := T.f_Series_cut_from
  refine ⟨fd, F.ok sc_Series_cut_from (fun vs H Q E h => by obtain ⟨_, _, _, _, rfl, _⟩ := h; rfl) (fun cdv A outer s H vs Q E hr h => ⟨_, PSs.nox (pss_cons (ps_fld (pv 0) (pe_slice (sl_listK (K := K) rfl) (pe_fldK (K := K) rfl (pv 0) rfl) po_none (po_some (pv 1))) rfl)
      (pss_cons (ps_fld (pv 0) (pe_lc (own := [("correction", 2)]) (g := gName 2) rfl sc_Series_cut_from.nd (pi_list (pe_fldK (K := K) rfl (pv 0) rfl)) (blkOk_by (own := [("correction", 2)]) (N := N_Series_cut_from) (sc := defScope st_Series_cut_from) (by decide +kernel)) (fun _ _ _ _ _ => pg_name (i := 2) sc_Series_cut_from.nd rfl (Or.inl rfl)) (fun _ _ _ _ _ => (pts_one (pt_cmpR op_lt (pe_ix (ix_tupK (K := K) rfl) (pv 2) pe_int (fun _ _ => rfl)) (pv 1) (nomark _)))) (fun _ _ _ _ _ => (pv 2))) rfl)
      (pss_one (ps_fld (pv 0) (pe_slice (sl_listK (K := K) rfl) (pe_fldK (K := K) rfl (pv 0) rfl) po_none (po_some (pv 1))) rfl)))), ?_⟩), F.bindsN (fun _ _ _ _ _ _ us hl => match us, hl with | [_, _], _ => rfl)⟩
  obtain ⟨x, F, s0, n, rfl, hs, hn, hQ⟩ := h
  obtain ⟨pa, pc, ps, rfl, hser⟩ := hs
  obtain ⟨dx, hx⟩ := hser.ins
  obtain ⟨ts, hc, hf⟩ := hser.hc
  have hlf := hser.good.lf
  have hnl := now_len s0
  have cutTo : ∀ l : List Vbemaz.Val, n ≤ l.length → cutV (l.map gv) none (some (n : Int)) = (l.take n).map gv := by
    intro l hl
    unfold cutV
    rw [HT.sIx_none, HT.sIx_nat, List.length_map, Nat.min_eq_left hl, List.drop_zero, Nat.sub_zero, List.map_take]
  refine q_fldL (el_is (el_sl (ev_fld (ev_var rfl) hx T.cl_Series T.n_Series_added serF_added) eo_none (eo_some (ev_var rfl)) (sq_of hser.ha)) (cutTo _ hn)) (ev_var rfl) hx T.cl_Series T.n_Series_added (ser3_len (a := .ref pa) (b := .ref pc) (c := .ref ps)) fun p1 H1 n1 e1 h1 => ?_
  have K1 : Fld H (upd H1 x (HO.ins (cSer K) dx (ser3 (.ref p1) (.ref pc) (.ref ps)))) x := (Fld.refl H x).step e1
  have nx1 : p1 ≠ x := (ne_of_none hx n1).symm
  rw [putF_added]
  have l1 : ∀ b l, H b = some (.lst l) → (upd H1 x (HO.ins (cSer K) dx (ser3 (.ref p1) (.ref pc) (.ref ps)))) b = some (.lst l) := fun b l hb => by
    rw [upd_ne (ne_of hb hx (by intro z; cases z))]; exact e1 _ _ hb
  have x1 : (upd H1 x (HO.ins (cSer K) dx (ser3 (.ref p1) (.ref pc) (.ref ps)))) x = some (HO.ins (cSer K) dx (ser3 (.ref p1) (.ref pc) (.ref ps))) := upd_same
  have f1 : Fixes (upd H1 x (HO.ins (cSer K) dx (ser3 (.ref p1) (.ref pc) (.ref ps)))) ts s0.fixes := hf.but ((Fld.refl H x).step e1).but ⟨_, _, _, hx⟩
  have hz1 : (ts.zip s0.fixes).map Prod.fst = ts := List.map_fst_zip (by have := hf.1; omega)
  have hz2 : (ts.zip s0.fixes).map Prod.snd = s0.fixes := List.map_snd_zip (by have := hf.1; omega)
  have hl1 : ts.map V.ref = (ts.zip s0.fixes).map fun q => V.ref q.1 := by
    conv => lhs; rw [← hz1]
    rw [List.map_map]
    rfl
  have hmem : ∀ q, q ∈ ts.zip s0.fixes → (upd H1 x (HO.ins (cSer K) dx (ser3 (.ref p1) (.ref pc) (.ref ps)))) q.1 = some (.tup [nV q.2.1, gv q.2.2]) := by
    intro q hq
    obtain ⟨i, hi, e⟩ := List.getElem_of_mem hq
    rw [List.getElem_zip] at e
    rw [List.length_zip] at hi
    subst e
    exact f1.2 i _ _ (List.getElem?_eq_getElem (by omega)) (List.getElem?_eq_getElem (by omega))
  refine q_fldL (σ := start N_Series_cut_from [.ref x, nV n]) (el_lcM (K := K) (fun q : Addr × (Nat × Vbemaz.Val) => V.ref q.1) (fun q => decide (q.2.1 < n)) (fun q => V.ref q.1) (ts.zip s0.fixes) (ev_fld (ev_var rfl) x1 T.cl_Series T.n_Series_corrections serF_corrections) (sq_of (by rw [← hl1]; exact l1 _ _ hc)) (by rw [List.length_zip]; omega) (fun _ => rfl) (fun q hq H2 e2 => ?_) (fun q hq H2 e2 _ => ev_var rfl)) (ev_var rfl) upd_same T.cl_Series T.n_Series_corrections ser3_len fun p2 H2 n2 e2 h2 => ?_
  · refine et_is (et_test (ev_op (ev_op (ev_var rfl) ev_c (rv_ixT (st_of (e2 _ _ (hmem q hq))) (at_of (j := 0) rfl rfl))) (ev_var rfl) rv_I0)) ?_
    exact decide_eq_decide.mpr (by omega)
  rw [putF_corrections]
  have p11 : (upd H1 x (HO.ins (cSer K) dx (ser3 (.ref p1) (.ref pc) (.ref ps)))) p1 = some (.lst ((s0.added.take n).map gv)) := by rw [upd_ne nx1]; exact h1
  have nx2 : p2 ≠ x := (ne_of_none x1 n2).symm
  have d12 : p1 ≠ p2 := ne_of_none p11 n2
  have K2 : Fld H (upd H2 x (HO.ins (cSer K) dx (ser3 (.ref p1) (.ref p2) (.ref ps)))) x := ((Fld.refl H x).step e1).step e2
  have l2 : ∀ b l, (upd H1 x (HO.ins (cSer K) dx (ser3 (.ref p1) (.ref pc) (.ref ps)))) b = some (.lst l) → (upd H2 x (HO.ins (cSer K) dx (ser3 (.ref p1) (.ref p2) (.ref ps)))) b = some (.lst l) := fun b l hb => by
    rw [upd_ne (ne_of hb x1 (by intro z; cases z))]; exact e2 _ _ hb
  have x2 : (upd H2 x (HO.ins (cSer K) dx (ser3 (.ref p1) (.ref p2) (.ref ps)))) x = some (HO.ins (cSer K) dx (ser3 (.ref p1) (.ref p2) (.ref ps))) := upd_same
  refine s_fldL (σ := start N_Series_cut_from [.ref x, nV n]) (el_is (el_sl (ev_fld (ev_var rfl) x2 T.cl_Series T.n_Series_standing serF_standing) eo_none (eo_some (ev_var rfl)) (sq_of (l2 _ _ (l1 _ _ hser.hs)))) (cutTo _ (by omega))) (ev_var rfl) upd_same T.cl_Series T.n_Series_standing ser3_len fun p3 H3 n3 e3 h3 => ?_
  rw [putF_standing]
  have p12 := l2 _ _ p11
  have p22 : (upd H2 x (HO.ins (cSer K) dx (ser3 (.ref p1) (.ref p2) (.ref ps)))) p2 = some (.lst ((((ts.zip s0.fixes).filter fun q => decide (q.2.1 < n)).map Prod.fst).map V.ref)) := by
    rw [upd_ne nx2, h2, List.map_map]
    rfl
  have nx3 : p3 ≠ x := (ne_of_none x2 n3).symm
  have d13 : p1 ≠ p3 := ne_of_none p12 n3
  have d23 : p2 ≠ p3 := ne_of_none p22 n3
  have K3 : Fld H (upd H3 x (HO.ins (cSer K) dx (ser3 (.ref p1) (.ref p2) (.ref p3)))) x := (((Fld.refl H x).step e1).step e2).step e3
  have hfx : Fixes H (((ts.zip s0.fixes).filter fun q => decide (q.2.1 < n)).map Prod.fst) (s0.fixes.filter fun f => decide (f.1 < n)) := by
    have e : s0.fixes.filter (fun f => decide (f.1 < n)) = ((ts.zip s0.fixes).filter fun q => decide (q.2.1 < n)).map Prod.snd := by
      conv => lhs; rw [← hz2]
      rw [List.filter_map]
      rfl
    rw [e]
    refine ⟨by rw [List.length_map, List.length_map], fun i t f a b => ?_⟩
    rw [List.getElem?_map] at a b
    obtain ⟨q, hq, rfl⟩ := Option.map_eq_some_iff.mp a
    rw [hq] at b
    obtain rfl : q.2 = f := Option.some.inj b
    have hq2 := (List.mem_filter.mp (List.mem_of_getElem? hq)).1
    obtain ⟨j, hj, e⟩ := List.getElem_of_mem hq2
    rw [List.getElem_zip] at e
    rw [List.length_zip] at hj
    subst e
    exact hf.2 j _ _ (List.getElem?_eq_getElem (by omega)) (List.getElem?_eq_getElem (by omega))
  refine hQ _ (chg_three (s := ⟨s0.added.take n, s0.fixes.filter fun f => decide (f.1 < n)⟩) K3 upd_same (by rw [upd_ne nx1]; exact e3 _ _ p12) (by rw [upd_ne nx2]; exact e3 _ _ p22) (hfx.but K3.but ⟨_, _, _, hx⟩) (by rw [upd_ne nx3, h3, now_trim]) n1 (K1.dom _ n2) (K2.dom _ n3) d12 d13 d23 (good_trim hser.good n))
theorem ok_trim_series (T : Top K w mg) : Def P w K mg base "trim_series" 2 ["series", "start"] (spTrim K) := by
  obtain ⟨fd_Series_place_count, G_Series_place_count, b_Series_place_count⟩ := ok_Series_place_count (P := P) (w := w) (base := base) T
  obtain ⟨fd_Series_cut_from, G_Series_cut_from, b_Series_cut_from⟩ := ok_Series_cut_from (P := P) (w := w) (base := base) T
  obtain ⟨_, c_NO_SUCH_PLACE⟩ := T.c_NO_SUCH_PLACE
  obtain ⟨fd, F⟩ := T.f_trim_series
  refine ⟨fd, F.ok sc_trim_series (fun vs H Q E h => by obtain ⟨_, _, _, _, rfl, _⟩ := h; rfl) (fun cdv A outer s H vs Q E hr h => ⟨_, PSs.nox (pss_cons (ps_if (pt_cmpR op_gt (pv 1) (pe_meth0 (pv 0) T.cl_Series T.m_Series_place_count G_Series_place_count (hr.mono (by decide)) b_Series_place_count .nil pass0) (nomark _)) (pss_one (ps_ret (pe_lst (pa_cons (pe_glob (v := .int (-4)) rfl c_NO_SUCH_PLACE ⟨_, rfl⟩) pa_nil)))) pss_nil)
      (pss_cons (ps_expr (pe_meth (pv 0) T.cl_Series T.m_Series_cut_from G_Series_cut_from (hr.mono (by decide)) b_Series_cut_from .nil pass0 (pa_cons (pv 1) pa_nil)))
      (pss_one (ps_ret (pe_lst (pa_cons pe_int pa_nil)))))), ?_⟩), F.bindsN (fun _ _ _ _ _ _ us hl => match us, hl with | [_, _], _ => rfl), F.kp, T.g_trim_series⟩
  obtain ⟨x, F, s0, n, rfl, hs, hQ⟩ := h
  refine q_when (et_is (et_test (ev_op (ev_var rfl) (ev_serM hs (ev_var rfl) ea_nil (sv_count hs)) rv_I0)) (show _ = decide (s0.added.length < n) from decide_eq_decide.mpr (by omega))) (fun hb H1 e1 => ?_) (fun hb H1 e1 => ?_)
  · have hb := of_decide_eq_true hb
    have e : cTrim s0 n = (s0, [-4]) := if_pos hb
    rw [e] at hQ
    exact s_retL (el_lst (ea_cons ev_c ea_nil) (by decide)) fun p H2 hp e2 h2 => hQ p H2 (fresh_back e1 hp) (chg_same hs (e1.trans e2)) h2
  · have hb := of_decide_eq_false hb
    have e : cTrim s0 n = (⟨s0.added.take n, s0.fixes.filter fun f => decide (f.1 < n)⟩, [0]) := if_neg hb
    rw [e] at hQ
    have hs1 := hs.ex e1
    obtain ⟨dx, pa, pc, ps, hx⟩ := hs1.ins
    refine ⟨_, rfl, x, dx, _, rfl, hx, serF_none (by decide +kernel) (by decide +kernel) (by decide +kernel), _, rfl, x, F, s0, n, rfl, hs1, by omega, fun H2 hc => ?_⟩
    exact s_retL (σ := start N_trim_series [.ref x, nV n]) (el_lst (ea_cons ev_c ea_nil) (by decide)) fun p H3 hp e3 h3 => hQ p H3 ((hc.pre e1).dom p hp) ((hc.pre e1).ex e3) h3
theorem ok_told_values (T : Top K w mg) : Def P w K mg base "told_values" 2 ["values"] (spToldVals K) := by
  obtain ⟨fd_told_value, G_told_value, b_told_value, k_told_value, g_told_value⟩ := ok_told_value (P := P) (w := w) (base := base) T
  obtain ⟨fd, F⟩ := T.f_told_values
  refine ⟨fd, F.ok sc_told_values (fun vs H Q E h => by obtain ⟨_, _, rfl, _⟩ := h; rfl) (fun cdv A outer s H vs Q E hr h => ⟨_, PSs.nox (pss_cons (ps_set (i := 1) sc_told_values.nd rfl (Or.inl rfl) (pe_lst pa_nil))
      (pss_cons (ps_for PassesOwn.never rfl (pi_list (pv 0)) (pg_name (i := 2) sc_told_values.nd rfl (Or.inl rfl)) (pss_one (ps_expr (pe_bm PySem.F.plainAttrs_list PySem.F.slot_list_extend PySem.F.type_list_extend mt_extend (pv 1) (pa_cons (pe_call G_told_value (hr.mono (by decide)) rfl g_told_value k_told_value b_told_value .nil pass0 (pa_cons (pv 2) pa_nil)) pa_nil)))))
      (pss_one (ps_ret (pv 1))))), ?_⟩), F.bindsN (fun _ _ _ _ _ _ us hl => match us, hl with | [_], _ => rfl), F.kp, T.g_told_values⟩
  obtain ⟨a, l, rfl, hS, hok, hl, hQ⟩ := h
  refine q_asgL (el_lst ea_nil (by decide)) fun p H1 hp e1 hp1 => ?_
  refine q_forLn (ev_var rfl) (ex_l e1 hS) (fun i σ' H' => ∃ v, σ' = [some (.ref a), some (.ref p), v] ∧ Ex H H' ∧ H' p = some (.lst (((l.take i).flatMap Vbemaz.told).map V.int))) (fun H2 e2 => ⟨none, rfl, e1.trans e2, e2 p _ hp1⟩)
    (fun i σ' H' _ ⟨_, _, e2, _⟩ => ex_l e2 hS) ?_ ?_
  · rintro i x σ' H' hx ⟨v, rfl, e2, hp2⟩
    rw [List.getElem?_map] at hx
    obtain ⟨n, hn, rfl⟩ := Option.map_eq_some_iff.mp hx
    have hlen : ((l.take i).flatMap Vbemaz.told).length ≤ 2000 := by
      rw [tolds_len, List.length_take]
      omega
    refine s_ext hp2 (ev_var rfl) (el_call (ea_cons (ev_var rfl) ea_nil) (sl_toldV (fun z hz => hok z (by rw [← hz]; exact List.mem_of_getElem? hn)))) (by rw [List.length_map, List.length_map, told_len]; omega) fun H3 e3 => ⟨some (gv n), rfl, Ex.mut (e2.trans e3) hp, ?_⟩
    rw [upd_same, List.take_succ, hn, Option.toList_some, List.flatMap_append, List.map_append]
    simp
  · rintro σ' H' ⟨v, rfl, e2, hp2⟩
    rw [List.length_map, List.take_length] at hp2
    refine s_ret (σ := [some (.ref a), some (.ref p), v]) (ev_var rfl) fun H2 e3 => hQ p H2 hp (e2.trans e3) (e3 p _ hp2)
theorem ok_history_of_place (T : Top K w mg) : Def P w K mg base "history_of_place" 3 ["series", "place"] (spHistory K) := by
  obtain ⟨fd_told_row, G_told_row, b_told_row, k_told_row, g_told_row⟩ := ok_told_row (P := P) (w := w) (base := base) T
  obtain ⟨fd_told_values, G_told_values, b_told_values, k_told_values, g_told_values⟩ := ok_told_values (P := P) (w := w) (base := base) T
  obtain ⟨fd_Series_has_place, G_Series_has_place, b_Series_has_place⟩ := ok_Series_has_place (P := P) (w := w) (base := base) T
  obtain ⟨fd_Series_values_up_to, G_Series_values_up_to, b_Series_values_up_to⟩ := ok_Series_values_up_to (P := P) (w := w) (base := base) T
  obtain ⟨fd_Series_correction_count, G_Series_correction_count, b_Series_correction_count⟩ := ok_Series_correction_count (P := P) (w := w) (base := base) T
  obtain ⟨_, c_NO_SUCH_PLACE⟩ := T.c_NO_SUCH_PLACE
  obtain ⟨fd, F⟩ := T.f_history_of_place
  refine ⟨fd, F.ok sc_history_of_place (fun vs H Q E h => by obtain ⟨_, _, _, _, rfl, _⟩ := h; rfl) (fun cdv A outer s H vs Q E hr h => ⟨_, PSs.nox (pss_cons (ps_if (pt_not (pt_val (pe_meth (pv 0) T.cl_Series T.m_Series_has_place G_Series_has_place (hr.mono (by decide)) b_Series_has_place .nil pass0 (pa_cons (pv 1) pa_nil)))) (pss_one (ps_ret (pe_lst (pa_cons (pe_glob (v := .int (-4)) rfl c_NO_SUCH_PLACE ⟨_, rfl⟩) pa_nil)))) pss_nil)
      (pss_one (ps_ret (pe_op op_cat (pe_lst (pa_cons pe_int pa_nil)) (pe_call G_told_row (hr.mono (by decide)) rfl g_told_row k_told_row b_told_row .nil pass0 (pa_cons (pe_call G_told_values (hr.mono (by decide)) rfl g_told_values k_told_values b_told_values .nil pass0 (pa_cons (pe_meth (pv 0) T.cl_Series T.m_Series_values_up_to G_Series_values_up_to (hr.mono (by decide)) b_Series_values_up_to .nil pass0 (pa_cons (pv 1) (pa_cons (pe_meth0 (pv 0) T.cl_Series T.m_Series_correction_count G_Series_correction_count (hr.mono (by decide)) b_Series_correction_count .nil pass0) pa_nil))) pa_nil)) pa_nil)))))), ?_⟩), F.bindsN (fun _ _ _ _ _ _ us hl => match us, hl with | [_, _], _ => rfl), F.kp, T.g_history_of_place⟩
  obtain ⟨x, F, s0, k, rfl, hs, _, hQ⟩ := h
  rw [aHistory_vals] at hQ
  refine q_when (et_not (et_B (ev_serM hs (ev_var rfl) (ea_cons (ev_var rfl) ea_nil) (sv_has hs)))) (fun hb H1 e1 => ?_) (fun hb H1 e1 => ?_)
  · have hb : ¬ k < s0.added.length := by simpa using hb
    rw [if_pos (by omega)] at hQ
    exact s_retL (el_lst (ea_cons ev_c ea_nil) (by decide)) fun p H2 hp e2 h2 => hQ.go e1 hp e2 h2
  · have hb : k < s0.added.length := by simpa using hb
    rw [if_neg (by omega)] at hQ
    have hs1 := hs.ex e1
    have hlf := hs.good.lf
    have hvl := valsTo_len s0 k s0.fixes.length
    obtain ⟨dx, pa, pc, ps, hx⟩ := hs1.ins
    refine s_retL (el_cat (el_lst (ea_cons ev_c ea_nil) (by decide)) (el_callN (el_callN (el_meth (ev_var rfl) hx (serF_none (by decide +kernel) (by decide +kernel) (by decide +kernel)) (ea_cons (ev_var rfl) (ea_cons (ev_serM hs1 (ev_var rfl) ea_nil (sv_fixes hs1)) ea_nil)) (sl_vals hs1 hb (Nat.le_refl _))) (fun r H3 hr3 e3 => sl_toldVals (sq_of hr3) (valsTo_ok hs.good) (by omega))) (fun r H3 hr3 e3 => sl_toldRow hr3 (by rw [tolds_len]; omega))) ?_) fun p H2 hp e2 h2 => hQ.go e1 hp e2 h2
    rw [List.length_map]
    show 1 + (_ + 1) ≤ 100000
    rw [tolds_len]
    omega
theorem ok_bits_of_self_ending (T : Top K w mg) : Def P w K mg base "bits_of_self_ending" 3 ["number"] spGamma := by
  obtain ⟨fd_told_row, G_told_row, b_told_row, k_told_row, g_told_row⟩ := ok_told_row (P := P) (w := w) (base := base) T
  obtain ⟨fd_self_ending, G_self_ending, b_self_ending, k_self_ending, g_self_ending⟩ := ok_self_ending (P := P) (w := w) (base := base) T
  obtain ⟨fd, F⟩ := T.f_bits_of_self_ending
  refine ⟨fd, F.ok sc_bits_of_self_ending (fun vs H Q E h => by obtain ⟨_, rfl, _⟩ := h; rfl) (fun cdv A outer s H vs Q E hr h => ⟨_, PSs.nox (pss_one (ps_ret (pe_op op_cat (pe_lst (pa_cons pe_int pa_nil)) (pe_call G_told_row (hr.mono (by decide)) rfl g_told_row k_told_row b_told_row .nil pass0 (pa_cons (pe_call G_self_ending (hr.mono (by decide)) rfl g_self_ending k_self_ending b_self_ending .nil pass0 (pa_cons (pv 0) pa_nil)) pa_nil))))), ?_⟩), F.bindsN (fun _ _ _ _ _ _ us hl => match us, hl with | [_], _ => rfl), F.kp, T.g_bits_of_self_ending⟩
  obtain ⟨n, rfl, hn, h0, hQ⟩ := h
  have hl := gamma_len hn
  have e : (Vbemaz.gamma n).map bV = ((Vbemaz.gamma n).map Vbemaz.bit).map V.int := by rw [List.map_map]; rfl
  refine s_retL (el_cat (el_lst (ea_cons ev_c ea_nil) (by decide)) (el_callN (el_call (ea_cons (ev_var rfl) ea_nil) (sl_selfEnding hn h0)) (fun r H3 hr3 e3 => sl_toldRow (l := (Vbemaz.gamma n).map Vbemaz.bit) (by rw [hr3, e]) (by rw [List.length_map]; omega))) ?_) fun p H2 hp e2 h2 => hQ p H2 hp e2 h2
  rw [List.length_map]
  show 1 + (_ + 1) ≤ 100000
  rw [List.length_map]
  omega
theorem ok_codes_of_row (T : Top K w mg) : Def P w K mg base "codes_of_row" 6 ["row"] (spCodes K) := by
  obtain ⟨fd_readings_in, G_readings_in, b_readings_in, k_readings_in, g_readings_in⟩ := ok_readings_in (P := P) (w := w) (base := base) T
  obtain ⟨fd_in_each_code, G_in_each_code, b_in_each_code, k_in_each_code, g_in_each_code⟩ := ok_in_each_code (P := P) (w := w) (base := base) T
  obtain ⟨fd_shortest_code, G_shortest_code, b_shortest_code, k_shortest_code, g_shortest_code⟩ := ok_shortest_code (P := P) (w := w) (base := base) T
  obtain ⟨_, c_NO_READING⟩ := T.c_NO_READING
  obtain ⟨fd, F⟩ := T.f_codes_of_row
  refine ⟨fd, F.ok sc_codes_of_row (fun vs H Q E h => by obtain ⟨_, _, rfl, _⟩ := h; rfl) (fun cdv A outer s H vs Q E hr h => ⟨_, PSs.nox (pss_cons (ps_set (i := 1) sc_codes_of_row.nd rfl (Or.inl rfl) (pe_call G_readings_in (hr.mono (by decide)) rfl g_readings_in k_readings_in b_readings_in .nil pass0 (pa_cons (pv 0) pa_nil)))
      (pss_cons (ps_if (pt_cmpR op_eq (pe_callB (call_lenK (K := K) rfl) (by rfl) T.b_len PySem.boot_len (pa_cons (pv 1) pa_nil)) pe_int (nomark _)) (pss_one (ps_ret (pe_lst (pa_cons (pe_glob (v := .int (-8)) rfl c_NO_READING ⟨_, rfl⟩) pa_nil)))) pss_nil)
      (pss_cons (ps_set (i := 2) sc_codes_of_row.nd rfl (Or.inl rfl) (pe_call G_in_each_code (hr.mono (by decide)) rfl g_in_each_code k_in_each_code b_in_each_code .nil pass0 (pa_cons (pv 1) pa_nil)))
      (pss_one (ps_ret (pe_op op_cat (pe_lst (pa_cons pe_int (pa_cons (pe_call G_shortest_code (hr.mono (by decide)) rfl g_shortest_code k_shortest_code b_shortest_code .nil pass0 (pa_cons (pv 2) pa_nil)) pa_nil))) (pe_lc (own := [("bits", 3)]) (g := gName 3) rfl sc_codes_of_row.nd (pi_list (pv 2)) (blkOk_by (own := [("bits", 3)]) (N := N_codes_of_row) (sc := defScope st_codes_of_row) (by decide +kernel)) (fun _ _ _ _ _ => pg_name (i := 3) sc_codes_of_row.nd rfl (Or.inl rfl)) (fun _ _ _ _ _ => pts_nil) (fun _ _ _ _ _ => (pe_callB (call_lenK (K := K) rfl) (by rfl) T.b_len PySem.boot_len (pa_cons (pv 3) pa_nil)))))))))), ?_⟩), F.bindsN (fun _ _ _ _ _ _ us hl => match us, hl with | [_], _ => rfl), F.kp, T.g_codes_of_row⟩
  obtain ⟨a, l, rfl, hS, hok, hl, hQ⟩ := h
  have hpl : (Vbemaz.present l).length ≤ l.length := List.length_filterMap_le _ _
  have hR : okR (Vbemaz.present l) := ⟨by omega, fun x hx => by
    obtain ⟨v, hv, e⟩ := List.mem_filterMap.mp hx
    exact hok x (by rw [← (show v = some x from e)]; exact hv)⟩
  refine q_asgL (el_call (ea_cons (ev_var rfl) ea_nil) (sl_readingsIn hS hok (by omega))) fun r H1 hr1 e1 h1 => ?_
  refine q_when (et_test (ev_op (ev_lenS (ea_cons (ev_var rfl) ea_nil) (sq_of h1)) ev_c (rv_eq rfl))) (fun hb H2 e2 => ?_) (fun hb H2 e2 => ?_)
  · have hb := V.int.inj (of_decide_eq_true hb)
    rw [List.length_map] at hb
    have e : aCodes l = [-8] := if_pos (by rw [List.isEmpty_iff_length_eq_zero]; omega)
    rw [e] at hQ
    exact s_retL (σ := [some (.ref a), some (.ref r), none, none]) (el_lst (ea_cons ev_c ea_nil) (by decide)) fun p H3 hp e3 h3 => hQ.go (e1.trans e2) hp e3 h3
  · have hb := of_decide_eq_false hb
    have hne : Vbemaz.present l ≠ [] := fun z => hb (by rw [z]; rfl)
    have e : aCodes l = 0 :: (Vbemaz.chosen (Vbemaz.present l) : Int) :: ((List.range 4).map fun c => ((Vbemaz.codeOf c (Vbemaz.present l)).length : Int)) := if_neg (by rw [List.isEmpty_iff]; exact hne)
    rw [e] at hQ
    refine ⟨_, rfl, r, _, rfl, ex_l e2 (sq_of h1), hne, hR, fun c H3 e3 hc => ?_⟩
    obtain ⟨p, hp1, hp2⟩ := id hc
    refine s_retL (σ := [some (.ref a), some (.ref r), some (.ref c), none]) (el_is (el_cat (el_lst (ea_cons ev_c (ea_cons (ev_call (ea_cons (ev_var rfl) ea_nil) (sv_shortest hc)) ea_nil)) (show 2 ≤ 100000 by decide)) (el_lcA (fun i => V.ref (p i)) (fun i => nV (Vbemaz.codeOf i (Vbemaz.present l)).length) (List.range 4) (ev_var rfl) (sq_of hp1) (by decide) (fun _ => rfl) (fun x hx H4 e4 => ev_is (ev_lenS (ea_cons (ev_var rfl) ea_nil) (sq_of (e4 _ _ (hp2 x (List.mem_range.mp hx))))) (by rw [List.length_map]))) (show 2 + 4 ≤ 100000 by decide)) (ys := (0 :: (Vbemaz.chosen (Vbemaz.present l) : Int) :: ((List.range 4).map fun c => ((Vbemaz.codeOf c (Vbemaz.present l)).length : Int))).map V.int) ?_) fun q H4 hq e4 h4 => hQ.go ((e1.trans e2).trans e3) hq e4 h4
    rw [List.map_cons, List.map_cons, List.map_map]
    rfl
theorem ok_state_of_all (T : Top K w mg) : Def P w K mg base "state_of_all" 2 ["all_series"] (spState K) := by
  obtain ⟨fd_Series_place_count, G_Series_place_count, b_Series_place_count⟩ := ok_Series_place_count (P := P) (w := w) (base := base) T
  obtain ⟨fd_Series_correction_count, G_Series_correction_count, b_Series_correction_count⟩ := ok_Series_correction_count (P := P) (w := w) (base := base) T
  obtain ⟨fd, F⟩ := T.f_state_of_all
  refine ⟨fd, F.ok sc_state_of_all (fun vs H Q E h => by obtain ⟨_, _, _, _, rfl, _⟩ := h; rfl) (fun cdv A outer s H vs Q E hr h => ⟨_, PSs.nox (pss_cons (ps_set (i := 1) sc_state_of_all.nd rfl (Or.inl rfl) (pe_lst (pa_cons pe_int pa_nil)))
      (pss_cons (ps_for PassesOwn.never rfl (pi_list (pv 0)) (pg_name (i := 2) sc_state_of_all.nd rfl (Or.inl rfl)) (pss_cons (ps_expr (pe_bm PySem.F.plainAttrs_list PySem.F.slot_list_append PySem.F.type_list_append mt_append (pv 1) (pa_cons (pe_meth0 (pv 2) T.cl_Series T.m_Series_place_count G_Series_place_count (hr.mono (by decide)) b_Series_place_count .nil pass0) pa_nil)))
      (pss_one (ps_expr (pe_bm PySem.F.plainAttrs_list PySem.F.slot_list_append PySem.F.type_list_append mt_append (pv 1) (pa_cons (pe_meth0 (pv 2) T.cl_Series T.m_Series_correction_count G_Series_correction_count (hr.mono (by decide)) b_Series_correction_count .nil pass0) pa_nil))))))
      (pss_one (ps_ret (pv 1))))), ?_⟩), F.bindsN (fun _ _ _ _ _ _ us hl => match us, hl with | [_], _ => rfl), F.kp, T.g_state_of_all⟩
  obtain ⟨c, xs, Fs, S, rfl, hc, hA, hQ⟩ := h
  refine q_asgL (el_lst (ea_cons ev_c ea_nil) (by decide)) fun p H1 hp e1 hp1 => ?_
  refine q_forLn (ev_var rfl) (sq_of (e1 _ _ hc)) (fun i σ' H' => ∃ v, σ' = [some (.ref c), some (.ref p), v] ∧ Ex H H' ∧ H' p = some (.lst ((0 :: (S.series.take i).flatMap fun x => [(x.added.length : Int), (x.fixes.length : Int)]).map V.int))) (fun H2 e2 => ⟨none, rfl, e1.trans e2, e2 p _ hp1⟩)
    (fun i σ' H' _ ⟨_, _, e2, _⟩ => sq_of (e2 _ _ hc)) ?_ ?_
  · rintro i x σ' H' hx ⟨v, rfl, e2, hp2⟩
    rw [List.getElem?_map] at hx
    obtain ⟨y, hy, rfl⟩ := Option.map_eq_some_iff.mp hx
    have hi := (List.getElem?_eq_some_iff.mp hy).1
    rw [hA.lx] at hi
    have hi2 : i < Fs.length := by rw [hA.lf]; exact hi
    have hi3 : i < S.series.length := by rw [hA.ls]; exact hi
    have hser := (hA.ser i y _ _ hy (List.getElem?_eq_getElem hi2) (List.getElem?_eq_getElem hi3)).ex e2
    have hlen : ((S.series.take i).flatMap fun x => [(x.added.length : Int), (x.fixes.length : Int)]).length ≤ 8 := by
      have : ∀ l : List Vbemaz.Series, (l.flatMap fun x => [(x.added.length : Int), (x.fixes.length : Int)]).length = 2 * l.length := by
        intro l
        induction l with
        | nil => rfl
        | cons v l ih => rw [List.flatMap_cons, List.length_append, ih, List.length_cons]; simp; omega
      rw [this, List.length_take]
      omega
    refine q_app (σ := [some (.ref c), some (.ref p), some (.ref y)]) hp2 (ev_var rfl) (ev_serM hser (ev_var rfl) ea_nil (sv_count hser)) (by rw [List.length_map, List.length_cons]; omega) fun H3 e3 => ?_
    have hser2 := (hA.ser i y _ _ hy (List.getElem?_eq_getElem hi2) (List.getElem?_eq_getElem hi3)).ex (Ex.mut (o := .lst ((0 :: (S.series.take i).flatMap fun x => [(x.added.length : Int), (x.fixes.length : Int)]).map V.int ++ [nV S.series[i].added.length])) (e2.trans e3) hp)
    refine s_app (σ := [some (.ref c), some (.ref p), some (.ref y)]) upd_same (ev_var rfl) (ev_serM hser2 (ev_var rfl) ea_nil (sv_fixes hser2)) (by rw [List.length_append, List.length_map, List.length_cons]; show _ + 1 + 1 < 100000; omega) fun H4 e4 => ⟨some (.ref y), rfl, Ex.mut ((Ex.mut (e2.trans e3) hp).trans e4) hp, ?_⟩
    rw [upd_same, List.take_succ, List.getElem?_eq_getElem hi3, Option.toList_some, List.flatMap_append]
    simp
  · rintro σ' H' ⟨v, rfl, e2, hp2⟩
    rw [List.length_map, hA.lx, ← hA.ls, List.take_length] at hp2
    refine s_ret (σ := [some (.ref c), some (.ref p), v]) (ev_var rfl) fun H2 e3 => hQ p H2 hp (e2.trans e3) (e3 p _ hp2)
theorem ok_copy_series (T : Top K w mg) : Def P w K mg base "copy_series" 2 ["all_series", "source", "target"] (spCopy K) := by
  obtain ⟨fd_Series_take_over, G_Series_take_over, b_Series_take_over⟩ := ok_Series_take_over (P := P) (w := w) (base := base) T
  obtain ⟨_, c_SAME_SERIES⟩ := T.c_SAME_SERIES
  obtain ⟨fd, F⟩ := T.f_copy_series
  refine ⟨fd, F.ok sc_copy_series (fun vs H Q E h => by obtain ⟨_, _, _, _, _, _, _, _, _, _, rfl, _⟩ := h; rfl) (fun cdv A outer s H vs Q E hr h => ⟨_, PSs.nox (pss_cons (ps_if (pt_cmpR op_eq (pv 1) (pv 2) (nomark _)) (pss_one (ps_ret (pe_lst (pa_cons (pe_glob (v := .int (-6)) rfl c_SAME_SERIES ⟨_, rfl⟩) pa_nil)))) pss_nil)
      (pss_cons (ps_expr (pe_meth (pe_ix (ix_listK (K := K) rfl) (pv 0) (pv 2) (fun _ _ => rfl)) T.cl_Series T.m_Series_take_over G_Series_take_over (hr.mono (by decide)) b_Series_take_over .nil pass0 (pa_cons (pe_ix (ix_listK (K := K) rfl) (pv 0) (pv 1) (fun _ _ => rfl)) pa_nil)))
      (pss_one (ps_ret (pe_lst (pa_cons pe_int pa_nil)))))), ?_⟩), F.bindsN (fun _ _ _ _ _ _ us hl => match us, hl with | [_, _, _], _ => rfl), F.kp, T.g_copy_series⟩
  obtain ⟨c, xs, i, j, x, y, F, G, s0, t, rfl, hc, hi, hj, hs, ht, hne, hQ1, hQ2⟩ := h
  refine q_when (et_is (et_test (ev_op (ev_var rfl) (ev_var rfl) (rv_eq rfl))) (show _ = decide (i = j) from decide_eq_decide.mpr ⟨fun z => by have := V.int.inj z; omega, fun z => by rw [z]⟩)) (fun hb H1 e1 => ?_) (fun hb H1 e1 => ?_)
  · exact s_retL (el_lst (ea_cons ev_c ea_nil) (by decide)) fun p H2 hp e2 h2 => (hQ1 (of_decide_eq_true hb)).go e1 hp e2 h2
  · have hb := of_decide_eq_false hb
    have hs1 := hs.ex e1
    obtain ⟨dx, pa, pc, ps, hx⟩ := hs1.ins
    have ix : ∀ (k : Nat) (z : Addr), xs[k]? = some z → atI (xs.map V.ref) (k : Int) = some (.ref z) := fun k z hk => atI_nat (by rw [List.getElem?_map, hk]; rfl)
    refine (ev_op (ev_var rfl) (ev_var rfl) (rv_ixL (sq_of (e1 _ _ hc)) (ix j x hj))) H1 (Ex.refl H1) _ fun H2 e2 => ⟨x, dx, _, rfl, e2 _ _ hx, serF_none (by decide +kernel) (by decide +kernel) (by decide +kernel), ?_⟩
    refine (ev_op (ev_var rfl) (ev_var rfl) (rv_ixL (sq_of (e2 _ _ (e1 _ _ hc))) (ix i y hi))) H2 (Ex.refl H2) _ fun H3 e3 => ?_
    have e13 := (e1.trans e2).trans e3
    refine ⟨x, y, F, G, s0, t, rfl, hs.ex e13, ht.ex e13, hne hb, fun H4 hc4 => ?_⟩
    exact s_retL (σ := start N_copy_series [.ref c, nV i, nV j]) (el_lst (ea_cons ev_c ea_nil) (by decide)) fun p H5 hp e5 h5 => hQ2 hb p H5 ((hc4.pre e13).dom p hp) ((hc4.pre e13).ex e5) h5
end
end PR
set_option Elab.async false
set_option linter.all false
set_option maxRecDepth 100000
set_option maxHeartbeats 4000000
namespace PR
open PySem PySem.Spec PyProof.Rows L2 Evl
/-! ### two series -/
section
variable {K : PySem.W.Frag} {σ : L2.St} {H : Hp} {ta tb : TE}
theorem ev_max2' {i j : Int} (ha : Ev ta σ H (.int i)) (hb : Ev tb σ H (.int j)) : Ev (tCB (fun xs H Q => ∃ i j : Int, xs = [V.int i, V.int j] ∧ Q (V.int (if j > i then j else i)) H) (tCons ta (tCons tb tNil))) σ H (.int (max i j)) := fun H1 e Q q =>
  ha H1 e _ fun H2 e2 => hb H2 (e.trans e2) _ fun H3 e3 => ⟨i, j, rfl, by
    have z : (if j > i then j else i) = max i j := by split <;> omega
    rw [z]
    exact q H3 (e2.trans e3)⟩
theorem ev_min2' {i j : Int} (ha : Ev ta σ H (.int i)) (hb : Ev tb σ H (.int j)) : Ev (tCB (fun xs H Q => ∃ i j : Int, xs = [V.int i, V.int j] ∧ Q (V.int (if j < i then j else i)) H) (tCons ta (tCons tb tNil))) σ H (.int (min i j)) := fun H1 e Q q =>
  ha H1 e _ fun H2 e2 => hb H2 (e.trans e2) _ fun H3 e3 => ⟨i, j, rfl, by
    have z : (if j < i then j else i) = min i j := by split <;> omega
    rw [z]
    exact q H3 (e2.trans e3)⟩
end
/-- what stands at a place, as the program keeps it -/
def spPair (K : PySem.W.Frag) (C : Vbemaz.Series → Vbemaz.Series → Nat → Prop) (f : Vbemaz.Series → Vbemaz.Series → Nat → Bool) : Sp := fun vs H Q _ => ∃ (x y : Addr) (F G : List Addr) (s t : Vbemaz.Series) (k : Nat), vs = [.ref x, .ref y, nV k] ∧ Ser (cSer K) H x F s ∧ Ser (cSer K) H y G t ∧ C s t k ∧ RetV (.bl (f s t k)) H Q
abbrev spDifferAt (K : PySem.W.Frag) : Sp := spPair K (fun s t k => k < max s.added.length t.added.length) (fun s t k => (Vbemaz.now s)[k]? != (Vbemaz.now t)[k]?)
abbrev spToFill (K : PySem.W.Frag) : Sp := spPair K (fun s t k => k < min s.added.length t.added.length) (fun s t k => (Vbemaz.now s).getD k none == none && ((Vbemaz.now t).getD k none).isSome)
def spDiffer (K : PySem.W.Frag) : Sp := fun vs H Q _ => ∃ (x y : Addr) (F G : List Addr) (s t : Vbemaz.Series) (i : Nat), vs = [.ref x, .ref y, nV i] ∧ Ser (cSer K) H x F s ∧ Ser (cSer K) H y G t ∧ i ≤ 1000 ∧ RetL ((aDiffer s t i).map V.int) H Q
def spFill (K : PySem.W.Frag) : Sp := fun vs H Q _ => ∃ (x y : Addr) (F G : List Addr) (s t : Vbemaz.Series), vs = [.ref x, .ref y] ∧ Ser (cSer K) H x F s ∧ Ser (cSer K) H y G t ∧ ((x = y ∧ s = t) ∨ (x ≠ y ∧ ∀ b, b ∈ G → b ∉ F)) ∧ RetC K x F (cFill s t).1 (cFill s t).2 H Q
section
variable {K : PySem.W.Frag} {H : Hp} {x y : Addr} {F G : List Addr} {s t : Vbemaz.Series} {k : Nat}
theorem sv_pair {C : Vbemaz.Series → Vbemaz.Series → Nat → Prop} {f : Vbemaz.Series → Vbemaz.Series → Nat → Bool} (h : Ser (cSer K) H x F s) (h2 : Ser (cSer K) H y G t) (hc : C s t k) : SpV (spPair K C f) [.ref x, .ref y, nV k] H (.bl (f s t k)) := fun H1 e _ q _ => ⟨x, y, F, G, s, t, k, rfl, h.ex e, h2.ex e, hc, q⟩
end
theorem dec_none (v : Vbemaz.Val) [d : Decidable (v = none)] : decide (v = none) = (v == none) := by
  cases v with
  | none => simp
  | some x => simp
theorem not_dec_none (v : Vbemaz.Val) [d : Decidable (v = none)] : (!decide (v = none)) = v.isSome := by
  cases v with
  | none => simp
  | some x => simp
theorem now_getq {s : Vbemaz.Series} {k : Nat} (hk : k < s.added.length) : (Vbemaz.now s)[k]? = some ((Vbemaz.now s).getD k none) := by
  have h : k < (Vbemaz.now s).length := by rw [now_len]; exact hk
  rw [List.getD_eq_getElem?_getD, List.getElem?_eq_getElem h]
  rfl
section
variable {P : Program} {w : World} {K : PySem.W.Frag} {mg : Str → Option Value} {base : Heap}
theorem ok_differ_at (T : Top K w mg) : Def P w K mg base "differ_at" 2 ["series", "other", "place"] (spDifferAt K) := by
  obtain ⟨fd_Series_has_place, G_Series_has_place, b_Series_has_place⟩ := ok_Series_has_place (P := P) (w := w) (base := base) T
  obtain ⟨fd, F⟩ := T.f_differ_at
  refine ⟨fd, F.ok sc_differ_at (fun vs H Q E h => by obtain ⟨_, _, _, _, _, _, _, rfl, _⟩ := h; rfl) (fun cdv A outer s H vs Q E hr h => ⟨_, PSs.nox (pss_cons (ps_if (PW.pt (pw_or (pt_not (pt_val (pe_meth (pv 0) T.cl_Series T.m_Series_has_place G_Series_has_place (hr.mono (by decide)) b_Series_has_place .nil pass0 (pa_cons (pv 2) pa_nil)))) (pw_or1 (pt_not (pt_val (pe_meth (pv 1) T.cl_Series T.m_Series_has_place G_Series_has_place (hr.mono (by decide)) b_Series_has_place .nil pass0 (pa_cons (pv 2) pa_nil))))))) (pss_one (ps_ret pe_bl)) pss_nil)
      (pss_one (ps_ret (pe_cmpR op_ne (pe_ix (ix_listK (K := K) rfl) (pe_fldK (K := K) rfl (pv 0) rfl) (pv 2) (fun _ _ => rfl)) (pe_ix (ix_listK (K := K) rfl) (pe_fldK (K := K) rfl (pv 1) rfl) (pv 2) (fun _ _ => rfl)) (nomark _))))), ?_⟩), F.bindsN (fun _ _ _ _ _ _ us hl => match us, hl with | [_, _, _], _ => rfl), F.kp, T.g_differ_at⟩
  obtain ⟨x, y, F, G, s0, t0, k, rfl, hs, ht, hk, hQ⟩ := h
  refine q_when (et_or (et_not (et_B (ev_serM hs (ev_var rfl) (ea_cons (ev_var rfl) ea_nil) (sv_has hs)))) (fun _ => et_not (et_B (ev_serM ht (ev_var rfl) (ea_cons (ev_var rfl) ea_nil) (sv_has ht))))) (fun hb H1 e1 => ?_) (fun hb H1 e1 => ?_)
  · have hb : ¬ k < s0.added.length ∨ ¬ k < t0.added.length := by simpa using hb
    have hlk : k < max s0.added.length t0.added.length := hk
    have e : ((Vbemaz.now s0)[k]? != (Vbemaz.now t0)[k]?) = true := by
      rw [bne_iff_ne]
      intro z
      rcases hb with hb | hb
      · rw [List.getElem?_eq_none (by rw [now_len]; omega), now_getq (by omega)] at z
        cases z
      · rw [now_getq (s := s0) (by omega), List.getElem?_eq_none (by rw [now_len]; omega)] at z
        cases z
    have hQ : RetV (.bl ((Vbemaz.now s0)[k]? != (Vbemaz.now t0)[k]?)) H Q := hQ
    rw [e] at hQ
    exact s_ret ev_c fun H2 e2 => hQ.go (e1.trans e2)
  · have hb : k < s0.added.length ∧ k < t0.added.length := by simpa using hb
    have hs1 := hs.ex e1
    have ht1 := ht.ex e1
    obtain ⟨ps, es, hps⟩ := ev_standing (σ := start N_differ_at [.ref x, .ref y, nV k]) T.cl_Series T.n_Series_standing hs1 (ta := tVar 0) (ev_var rfl)
    obtain ⟨qs, eq, hqs⟩ := ev_standing (σ := start N_differ_at [.ref x, .ref y, nV k]) T.cl_Series T.n_Series_standing ht1 (ta := tVar 1) (ev_var rfl)
    obtain ⟨na, nm⟩ := now_at hb.1
    obtain ⟨ma, mm⟩ := now_at hb.2
    refine s_ret (ev_is (w := .bl ((Vbemaz.now s0)[k]? != (Vbemaz.now t0)[k]?)) (ev_op (ev_op es (ev_var rfl) (rv_ixL (sq_of hps) (atI_nat na))) (ev_op eq (ev_var rfl) (rv_ixL (sq_of hqs) (atI_nat ma))) (rv_ne rfl)) ?_) fun H2 e2 => hQ.go (e1.trans e2)
    have gi := gv_inj (fun z hz => now_ok hs.good z (by rw [← hz]; exact nm)) (fun z hz => now_ok ht.good z (by rw [← hz]; exact mm))
    show V.bl _ = V.bl _
    rw [now_getq hb.1, now_getq hb.2]
    congr 1
    by_cases z : (Vbemaz.now s0).getD k none = (Vbemaz.now t0).getD k none
    · rw [z]; simp
    · rw [decide_eq_false (fun q => z (gi.mp q))]
      symm
      rw [Bool.not_false, bne_iff_ne]
      exact fun q => z (Option.some.inj q)
theorem ok_first_difference (T : Top K w mg) : Def P w K mg base "first_difference" 3 ["series", "other", "start"] (spDiffer K) := by
  obtain ⟨fd_differ_at, G_differ_at, b_differ_at, k_differ_at, g_differ_at⟩ := ok_differ_at (P := P) (w := w) (base := base) T
  obtain ⟨fd_Series_place_count, G_Series_place_count, b_Series_place_count⟩ := ok_Series_place_count (P := P) (w := w) (base := base) T
  obtain ⟨fd, F⟩ := T.f_first_difference
  refine ⟨fd, F.ok sc_first_difference (fun vs H Q E h => by obtain ⟨_, _, _, _, _, _, _, rfl, _⟩ := h; rfl) (fun cdv A outer s H vs Q E hr h => ⟨_, PSs.nox (pss_cons (ps_for PassesOwn.never rfl (pi_range2 rfl T.b_range (pa_cons (pv 2) (pa_cons (pe_callB (call_max2 rfl) (by rfl) T.b_max (by decide +kernel) (pa_cons (pe_meth0 (pv 0) T.cl_Series T.m_Series_place_count G_Series_place_count (hr.mono (by decide)) b_Series_place_count .nil pass0) (pa_cons (pe_meth0 (pv 1) T.cl_Series T.m_Series_place_count G_Series_place_count (hr.mono (by decide)) b_Series_place_count .nil pass0) pa_nil))) pa_nil))) (pg_name (i := 3) sc_first_difference.nd rfl (Or.inl rfl)) (pss_one (ps_if (pt_val (pe_call G_differ_at (hr.mono (by decide)) rfl g_differ_at k_differ_at b_differ_at .nil pass0 (pa_cons (pv 0) (pa_cons (pv 1) (pa_cons (pv 3) pa_nil))))) (pss_one (ps_ret (pe_lst (pa_cons pe_int (pa_cons (pv 3) pa_nil))))) pss_nil)))
      (pss_one (ps_ret (pe_lst (pa_cons pe_int (pa_cons (pe_un un_neg pe_int) pa_nil)))))), ?_⟩), F.bindsN (fun _ _ _ _ _ _ us hl => match us, hl with | [_, _, _], _ => rfl), F.kp, T.g_first_difference⟩
  obtain ⟨x, y, F, G, s0, t0, i, rfl, hs, ht, hi, hQ⟩ := h
  have hla := hs.good.la
  have hlb := ht.good.la
  refine q_forR2 (lo := (i : Int)) (n := ((max s0.added.length t0.added.length : Nat) : Int)) (ea_cons (ev_var rfl) (ea_cons (ev_is (ev_max2' (ev_serM hs (ev_var rfl) ea_nil (sv_count hs)) (ev_serM ht (ev_var rfl) ea_nil (sv_count ht))) (show V.int _ = V.int _ by congr 1; omega)) ea_nil)) (by omega)
    (fun j σ' H' => ∃ v, σ' = [some (.ref x), some (.ref y), some (nV i), v] ∧ Ex H H' ∧ ∀ m, m < j → (Vbemaz.now s0)[i + m]? = (Vbemaz.now t0)[i + m]?) (fun H1 e1 => ⟨none, rfl, e1, fun m hm => by omega⟩) ?_ ?_
  · rintro j σ' H' hj ⟨v, rfl, e1, h0⟩
    have hlt : i + j < max s0.added.length t0.added.length := by omega
    have hcast : (i : Int) + (j : Int) = ((i + j : Nat) : Int) := by omega
    have hs1 := hs.ex e1
    have ht1 := ht.ex e1
    rw [hcast]
    refine s_when (σ := [some (.ref x), some (.ref y), some (nV i), some (nV (i + j))]) (et_B (ev_call (ea_cons (ev_var rfl) (ea_cons (ev_var rfl) (ea_cons (ev_var rfl) ea_nil))) (sv_pair hs1 ht1 hlt))) (fun hb H2 e2 => ?_) (fun hb H2 e2 => ?_)
    · have hb : (Vbemaz.now s0)[i + j]? ≠ (Vbemaz.now t0)[i + j]? := bne_iff_ne.mp hb
      rw [aDiffer_some hlt hb h0] at hQ
      exact s_retL (σ := [some (.ref x), some (.ref y), some (nV i), some (nV (i + j))]) (el_lst (ea_cons ev_c (ea_cons (ev_var rfl) ea_nil)) (show 2 ≤ 100000 by decide)) fun p H3 hp e3 h3 => hQ.go (e1.trans e2) hp e3 h3
    · refine ⟨some (nV (i + j)), rfl, e1.trans e2, fun m hm => ?_⟩
      by_cases z : m = j
      · subst z
        simpa using hb
      · exact h0 m (by omega)
  · rintro σ' H' ⟨v, rfl, e1, h0⟩
    have e : aDiffer s0 t0 i = [0, -1] := aDiffer_none fun j hj => h0 j (by omega)
    rw [e] at hQ
    exact s_retL (σ := [some (.ref x), some (.ref y), some (nV i), v]) (el_lst (ea_cons ev_c (ea_cons (ev_un ev_c ru_neg) ea_nil)) (show 2 ≤ 100000 by decide)) fun p H3 hp e3 h3 => hQ.go e1 hp e3 h3
theorem ok_is_to_fill (T : Top K w mg) : Def P w K mg base "is_to_fill" 1 ["series", "other", "place"] (spToFill K) := by
  obtain ⟨_, c_GAP⟩ := T.c_GAP
  obtain ⟨fd, F⟩ := T.f_is_to_fill
  refine ⟨fd, F.ok sc_is_to_fill (fun vs H Q E h => by obtain ⟨_, _, _, _, _, _, _, rfl, _⟩ := h; rfl) (fun cdv A outer s H vs Q E hr h => ⟨_, PSs.nox (pss_one (ps_ret (pe_and (pe_cmpR op_eq (pe_ix (ix_listK (K := K) rfl) (pe_fldK (K := K) rfl (pv 0) rfl) (pv 2) (fun _ _ => rfl)) (pe_glob (v := .int (2000000000)) rfl c_GAP ⟨_, rfl⟩) (nomark _)) (pe_one (pe_cmpR op_ne (pe_ix (ix_listK (K := K) rfl) (pe_fldK (K := K) rfl (pv 1) rfl) (pv 2) (fun _ _ => rfl)) (pe_glob (v := .int (2000000000)) rfl c_GAP ⟨_, rfl⟩) (nomark _)))))), ?_⟩), F.bindsN (fun _ _ _ _ _ _ us hl => match us, hl with | [_, _, _], _ => rfl), F.kp, T.g_is_to_fill⟩
  obtain ⟨x, y, F, G, s0, t0, k, rfl, hs, ht, hk, hQ⟩ := h
  have hk : k < min s0.added.length t0.added.length := hk
  obtain ⟨ps, es, hps⟩ := ev_standing (σ := start N_is_to_fill [.ref x, .ref y, nV k]) T.cl_Series T.n_Series_standing hs (ta := tVar 0) (ev_var rfl)
  obtain ⟨qs, eq, hqs⟩ := ev_standing (σ := start N_is_to_fill [.ref x, .ref y, nV k]) T.cl_Series T.n_Series_standing ht (ta := tVar 1) (ev_var rfl)
  obtain ⟨na, nm⟩ := now_at (s := s0) (k := k) (by omega)
  obtain ⟨ma, mm⟩ := now_at (s := t0) (k := k) (by omega)
  have g1 := gv_inj (v := none) (fun z hz => now_ok hs.good z (by rw [← hz]; exact nm)) (fun z hz => nomatch hz)
  have g2 := gv_inj (v := none) (fun z hz => now_ok ht.good z (by rw [← hz]; exact mm)) (fun z hz => nomatch hz)
  refine s_ret (ev_is (w := .bl ((Vbemaz.now s0).getD k none == none && ((Vbemaz.now t0).getD k none).isSome)) (ev_andV (ev_op (ev_op es (ev_var rfl) (rv_ixL (sq_of hps) (atI_nat na))) ev_c (rv_eq rfl)) (fun _ => ev_op (ev_op eq (ev_var rfl) (rv_ixL (sq_of hqs) (atI_nat ma))) ev_c (rv_ne rfl))) ?_) fun H2 e2 => hQ.go e2
  show V.bl _ = V.bl _
  congr 1
  congr 1
  · show decide (gv ((Vbemaz.now s0).getD k none) = gv none) = _
    rw [decide_eq_decide.mpr g1]
    exact dec_none _
  · show (!decide (gv ((Vbemaz.now t0).getD k none) = gv none)) = _
    rw [decide_eq_decide.mpr g2]
    exact not_dec_none _
theorem ok_fill_gaps (T : Top K w mg) : Def P w K mg base "fill_gaps" 2 ["series", "other"] (spFill K) := by
  obtain ⟨fd_is_to_fill, G_is_to_fill, b_is_to_fill, k_is_to_fill, g_is_to_fill⟩ := ok_is_to_fill (P := P) (w := w) (base := base) T
  obtain ⟨fd_Series_place_count, G_Series_place_count, b_Series_place_count⟩ := ok_Series_place_count (P := P) (w := w) (base := base) T
  obtain ⟨fd_Series_correction_count, G_Series_correction_count, b_Series_correction_count⟩ := ok_Series_correction_count (P := P) (w := w) (base := base) T
  obtain ⟨fd_Series_correct, G_Series_correct, b_Series_correct⟩ := ok_Series_correct (P := P) (w := w) (base := base) T
  obtain ⟨_, c_MOST_CORRECTIONS⟩ := T.c_MOST_CORRECTIONS
  obtain ⟨_, c_FULL⟩ := T.c_FULL
  obtain ⟨fd, F⟩ := T.f_fill_gaps
  refine ⟨fd, F.ok sc_fill_gaps (fun vs H Q E h => by obtain ⟨_, _, _, _, _, _, rfl, _⟩ := h; rfl) (fun cdv A outer s H vs Q E hr h => ⟨_, PSs.nox (pss_cons (ps_set (i := 2) sc_fill_gaps.nd rfl (Or.inl rfl) (pe_callB (call_min2 rfl) (by rfl) T.b_min (by decide +kernel) (pa_cons (pe_meth0 (pv 0) T.cl_Series T.m_Series_place_count G_Series_place_count (hr.mono (by decide)) b_Series_place_count .nil pass0) (pa_cons (pe_meth0 (pv 1) T.cl_Series T.m_Series_place_count G_Series_place_count (hr.mono (by decide)) b_Series_place_count .nil pass0) pa_nil))))
      (pss_cons (ps_setLc (i := 4) (own := [("place", 3)]) (g := gName 3) rfl sc_fill_gaps.nd rfl rfl (sw_true rfl rfl rfl (by decide +kernel)) (pi_range1 rfl T.b_range (pa_cons (pv 2) pa_nil)) (blkOk_by (own := [("place", 3)]) (N := N_fill_gaps) (sc := defScope st_fill_gaps) (by decide +kernel)) (fun _ _ _ _ _ => pg_name (i := 3) sc_fill_gaps.nd rfl (Or.inl rfl)) (fun _ _ _ _ _ => (pts_one (pt_val (pe_call G_is_to_fill (hr.mono (by decide)) rfl g_is_to_fill k_is_to_fill b_is_to_fill .nil pass0 (pa_cons (pv 0) (pa_cons (pv 1) (pa_cons (pv 3) pa_nil))))))) (fun _ _ _ _ _ => (pv 3)))
      (pss_cons (ps_if (pt_cmpR op_gt (pe_op op_add (pe_meth0 (pv 0) T.cl_Series T.m_Series_correction_count G_Series_correction_count (hr.mono (by decide)) b_Series_correction_count .nil pass0) (pe_callB (call_lenK (K := K) rfl) (by rfl) T.b_len PySem.boot_len (pa_cons (pv 4) pa_nil))) (pe_glob (v := .int (60)) rfl c_MOST_CORRECTIONS ⟨_, rfl⟩) (nomark _)) (pss_one (ps_ret (pe_lst (pa_cons (pe_glob (v := .int (-5)) rfl c_FULL ⟨_, rfl⟩) pa_nil)))) pss_nil)
      (pss_cons (ps_for PassesOwn.never rfl (pi_list (pv 4)) (pg_name (i := 3) sc_fill_gaps.nd rfl (Or.inl rfl)) (pss_one (ps_expr (pe_meth (pv 0) T.cl_Series T.m_Series_correct G_Series_correct (hr.mono (by decide)) b_Series_correct .nil pass0 (pa_cons (pv 3) (pa_cons (pe_ix (ix_listK (K := K) rfl) (pe_fldK (K := K) rfl (pv 1) rfl) (pv 3) (fun _ _ => rfl)) pa_nil))))))
      (pss_one (ps_ret (pe_lst (pa_cons pe_int (pa_cons (pe_callB (call_lenK (K := K) rfl) (by rfl) T.b_len PySem.boot_len (pa_cons (pv 4) pa_nil)) pa_nil))))))))), ?_⟩), F.bindsN (fun _ _ _ _ _ _ us hl => match us, hl with | [_, _], _ => rfl), F.kp, T.g_fill_gaps⟩
  obtain ⟨x, y, F, G, s0, t0, rfl, hs, ht, hxy, hQ⟩ := h
  have hla := hs.good.la
  have hlb := ht.good.la
  have hlf := hs.good.lf
  have hlen : (fillsTo (Vbemaz.now s0) (Vbemaz.now t0) (min s0.added.length t0.added.length)).length ≤ 400 := by
    unfold fillsTo
    rw [List.length_map]
    have := List.length_filter_le (fun k => (Vbemaz.now s0).getD k none == none && ((Vbemaz.now t0).getD k none).isSome) (List.range (min s0.added.length t0.added.length))
    rw [List.length_range] at this
    omega
  refine q_asg (ev_is (ev_min2' (ev_serM hs (ev_var rfl) ea_nil (sv_count hs)) (ev_serM ht (ev_var rfl) ea_nil (sv_count ht))) (show V.int _ = nV (min s0.added.length t0.added.length) by show V.int _ = V.int _; congr 1; omega)) fun H1 e1 => ?_
  have hs1 := hs.ex e1
  have ht1 := ht.ex e1
  refine q_asgL (σ := [some (.ref x), some (.ref y), some (nV (min s0.added.length t0.added.length)), none, none]) (el_is (el_lcR1 (n := ((min s0.added.length t0.added.length : Nat) : Int)) (fun k => (Vbemaz.now s0).getD k none == none && ((Vbemaz.now t0).getD k none).isSome) (fun k => nV k) (ea_cons (ev_var rfl) ea_nil) (by omega) (fun _ => rfl)
    (fun k H2 e2 hk => et_B (ev_call (ea_cons (ev_var rfl) (ea_cons (ev_var rfl) (ea_cons (ev_var rfl) ea_nil))) (sv_pair (hs1.ex e2) (ht1.ex e2) (by show k < min s0.added.length t0.added.length; omega)))) (fun k H2 e2 hk _ => ev_var rfl)) (ys := (fillsTo (Vbemaz.now s0) (Vbemaz.now t0) (min s0.added.length t0.added.length)).map fun f => nV f.1) ?_) fun p H2 hp e2 h2 => ?_
  · unfold given fillsTo
    rw [Int.toNat_natCast, List.map_map]
    rfl
  rw [← fills_shared] at hlen h2
  have hs2 := hs1.ex e2
  have ht2 := ht1.ex e2
  refine q_when (σ := [some (.ref x), some (.ref y), some (nV (min s0.added.length t0.added.length)), none, some (.ref p)]) (et_is (et_test (ev_op (ev_op (ev_serM hs2 (ev_var rfl) ea_nil (sv_fixes hs2)) (ev_lenS (ea_cons (ev_var rfl) ea_nil) (sq_of h2)) rv_I0) ev_c rv_I0)) (show _ = decide (60 < s0.fixes.length + (fills s0 t0).length) from decide_eq_decide.mpr (by rw [List.length_map]; omega))) (fun hb H3 e3 => ?_) (fun hb H3 e3 => ?_)
  · have hb := of_decide_eq_true hb
    have e : cFill s0 t0 = (s0, [-5]) := if_pos hb
    rw [e] at hQ
    exact s_retL (σ := [some (.ref x), some (.ref y), some (nV (min s0.added.length t0.added.length)), none, some (.ref p)]) (el_lst (ea_cons ev_c ea_nil) (by decide)) fun q H4 hq e4 h4 => hQ q H4 (fresh_back ((e1.trans e2).trans e3) hq) (chg_same hs (((e1.trans e2).trans e3).trans e4)) h4
  · have hb := of_decide_eq_false hb
    have e : cFill s0 t0 = ({ s0 with fixes := s0.fixes ++ fills s0 t0 }, [0, ((fills s0 t0).length : Int)]) := if_neg hb
    rw [e] at hQ
    have e13 := (e1.trans e2).trans e3
    have hpH : H p = none := fresh_back e1 hp
    have hpx : p ≠ x := by
      obtain ⟨dx, pa, pc, ps, hx⟩ := hs.ins
      exact (ne_of_none hx hpH).symm
    have hpF : p ∉ F := by
      intro z
      obtain ⟨l, hl⟩ := hs.kinds.2 p z
      rw [hpH] at hl
      cases hl
    refine q_forLn (σ := [some (.ref x), some (.ref y), some (nV (min s0.added.length t0.added.length)), none, some (.ref p)]) (ev_var rfl) (sq_of (e3 _ _ h2))
      (fun j σ' H' => ∃ v, σ' = [some (.ref x), some (.ref y), some (nV (min s0.added.length t0.added.length)), v, some (.ref p)] ∧ H' p = some (.lst ((fills s0 t0).map fun f => nV f.1)) ∧ ∃ F1, Ser (cSer K) H' x F1 { s0 with fixes := s0.fixes ++ (fills s0 t0).take j } ∧ Keep H H' x F ∧ (∀ b ∈ F1, b ∈ F ∨ H b = none) ∧ (∀ b ∈ F1, b ≠ p) ∧ Dom H H')
      (fun H4 e4 => ⟨none, rfl, e4 _ _ (e3 _ _ h2), F, by simpa using hs.ex (e13.trans e4), fun b o hb1 _ _ => (e13.trans e4) _ _ hb1, fun b hb1 => .inl hb1, fun b hb1 z => hpF (by rw [← z]; exact hb1), Dom.ex (e13.trans e4)⟩) (fun j σ' H' _ ⟨_, _, h4, _⟩ => sq_of h4) ?_ ?_
    · rintro j v σ' H' hv ⟨u, rfl, h4, F1, hs4, kp, nw, np, dm⟩
      rw [List.getElem?_map] at hv
      obtain ⟨f, hf, rfl⟩ := Option.map_eq_some_iff.mp hv
      have hfm := List.mem_of_getElem? hf
      have hne : x ≠ y ∧ ∀ b, b ∈ G → b ∉ F := by
        rcases hxy with ⟨rfl, rfl⟩ | z
        · rw [fills_self] at hfm
          cases hfm
        · exact z
      obtain ⟨f1, f2, f3, f4⟩ := fillsTo_mem (by unfold fills at hfm; exact hfm)
      have f1b : f.1 < s0.added.length := by rw [now_len] at f1; exact f1
      have f5 : f.1 < t0.added.length := by
        have hz := hfm
        rw [fills_shared] at hz
        have := (fillsTo_mem hz).1
        omega
      obtain ⟨⟨dx, fs, kx⟩, kF⟩ := hs.kinds
      obtain ⟨⟨dy, gs, ky⟩, kG⟩ := ht.kinds
      have ht4 : Ser (cSer K) H' y G t0 := ht.keep kp hne.1.symm (fun z => by obtain ⟨l, hl⟩ := kF y z; rw [ky] at hl; cases hl) (fun b hb1 => ⟨(fun z => by obtain ⟨l, hl⟩ := kG b hb1; rw [z, kx] at hl; cases hl), hne.2 b hb1⟩) kF ⟨_, _, _, kx⟩
      obtain ⟨qs, eq, hqs⟩ := ev_standing (σ := [some (.ref x), some (.ref y), some (nV (min s0.added.length t0.added.length)), some (nV f.1), some (.ref p)]) T.cl_Series T.n_Series_standing ht4 (ta := tVar 1) (ev_var rfl)
      obtain ⟨ma, mm⟩ := now_at f5
      obtain ⟨dx4, pa4, pc4, ps4, hx4⟩ := hs4.ins
      refine ⟨_, rfl, x, dx4, _, rfl, hx4, serF_none (by decide +kernel) (by decide +kernel) (by decide +kernel), _, rfl, ?_⟩
      refine (ev_op eq (ev_var rfl) (rv_ixL (sq_of hqs) (atI_nat ma))) H' (Ex.refl H') _ fun H5 e5 => ?_
      have hjl : j < (fills s0 t0).length := (List.getElem?_eq_some_iff.mp hf).1
      refine ⟨x, F1, _, f.1, (Vbemaz.now t0).getD f.1 none, rfl, hs4.ex e5, f1b, fun z hz => now_ok ht.good z (by rw [← hz]; exact mm), ?_, fun H6 hc6 => ?_⟩
      · show (s0.fixes ++ (fills s0 t0).take j).length < 60
        rw [List.length_append, List.length_take]
        omega
      have hc5 := hc6.pre e5
      have hall : Chg (cSer K) H H6 x F _ := Chg.trans hs4 kp nw dm hc5
      obtain ⟨F6, s6, k6, n6, d6⟩ := hall
      obtain ⟨F7, s7, k7, n7, d7⟩ := hc5
      refine ⟨some (nV f.1), rfl, k7 _ _ h4 hpx (fun z => np p z rfl), F7, ?_, k6, fun b hb1 => ?_, fun b hb1 z => ?_, d6⟩
      · have e9 : s0.fixes ++ (fills s0 t0).take (j + 1) = (s0.fixes ++ (fills s0 t0).take j) ++ [(f.1, (Vbemaz.now t0).getD f.1 none)] := by
          rw [List.take_succ, hf, Option.toList_some, ← f2, List.append_assoc]
        rw [e9]
        exact s7
      · rcases n7 b hb1 with z | z
        · exact nw b z
        · exact .inr (dm b z)
      · rcases n7 b hb1 with q | q
        · exact np b q z
        · rw [z, h4] at q
          cases q
    · rintro σ' H' ⟨u, rfl, h4, F1, hs4, kp, nw, np, dm⟩
      rw [List.length_map, List.take_length] at hs4
      refine s_retL (σ := [some (.ref x), some (.ref y), some (nV (min s0.added.length t0.added.length)), u, some (.ref p)]) (el_lst (ea_cons ev_c (ea_cons (ev_is (ev_lenS (ea_cons (ev_var rfl) ea_nil) (sq_of h4)) (show V.int _ = nV (fills s0 t0).length by rw [List.length_map])) ea_nil)) (show 2 ≤ 100000 by decide)) fun q H5 hq e5 h5 => hQ q H5 (dm q hq) (Chg.ex ⟨F1, hs4, kp, nw, dm⟩ e5) h5
end
end PR
set_option Elab.async false
set_option linter.all false
set_option maxRecDepth 100000
set_option maxHeartbeats 4000000
namespace PR
open PySem PySem.Spec PyProof.Rows L2 Evl
/-! ### the reader of bits -/
abbrev btF (a : Addr) (i : Nat) : List (Str × V) := [("bits", .ref a), ("at", nV i)]
theorem btF_bits {a : Addr} {i : Nat} : (btF a i).lookup ("bits" : Str) = some (.ref a) := lk_here
theorem btF_at {a : Addr} {i : Nat} : (btF a i).lookup ("at" : Str) = some (nV i) := (lk_past (by decide +kernel)).trans lk_here
theorem btF_none {a : Addr} {i : Nat} {m : Str} (h1 : (m == ("bits" : Str)) = false) (h2 : (m == ("at" : Str)) = false) : (btF a i).lookup m = none := (lk_past h1).trans ((lk_past h2).trans rfl)
theorem btF_put {a : Addr} {i : Nat} {y : V} : putF "at" y (btF a i) = ([("bits", .ref a), ("at", y)] : List (Str × V)) := (put_past (by decide +kernel)).trans (congrArg _ put_here)
theorem btF_new {a : Addr} : putF "at" (nV 0) (putF "bits" (.ref a) []) = btF a 0 := (put_past (by decide +kernel)).trans rfl
abbrev cBt (K : PySem.W.Frag) : Addr := He.ga K "BitReader"
/-- a reader of bs, at i -/
structure BtAt (K : PySem.W.Frag) (H : Hp) (x a : Addr) (bs : Vbemaz.Bits) (i : Nat) : Prop where
  ins : ∃ dx, H x = some (.ins (cBt K) dx (btF a i))
  bit : H a = some (.lst (bs.map bV))
  le : i ≤ bs.length
theorem BtAt.ex {K : PySem.W.Frag} {H H' : Hp} {x a : Addr} {bs : Vbemaz.Bits} {i : Nat} (h : BtAt K H x a bs i) (e : Ex H H') : BtAt K H' x a bs i := by
  obtain ⟨dx, hx⟩ := h.ins
  exact ⟨⟨dx, e _ _ hx⟩, e _ _ h.bit, h.le⟩
theorem BtAt.isIns {K : PySem.W.Frag} {H : Hp} {x a : Addr} {bs : Vbemaz.Bits} {i : Nat} (h : BtAt K H x a bs i) : ∃ C dx fs, H x = some (.ins C dx fs) := by
  obtain ⟨dx, hx⟩ := h.ins
  exact ⟨_, dx, _, hx⟩
/-- the class of what is raised -/
def excOf (K : PySem.W.Frag) (e : Nat) : Value := if e = 1 then .ref (He.ga K "BitsLack") else .ref (He.ga K "WrongNumber")
/-- what follows a reading p at i: of its value, of what is raised -/
structure Out {α : Type} (K : PySem.W.Frag) (x a : Addr) (bs : Vbemaz.Bits) (p : Vbemaz.R α) (i : Nat) (H : Hp) (Q : α → Nat → Hp → Prop) (E : XK) : Prop where
  ok : ∀ v i', p (bs.drop i) = .ok (v, bs.drop i') → ∀ H', But H H' x → BtAt K H' x a bs i' → Q v i' H'
  err : ∀ e, p (bs.drop i) = .error e → ∀ H', But H H' x → E (excOf K e) none H'
section
variable {α β : Type} {K : PySem.W.Frag} {x a : Addr} {bs : Vbemaz.Bits} {i i1 : Nat} {H H1 : Hp} {E : XK}
theorem Out.bind {p : Vbemaz.R α} {f : α → Vbemaz.R β} {Q : β → Nat → Hp → Prop} (h : Out K x a bs (p >>= f) i H Q E) {v : α} (hp : p (bs.drop i) = .ok (v, bs.drop i1)) (k : But H H1 x) : Out K x a bs (f v) i1 H1 Q E := by
  have e : (p >>= f) (bs.drop i) = f v (bs.drop i1) := by rw [bindR, hp]
  exact ⟨fun w i' hw H' k' r' => h.ok w i' (e.trans hw) H' (k.trans k') r', fun er hw H' k' => h.err er (e.trans hw) H' (k.trans k')⟩
theorem Out.fail {p : Vbemaz.R α} {f : α → Vbemaz.R β} {Q : β → Nat → Hp → Prop} (h : Out K x a bs (p >>= f) i H Q E) {e : Nat} (hp : p (bs.drop i) = .error e) (k : But H H1 x) : E (excOf K e) none H1 :=
  h.err e (by rw [bindR, hp]) H1 k
theorem Out.is {p q : Vbemaz.R α} {Q : α → Nat → Hp → Prop} (h : Out K x a bs p i H Q E) (e : p (bs.drop i) = q (bs.drop i)) : Out K x a bs q i H Q E := ⟨fun v i' hv => h.ok v i' (e.trans hv), fun er hv => h.err er (e.trans hv)⟩
theorem Out.ex {p : Vbemaz.R α} {Q : α → Nat → Hp → Prop} (h : Out K x a bs p i H Q E) (e : But H H1 x) : Out K x a bs p i H1 Q E := ⟨fun v i' hv H' k => h.ok v i' hv H' (e.trans k), fun er hv H' k => h.err er hv H' (e.trans k)⟩
/-- what is read is at hand -/
theorem Out.done {v : α} {Q : α → Nat → Hp → Prop} (h : Out K x a bs (pure v : Vbemaz.R α) i H Q E) (k : But H H1 x) (r : BtAt K H1 x a bs i) : Q v i H1 := h.ok v i (pureR v _) H1 k r
theorem Out.given {v : α} {Q : α → Nat → Hp → Prop} (h : Out K x a bs (Vbemaz.give v) i H Q E) (k : But H H1 x) (r : BtAt K H1 x a bs i) : Q v i H1 := h.ok v i (giveR v _) H1 k r
end
/-- a value, a new list -/
abbrev QV {α : Type} (φ : α → V) (Q : VK) : α → Nat → Hp → Prop := fun v _ H' => Q (φ v) H'
def QL {α : Type} (H : Hp) (φ : α → List V) (Q : VK) : α → Nat → Hp → Prop := fun v _ H' => ∀ p, H p = none → H' p = some (.lst (φ v)) → Q (.ref p) H'
/-- a method that reads: its other arguments us -/
def spBt {α : Type} (K : PySem.W.Frag) (us : List V) (C : Prop) (p : Vbemaz.R α) (φ : α → V) : Sp := fun vs H Q E => ∃ (x a : Addr) (bs : Vbemaz.Bits) (i : Nat), vs = .ref x :: us ∧ C ∧ BtAt K H x a bs i ∧ Out K x a bs p i H (QV φ Q) E
def spBtInit (K : PySem.W.Frag) : Sp := fun vs H Q _ => ∃ (x a dx : Addr) (bs : Vbemaz.Bits), vs = [.ref x, .ref a] ∧ H x = some (.ins (cBt K) dx []) ∧ H a = some (.lst (bs.map bV)) ∧ ∀ H', But H H' x → BtAt K H' x a bs 0 → Q .non H'
def spBtLeft (K : PySem.W.Frag) : Sp := fun vs H Q _ => ∃ (x a : Addr) (bs : Vbemaz.Bits) (i : Nat), vs = [.ref x] ∧ BtAt K H x a bs i ∧ RetL ((bs.drop i).map bV) H Q
def spUnfolded : Sp := fun vs H Q _ => ∃ n : Nat, vs = [nV n] ∧ RetV (.int (Vbemaz.unzigzag n)) H Q
abbrev spBit (K : PySem.W.Frag) : Sp := spBt K [] True bitR bV
def spDigits (K : PySem.W.Frag) : Sp := fun vs H Q E => ∃ (x a : Addr) (bs : Vbemaz.Bits) (i h c : Nat), vs = [.ref x, nV h, nV c] ∧ c ≤ 1000 ∧ BtAt K H x a bs i ∧ Out K x a bs (digitsR h c) i H (QV nV Q) E
def spInB (K : PySem.W.Frag) : Sp := fun vs H Q E => ∃ (x a : Addr) (bs : Vbemaz.Bits) (i c : Nat), vs = [.ref x, nV c] ∧ c ≤ 1000 ∧ BtAt K H x a bs i ∧ Out K x a bs (Vbemaz.number c) i H (QV nV Q) E
def spFoldB (K : PySem.W.Frag) : Sp := fun vs H Q E => ∃ (x a : Addr) (bs : Vbemaz.Bits) (i c : Nat), vs = [.ref x, nV c] ∧ c ≤ 1000 ∧ BtAt K H x a bs i ∧ Out K x a bs (foldR c) i H (QV V.int Q) E
abbrev spSelf (K : PySem.W.Frag) : Sp := spBt K [] True Vbemaz.readGamma nV
abbrev spZig (K : PySem.W.Frag) : Sp := spBt K [] True Vbemaz.readZig V.int
theorem BtAt.upd {K : PySem.W.Frag} {H : Hp} {x a dx : Addr} {bs : Vbemaz.Bits} {i i' : Nat} (h : BtAt K H x a bs i) (hx : H x = some (.ins (cBt K) dx (btF a i))) (hi : i' ≤ bs.length) : BtAt K (upd H x (.ins (cBt K) dx (btF a i'))) x a bs i' :=
  ⟨⟨dx, upd_same⟩, by rw [upd_ne (ne_of h.bit hx (by intro z; cases z))]; exact h.bit, hi⟩
theorem sv_unfolded {H : Hp} {n : Nat} : SpV spUnfolded [nV n] H (.int (Vbemaz.unzigzag n)) := fun H1 e _ q _ => ⟨n, rfl, q⟩
section
variable {P : Program} {w : World} {K : PySem.W.Frag} {mg : Str → Option Value} {base : Heap}
theorem ok_unfolded (T : Top K w mg) : Def P w K mg base "unfolded" 1 ["number"] spUnfolded := by
  obtain ⟨fd, F⟩ := T.f_unfolded
  refine ⟨fd, F.ok sc_unfolded (fun vs H Q E h => by obtain ⟨_, rfl, _⟩ := h; rfl) (fun cdv A outer s H vs Q E hr h => ⟨_, PSs.nox (pss_cons (ps_if (pt_cmpR op_eq (pe_op op_mod (pv 0) pe_int) pe_int (nomark _)) (pss_one (ps_ret (pe_op op_fdiv (pv 0) pe_int))) pss_nil)
      (pss_one (ps_ret (pe_op op_fdiv (pe_un un_neg (pe_op op_add (pv 0) pe_int)) pe_int)))), ?_⟩), F.bindsN (fun _ _ _ _ _ _ us hl => match us, hl with | [_], _ => rfl), F.kp, T.g_unfolded⟩
  obtain ⟨n, rfl, hQ⟩ := h
  refine q_when (et_is (et_test (ev_op (ev_op (ev_var rfl) ev_c (rv_I (show (0 : Int) < 2 by decide))) ev_c (rv_eq rfl))) (show _ = decide (n % 2 = 0) from decide_eq_decide.mpr ⟨fun z => by have := V.int.inj z; omega, fun z => by show V.int _ = V.int _; congr 1; omega⟩)) (fun hb H1 e1 => ?_) (fun hb H1 e1 => ?_)
  · have hb := of_decide_eq_true hb
    refine s_ret (ev_is (ev_op (ev_var rfl) ev_c (rv_I ⟨by decide, by decide⟩)) ?_) fun H2 e2 => hQ.go (e1.trans e2)
    show V.int _ = V.int _
    unfold Vbemaz.unzigzag
    rw [if_pos hb]
    rfl
  · have hb := of_decide_eq_false hb
    refine s_ret (ev_is (ev_op (ev_un (ev_op (ev_var rfl) ev_c rv_I0) ru_neg) ev_c (rv_I ⟨by decide, by decide⟩)) ?_) fun H2 e2 => hQ.go (e1.trans e2)
    show V.int _ = V.int _
    unfold Vbemaz.unzigzag
    rw [if_neg hb]
    have e : (-((n : Int) + 1)) / 2 = -(((n / 2 : Nat) : Int) + 1) := by omega
    rw [← e]
theorem ok_BitReader___init__ (T : Top K w mg) : DefM P w K mg base "BitReader" "__init__" 1 ["self", "bits"] (spBtInit K) := by
  obtain ⟨fd, F⟩ := T.f_BitReader___init__
  refine ⟨fd, F.ok sc_BitReader___init__ (fun vs H Q E h => by obtain ⟨_, _, _, _, rfl, _⟩ := h; rfl) (fun cdv A outer s H vs Q E hr h => ⟨_, PSs.nox (pss_cons (ps_fld (pv 0) (pv 1) rfl)
      (pss_one (ps_fld (pv 0) pe_int rfl))), ?_⟩), F.bindsN (fun _ _ _ _ _ _ us hl => match us, hl with | [_, _], _ => rfl)⟩
  obtain ⟨x, a, dx, bs, rfl, hx, ha, hQ⟩ := h
  refine ⟨_, rfl, _, rfl, x, _, dx, [], rfl, hx, T.cl_BitReader, T.n_BitReader_bits, show 0 < 1000 by decide, ?_⟩
  refine ⟨_, rfl, x, _, dx, _, rfl, upd_same, T.cl_BitReader, T.n_BitReader_at, show 1 < 1000 by decide, ?_⟩
  have e := btF_new (a := a)
  have nax : a ≠ x := ne_of ha hx (by intro z; cases z)
  refine hQ _ (But.upd.trans But.upd) ⟨⟨dx, by rw [upd_same]; exact congrArg (fun z => some (HO.ins (cBt K) dx z)) e⟩, ?_, Nat.zero_le _⟩
  rw [upd_ne nax, upd_ne nax]
  exact ha
theorem ok_BitReader_bits_left (T : Top K w mg) : DefM P w K mg base "BitReader" "bits_left" 1 ["self"] (spBtLeft K) := by
  obtain ⟨fd, F⟩ := T.f_BitReader_bits_left
  refine ⟨fd, F.ok sc_BitReader_bits_left (fun vs H Q E h => by obtain ⟨_, _, _, _, rfl, _⟩ := h; rfl) (fun cdv A outer s H vs Q E hr h => ⟨_, PSs.nox (pss_one (ps_ret (pe_slice (sl_listK (K := K) rfl) (pe_fldK (K := K) rfl (pv 0) rfl) (po_some (pe_fldK (K := K) rfl (pv 0) rfl)) po_none))), ?_⟩), F.bindsN (fun _ _ _ _ _ _ us hl => match us, hl with | [_], _ => rfl)⟩
  obtain ⟨x, a, bs, i, rfl, hr0, hQ⟩ := h
  obtain ⟨dx, hx⟩ := hr0.ins
  have hle := hr0.le
  have hcut : cutV (bs.map bV) (some (i : Int)) none = (bs.drop i).map bV := by
    unfold cutV
    rw [HT.sIx_nat, HT.sIx_none, List.length_map, Nat.min_eq_left hle, List.take_of_length_le (by rw [List.length_drop, List.length_map]; omega), List.map_drop]
  exact s_retL (el_is (el_sl (ev_fld (ev_var rfl) hx T.cl_BitReader T.n_BitReader_bits btF_bits) (eo_some (ev_fld (ev_var rfl) hx T.cl_BitReader T.n_BitReader_at btF_at)) eo_none (sq_of hr0.bit)) hcut) fun p H1 hp e1 h1 => hQ p H1 hp e1 h1
theorem ok_BitReader_take_bit (T : Top K w mg) : DefMX P w K mg base "BitReader" "take_bit" 1 ["self"] (spBit K) := by
  obtain ⟨fd, F⟩ := T.f_BitReader_take_bit
  refine ⟨fd, F.ok (CX := L2.CX P w) sc_BitReader_take_bit (fun vs H Q E h => by obtain ⟨_, _, _, _, rfl, _⟩ := h; rfl) (fun cdv A outer s H vs Q E hr h => ⟨_, ((pss_cons (ps_if (pt_cmpR op_eq (pe_fldK (K := K) rfl (pv 0) rfl) (pe_callB (call_lenK (K := K) rfl) (by rfl) T.b_len PySem.boot_len (pa_cons (pe_fldK (K := K) rfl (pv 0) rfl) pa_nil)) (nomark _)) (pss_one (ps_raise rfl (takes_of rfl rfl rfl rfl) (pmk_own0 PySem.F.excBase_Exception T.xe_BitsLack T.g_BitsLack T.xk_BitsLack (raises_own T.xb_BitsLack T.xt_BitsLack) rfl))) pss_nil)
      (pss_cons (ps_set (i := 1) sc_BitReader_take_bit.nd rfl (Or.inl rfl) (pe_ix (ix_listK (K := K) rfl) (pe_fldK (K := K) rfl (pv 0) rfl) (pe_fldK (K := K) rfl (pv 0) rfl) (fun _ _ => rfl)))
      (pss_cons (ps_fld (pv 0) (pe_op op_add (pe_fldK (K := K) rfl (pv 0) rfl) pe_int) rfl)
      (pss_one (ps_ret (pv 1))))))), ?_⟩), F.bindsN (fun _ _ _ _ _ _ us hl => match us, hl with | [_], _ => rfl)⟩
  obtain ⟨x, a, bs, i, rfl, _, hr0, hO⟩ := h
  obtain ⟨dx, hx⟩ := hr0.ins
  have hle := hr0.le
  refine q_when (et_is (et_test (ev_op (ev_fld (ev_var rfl) hx T.cl_BitReader T.n_BitReader_at btF_at) (ev_lenS (ea_cons (ev_fld (ev_var rfl) hx T.cl_BitReader T.n_BitReader_bits btF_bits) ea_nil) (sq_of hr0.bit)) (rv_eq rfl))) (show _ = decide (i = bs.length) from decide_eq_decide.mpr ⟨fun z => by have := V.int.inj z; rw [List.length_map] at this; omega, fun z => by show V.int _ = V.int _; rw [List.length_map, z]⟩)) (fun hb H1 e1 => ?_) (fun hb H1 e1 => ?_)
  · have hb := of_decide_eq_true hb
    refine hO.err 1 ?_ H1 (But.of e1)
    rw [hb, List.drop_length]
    rfl
  · have hb := of_decide_eq_false hb
    have hlt : i < bs.length := by omega
    have hx1 := e1 _ _ hx
    refine q_asg (v := bV bs[i]) (ev_op (ev_fld (ev_var rfl) hx1 T.cl_BitReader T.n_BitReader_bits btF_bits) (ev_fld (ev_var rfl) hx1 T.cl_BitReader T.n_BitReader_at btF_at) (rv_ixL (sq_of (e1 _ _ hr0.bit)) (atI_nat (by rw [List.getElem?_map, List.getElem?_eq_getElem hlt]; rfl)))) fun H2 e2 => ?_
    have hx2 := e2 _ _ hx1
    refine ⟨_, rfl, x, _, dx, _, _, rfl, hx2, T.cl_BitReader, T.n_BitReader_at, btF_at, _, _, rfl, rfl, _, rfl, x, _, dx, _, rfl, hx2, T.cl_BitReader, T.n_BitReader_at, show 2 < 1000 by decide, ?_⟩
    refine ⟨_, rfl, hO.ok bs[i] (i + 1) (bitR_at hlt) _ ((But.of (e1.trans e2)).trans But.upd) ?_⟩
    have h3 := (hr0.ex (e1.trans e2)).upd (i' := i + 1) hx2 (by omega)
    rw [btF_put]
    exact h3
theorem ok_BitReader_take_digits (T : Top K w mg) : DefMX P w K mg base "BitReader" "take_digits" 2 ["self", "higher", "count"] (spDigits K) := by
  obtain ⟨fd_BitReader_take_bit, G_BitReader_take_bit, b_BitReader_take_bit⟩ := ok_BitReader_take_bit (P := P) (w := w) (base := base) T
  obtain ⟨fd, F⟩ := T.f_BitReader_take_digits
  refine ⟨fd, F.ok (CX := L2.CX P w) sc_BitReader_take_digits (fun vs H Q E h => by obtain ⟨_, _, _, _, _, _, rfl, _⟩ := h; rfl) (fun cdv A outer s H vs Q E hr h => ⟨_, ((pss_cons (ps_set (i := 3) sc_BitReader_take_digits.nd rfl (Or.inl rfl) (pv 1))
      (pss_cons (ps_for (passes_of rfl) rfl (pi_range1 rfl T.b_range (pa_cons (pv 2) pa_nil)) (pg_name (i := 4) sc_BitReader_take_digits.nd rfl (Or.inl rfl)) (pss_one (ps_set (i := 3) sc_BitReader_take_digits.nd rfl (Or.inl rfl) (pe_op op_add (pe_op op_mul pe_int (pv 3)) (pe_meth0 (pv 0) T.cl_BitReader T.m_BitReader_take_bit G_BitReader_take_bit (hr.mono (by decide)) b_BitReader_take_bit .nil (passes_call (takes_of rfl rfl rfl rfl) (fun _ _ _ _ h => h)))))))
      (pss_one (ps_ret (pv 3)))))), ?_⟩), F.bindsN (fun _ _ _ _ _ _ us hl => match us, hl with | [_, _, _], _ => rfl)⟩
  obtain ⟨x, a, bs, i, h0, c, rfl, hc, hr0, hO⟩ := h
  have hle := hr0.le
  refine q_asg (ev_var rfl) fun H1 e1 => ?_
  refine q_forR1 (n := (c : Int)) (ea_cons (ev_var rfl) ea_nil) (by omega)
    (fun t σ' H' => ∃ v, σ' = [some (.ref x), some (nV h0), some (nV c), some (nV (digitsFrom h0 ((bs.drop i).take t))), v] ∧ But H H' x ∧ BtAt K H' x a bs (i + t)) (fun H2 e2 => ⟨none, rfl, But.of (e1.trans e2), hr0.ex (e1.trans e2)⟩) ?_ ?_
  · rintro t σ' H' ht ⟨v, rfl, k1, r1⟩
    obtain ⟨dx, hx⟩ := r1.ins
    refine ⟨_, rfl, _, _, rfl, rfl, Or.inl ⟨by decide, by decide⟩, _, rfl, x, dx, _, rfl, hx, btF_none (by decide +kernel) (by decide +kernel), x, a, bs, i + t, rfl, trivial, r1, fun b i' hb H2 k2 r2 => ?_, fun e he H2 k2 => ?_⟩
    · obtain ⟨rfl, hbi, hlt⟩ := bitR_ok hb r2.le
      refine ⟨_, _, rfl, rfl, some (.int (t : Int)), ?_, k1.trans k2, r2⟩
      have e : (bs.drop i).take (t + 1) = (bs.drop i).take t ++ [b] := by
        rw [List.take_succ, List.getElem?_drop, hbi]
        rfl
      have e2 : (2 : Int) * ((digitsFrom h0 ((bs.drop i).take t) : Nat) : Int) + Vbemaz.bit b = ((digitsFrom h0 ((bs.drop i).take (t + 1)) : Nat) : Int) := by
        rw [e, digitsFrom_snoc]
        cases b
        · show (2 : Int) * _ + 0 = _
          simp
        · show (2 : Int) * _ + 1 = _
          simp
      show [some (V.ref x), some (nV h0), some (nV c), some (V.int ((2 : Int) * ((digitsFrom h0 ((bs.drop i).take t) : Nat) : Int) + Vbemaz.bit b)), some (V.int (t : Int))] = _
      rw [e2]
    · obtain ⟨rfl, hlt⟩ := bitR_err he
      exact hO.err 1 (digitsR_short (by omega) hle) H2 (k1.trans k2)
  · rintro σ' H' ⟨v, rfl, k1, r1⟩
    rw [Int.toNat_natCast] at r1 ⊢
    exact s_ret (σ := [some (.ref x), some (nV h0), some (nV c), some (nV (digitsFrom h0 ((bs.drop i).take c))), v]) (ev_var rfl) fun H2 e2 => hO.ok _ (i + c) (digitsR_long r1.le) H2 (k1.trans (But.of e2)) (r1.ex e2)
theorem ok_BitReader_take_in_bits (T : Top K w mg) : DefMX P w K mg base "BitReader" "take_in_bits" 3 ["self", "count"] (spInB K) := by
  obtain ⟨fd_BitReader_take_digits, G_BitReader_take_digits, b_BitReader_take_digits⟩ := ok_BitReader_take_digits (P := P) (w := w) (base := base) T
  obtain ⟨fd, F⟩ := T.f_BitReader_take_in_bits
  refine ⟨fd, F.ok (CX := L2.CX P w) sc_BitReader_take_in_bits (fun vs H Q E h => by obtain ⟨_, _, _, _, _, rfl, _⟩ := h; rfl) (fun cdv A outer s H vs Q E hr h => ⟨_, ((pss_one (ps_ret (pe_meth (pv 0) T.cl_BitReader T.m_BitReader_take_digits G_BitReader_take_digits (hr.mono (by decide)) b_BitReader_take_digits .nil (passes_call (takes_of rfl rfl rfl rfl) (fun _ _ _ _ h => h)) (pa_cons pe_int (pa_cons (pv 1) pa_nil)))))), ?_⟩), F.bindsN (fun _ _ _ _ _ _ us hl => match us, hl with | [_, _], _ => rfl)⟩
  obtain ⟨x, a, bs, i, c, rfl, hc, hr0, hO⟩ := h
  obtain ⟨dx, hx⟩ := hr0.ins
  exact ⟨_, rfl, x, dx, _, rfl, hx, btF_none (by decide +kernel) (by decide +kernel), _, rfl, x, a, bs, i, 0, c, rfl, hc, hr0, hO.is (by rw [number_digits])⟩
theorem ok_BitReader_take_folded (T : Top K w mg) : DefMX P w K mg base "BitReader" "take_folded" 4 ["self", "count"] (spFoldB K) := by
  obtain ⟨fd_unfolded, G_unfolded, b_unfolded, k_unfolded, g_unfolded⟩ := ok_unfolded (P := P) (w := w) (base := base) T
  obtain ⟨fd_BitReader_take_in_bits, G_BitReader_take_in_bits, b_BitReader_take_in_bits⟩ := ok_BitReader_take_in_bits (P := P) (w := w) (base := base) T
  obtain ⟨fd, F⟩ := T.f_BitReader_take_folded
  refine ⟨fd, F.ok (CX := L2.CX P w) sc_BitReader_take_folded (fun vs H Q E h => by obtain ⟨_, _, _, _, _, rfl, _⟩ := h; rfl) (fun cdv A outer s H vs Q E hr h => ⟨_, ((pss_one (ps_ret (pe_call G_unfolded (hr.mono (by decide)) rfl g_unfolded k_unfolded b_unfolded .nil pass0 (pa_cons (pe_meth (pv 0) T.cl_BitReader T.m_BitReader_take_in_bits G_BitReader_take_in_bits (hr.mono (by decide)) b_BitReader_take_in_bits .nil (passes_call (takes_of rfl rfl rfl rfl) (fun _ _ _ _ h => h)) (pa_cons (pv 1) pa_nil)) pa_nil))))), ?_⟩), F.bindsN (fun _ _ _ _ _ _ us hl => match us, hl with | [_, _], _ => rfl)⟩
  obtain ⟨x, a, bs, i, c, rfl, hc, hr0, hO⟩ := h
  obtain ⟨dx, hx⟩ := hr0.ins
  refine ⟨_, rfl, x, dx, _, rfl, hx, btF_none (by decide +kernel) (by decide +kernel), _, rfl, x, a, bs, i, c, rfl, hc, hr0, fun n i1 hn H1 k1 r1 => ?_, fun e he H1 k1 => Out.fail hO he k1⟩
  exact ⟨n, rfl, fun H2 e2 => (Out.bind hO hn k1).done (But.of e2) (r1.ex e2)⟩
theorem ok_BitReader_take_self_ending (T : Top K w mg) : DefMX P w K mg base "BitReader" "take_self_ending" 3 ["self"] (spSelf K) := by
  obtain ⟨fd_BitReader_take_bit, G_BitReader_take_bit, b_BitReader_take_bit⟩ := ok_BitReader_take_bit (P := P) (w := w) (base := base) T
  obtain ⟨fd_BitReader_take_digits, G_BitReader_take_digits, b_BitReader_take_digits⟩ := ok_BitReader_take_digits (P := P) (w := w) (base := base) T
  obtain ⟨_, c_MOST_ZEROS⟩ := T.c_MOST_ZEROS
  obtain ⟨fd, F⟩ := T.f_BitReader_take_self_ending
  refine ⟨fd, F.ok (CX := L2.CX P w) sc_BitReader_take_self_ending (fun vs H Q E h => by obtain ⟨_, _, _, _, rfl, _⟩ := h; rfl) (fun cdv A outer s H vs Q E hr h => ⟨_, ((pss_cons (ps_set (i := 1) sc_BitReader_take_self_ending.nd rfl (Or.inl rfl) pe_int)
      (pss_cons (ps_while (passes_of rfl) (pt_cmpR op_eq (pe_meth0 (pv 0) T.cl_BitReader T.m_BitReader_take_bit G_BitReader_take_bit (hr.mono (by decide)) b_BitReader_take_bit .nil (passes_call (takes_of rfl rfl rfl rfl) (fun _ _ _ _ h => h))) pe_int (nomark _)) (pss_cons (ps_set (i := 1) sc_BitReader_take_self_ending.nd rfl (Or.inl rfl) (pe_op op_add (pv 1) pe_int))
      (pss_one (ps_if (pt_cmpR op_gt (pv 1) (pe_glob (v := .int (40)) rfl c_MOST_ZEROS ⟨_, rfl⟩) (nomark _)) (pss_one (ps_raise rfl (takes_of rfl rfl rfl rfl) (pmk_own0 PySem.F.excBase_Exception T.xe_WrongNumber T.g_WrongNumber T.xk_WrongNumber (raises_own T.xb_WrongNumber T.xt_WrongNumber) rfl))) pss_nil))))
      (pss_one (ps_ret (pe_meth (pv 0) T.cl_BitReader T.m_BitReader_take_digits G_BitReader_take_digits (hr.mono (by decide)) b_BitReader_take_digits .nil (passes_call (takes_of rfl rfl rfl rfl) (fun _ _ _ _ h => h)) (pa_cons pe_int (pa_cons (pv 1) pa_nil)))))))), ?_⟩), F.bindsN (fun _ _ _ _ _ _ us hl => match us, hl with | [_], _ => rfl)⟩
  obtain ⟨x, a, bs, i, rfl, _, hr0, hO⟩ := h
  have hle := hr0.le
  refine q_asg ev_c fun H1 e1 => ?_
  refine ⟨fun m σ' H' => ∃ z, m = 41 - z ∧ z ≤ 40 ∧ σ' = [some (.ref x), some (nV z)] ∧ But H H' x ∧ BtAt K H' x a bs (i + z) ∧ ∀ j, j < z → bs[i + j]? = some false, ⟨41, 0, rfl, by omega, rfl, But.of e1, hr0.ex e1, fun j hj => by omega⟩, ?_⟩
  rintro m σ' H' ⟨z, rfl, hz40, rfl, k1, r1, hz⟩
  obtain ⟨dx, hx⟩ := r1.ins
  have hle1 := r1.le
  refine ⟨_, rfl, x, dx, _, rfl, hx, btF_none (by decide +kernel) (by decide +kernel), x, a, bs, i + z, rfl, trivial, r1, fun b i' hb H2 k2 r2 => ?_, fun e he H2 k2 => ?_⟩
  · obtain ⟨rfl, hbi, hlt⟩ := bitR_ok hb r2.le
    refine ⟨rfl, !b, ?_, ?_⟩
    · cases b <;> rfl
    cases b with
    | false =>
      show ∃ N : L2.St → Hp → Prop, _ ∧ _
      have hz' : ∀ j, j < z + 1 → bs[i + j]? = some false := fun j hj => by
        by_cases q : j = z
        · rw [q]; exact hbi
        · exact hz j (by omega)
      refine ⟨fun σ' H' => ∃ m', m' < 41 - z ∧ ∃ z, m' = 41 - z ∧ z ≤ 40 ∧ σ' = [some (.ref x), some (nV z)] ∧ But H H' x ∧ BtAt K H' x a bs (i + z) ∧ ∀ j, j < z → bs[i + j]? = some false, fun _ _ q => q, ?_⟩
      refine q_asg (σ := [some (.ref x), some (nV z)]) (v := nV (z + 1)) (ev_is (ev_op (ev_var rfl) ev_c rv_I0) rfl) fun H3 e3 => ?_
      refine s_when (σ := [some (.ref x), some (nV (z + 1))]) (et_is (et_test (ev_op (ev_var rfl) ev_c rv_I0)) (show _ = decide (40 < z + 1) from decide_eq_decide.mpr (by omega))) (fun hb4 H4 e4 => ?_) (fun hb4 H4 e4 => ?_)
      · have hb4 := of_decide_eq_true hb4
        exact hO.err 2 (readGamma_short hz' (by omega)) H4 ((k1.trans k2).trans (But.of (e3.trans e4)))
      · have hb4 := of_decide_eq_false hb4
        exact ⟨41 - (z + 1), by omega, z + 1, rfl, by omega, rfl, (k1.trans k2).trans (But.of (e3.trans e4)), r2.ex (e3.trans e4), hz'⟩
    | true =>
      obtain ⟨dx2, hx2⟩ := r2.ins
      rw [if_neg (by decide)]
      exact ⟨_, rfl, x, dx2, _, rfl, hx2, btF_none (by decide +kernel) (by decide +kernel), _, rfl, x, a, bs, i + z + 1, 1, z, rfl, by omega, r2, fun n i1 hn H3 k3 r3 => hO.ok n i1 ((readGamma_at hz hbi hz40).trans hn) H3 ((k1.trans k2).trans k3) r3, fun e he H3 k3 => hO.err e ((readGamma_at hz hbi hz40).trans he) H3 ((k1.trans k2).trans k3)⟩
  · obtain ⟨rfl, hlt⟩ := bitR_err he
    exact hO.err 1 (readGamma_end hz hlt hle hz40) H2 (k1.trans k2)
theorem ok_BitReader_take_folded_self_ending (T : Top K w mg) : DefMX P w K mg base "BitReader" "take_folded_self_ending" 4 ["self"] (spZig K) := by
  obtain ⟨fd_unfolded, G_unfolded, b_unfolded, k_unfolded, g_unfolded⟩ := ok_unfolded (P := P) (w := w) (base := base) T
  obtain ⟨fd_BitReader_take_self_ending, G_BitReader_take_self_ending, b_BitReader_take_self_ending⟩ := ok_BitReader_take_self_ending (P := P) (w := w) (base := base) T
  obtain ⟨fd, F⟩ := T.f_BitReader_take_folded_self_ending
  refine ⟨fd, F.ok (CX := L2.CX P w) sc_BitReader_take_folded_self_ending (fun vs H Q E h => by obtain ⟨_, _, _, _, rfl, _⟩ := h; rfl) (fun cdv A outer s H vs Q E hr h => ⟨_, ((pss_one (ps_ret (pe_call G_unfolded (hr.mono (by decide)) rfl g_unfolded k_unfolded b_unfolded .nil pass0 (pa_cons (pe_op op_sub (pe_meth0 (pv 0) T.cl_BitReader T.m_BitReader_take_self_ending G_BitReader_take_self_ending (hr.mono (by decide)) b_BitReader_take_self_ending .nil (passes_call (takes_of rfl rfl rfl rfl) (fun _ _ _ _ h => h))) pe_int) pa_nil))))), ?_⟩), F.bindsN (fun _ _ _ _ _ _ us hl => match us, hl with | [_], _ => rfl)⟩
  obtain ⟨x, a, bs, i, rfl, _, hr0, hO⟩ := h
  obtain ⟨dx, hx⟩ := hr0.ins
  refine ⟨_, rfl, x, dx, _, rfl, hx, btF_none (by decide +kernel) (by decide +kernel), x, a, bs, i, rfl, trivial, hr0, fun n i1 hn H1 k1 r1 => ?_, fun e he H1 k1 => ?_⟩
  · have hn1 := readGamma_pos hn
    refine ⟨_, _, rfl, rfl, n - 1, ?_, fun H2 e2 => ?_⟩
    · show [V.int ((n : Int) - 1)] = [V.int ((n - 1 : Nat) : Int)]
      rw [show ((n - 1 : Nat) : Int) = (n : Int) - 1 by omega]
    · exact hO.ok _ i1 (by rw [readZig_eq, hn]) H2 (k1.trans (But.of e2)) (r1.ex e2)
  · exact hO.err e (by rw [readZig_eq, he]) H1 k1
end
end PR
set_option Elab.async false
set_option linter.all false
set_option maxRecDepth 100000
set_option maxHeartbeats 4000000
namespace PR
open PySem PySem.Spec PyProof.Rows L2 Evl
/-! ### a block read -/
theorem but_fresh {H H' : Hp} {x p : Addr} (k : But H H' x) (hx : ∃ o, H' x = some o) (hp : H' p = none) : H p = none := by
  cases q : H p with
  | none => rfl
  | some o =>
    by_cases z : p = x
    · obtain ⟨o', hx⟩ := hx
      rw [z, hx] at hp
      cases hp
    · rw [k p o q z] at hp
      cases hp
theorem BtAt.some {K : PySem.W.Frag} {H : Hp} {x a : Addr} {bs : Vbemaz.Bits} {i : Nat} (h : BtAt K H x a bs i) : ∃ o, H x = some o := by
  obtain ⟨dx, hx⟩ := h.ins
  exact ⟨_, hx⟩
/-- another list changes -/
theorem BtAt.updL {K : PySem.W.Frag} {H : Hp} {x a D : Addr} {bs : Vbemaz.Bits} {i : Nat} {o : HO} (h : BtAt K H x a bs i) (nx : D ≠ x) (na : D ≠ a) : BtAt K (L2.upd H D o) x a bs i := by
  obtain ⟨dx, hx⟩ := h.ins
  exact ⟨⟨dx, by rw [upd_ne nx.symm]; exact hx⟩, by rw [upd_ne na.symm]; exact h.bit, h.le⟩
theorem But.mut {H H' : Hp} {x D : Addr} {o : HO} (k : But H H' x) (h : H D = none) : But H (L2.upd H' D o) x := fun b u hb hn => by
  rw [upd_ne (ne_of_none hb h)]
  exact k b u hb hn
theorem el_slN {K : PySem.W.Frag} {σ : L2.St} {H : Hp} {te : TE} {tl th : TO} {xs : List V} {lo hi : Option Int} (h : EvL te σ H xs) (h1 : EvO tl σ H lo) (h2 : EvO th σ H hi) : EvL (tSl (rSlL K) te tl th) σ H (cutV xs lo hi) := fun H1 e _ q =>
  h H1 e _ fun a H2 ha e2 hx => h1 H2 (e.trans e2) _ fun H3 e3 => h2 H3 ((e.trans e2).trans e3) _ fun H4 e4 =>
    ⟨a, xs, rfl, sq_of (e4 _ _ (e3 _ _ hx)), fun p hp => q p _ (fresh_back ((e2.trans e3).trans e4) hp) (((e2.trans e3).trans e4).trans (Ex.new hp)) upd_same⟩
/-- [elt for k in range(n)], elt a reading -/
theorem lcx_many {α : Type} {K : PySem.W.Frag} {σ : L2.St} {H : Hp} {ta : TA} {j n : Nat} {vs : List Nat} {te : XK → TE} {E : XK} {Q : VK} {x a : Addr} {bs : Vbemaz.Bits} {i : Nat} {p : Vbemaz.R α} {φ : α → V}
    (h : EvA ta σ H [nV n]) (hn : n ≤ 40000) (hw : ∀ x, wipe ((wipe σ vs).set j (some x)) vs = wipe σ vs) (r : BtAt K H x a bs i)
    (he : ∀ (t i1 : Nat) H1 Q1, BtAt K H1 x a bs i1 → Out K x a bs p i1 H1 (QV φ Q1) E → te E ((wipe σ vs).set j (some (nV t))) H1 Q1)
    (hO : Out K x a bs (many p n) i H (QL H (fun l => l.map φ) Q) E) : tLcX (fun cls d _ H => E cls d H) (iRng1 ta) (gName j) te vs σ H Q := by
  show tLc (iRng1 ta) (gName j) tYes (te E) vs σ H Q
  refine h H (Ex.refl H) _ fun H1 e1 => ⟨(n : Int), rfl, by omega, by omega, fun D hD => ?_⟩
  have hDH : H D = none := fresh_back e1 hD
  have nDx : D ≠ x := by
    obtain ⟨dx, hx⟩ := r.ins
    exact (ne_of_none hx hDH).symm
  have nDa : D ≠ a := (ne_of_none r.bit hDH).symm
  refine lc_range (lo := 0) (n := (n : Int).toNat) (fun t H' => ∃ acc i1, H' D = some (.lst (acc.map φ)) ∧ acc.length = t ∧ But H H' x ∧ BtAt K H' x a bs i1 ∧ many p n (bs.drop i) = pre acc (many p (n - t) (bs.drop i1)))
    ⟨[], i, upd_same, rfl, (But.of e1).mut hDH, (r.ex e1).updL nDx nDa, (pre_nil _).symm⟩ ?_ ?_
  · rintro t H' ht ⟨acc, i1, hacc, hl, kb, r1, hm⟩
    rw [Int.toNat_natCast] at ht
    show wipe ((wipe σ vs).set j (some (.int ((0 : Int) + (t : Int))))) vs = wipe σ vs ∧ te E ((wipe σ vs).set j (some (.int ((0 : Int) + (t : Int))))) H' _
    rw [Int.zero_add]
    refine ⟨hw _, he t i1 H' _ r1 ⟨fun v i2 hv H2 k2 r2 => ?_, fun e hv H2 k2 => ?_⟩⟩
    · refine ⟨acc.map φ, k2 D _ hacc nDx, by rw [List.length_map]; exact sz_lt (by omega), acc ++ [v], i2, by rw [upd_same, List.map_append]; rfl, by rw [List.length_append, hl]; rfl, (kb.trans k2).mut hDH, r2.updL nDx nDa, ?_⟩
      rw [hm, show n - t = (n - (t + 1)) + 1 by omega, many_step, hv]
      exact pre_pre _ _ _
    · refine hO.err e ?_ H2 (kb.trans k2)
      rw [hm, show n - t = (n - (t + 1)) + 1 by omega, many_step, hv]
      rfl
  · rintro H' ⟨acc, i1, hacc, hl, kb, r1, hm⟩
    refine hO.ok acc i1 ?_ H' kb r1 D hDH hacc
    rw [hm, Int.toNat_natCast, Nat.sub_self]
    show pre acc (.ok ([], _)) = _
    show Except.ok (acc ++ [], _) = _
    rw [List.append_nil]
theorem q_asgM {te : TE} {j : Nat} {tz : TS} {D : Ends} {σ : L2.St} {H : Hp} (h : te σ H fun v H1 => tz D (σ.set j (some v)) H1) : tSeq (tAsg te (gName j)) tz D σ H := h
theorem s_retX {W : WX} {wi : TI} {g : TG} {te : XK → TE} {vs : List Nat} {D : Ends} {σ : L2.St} {H : Hp} (h : tLcX W wi g te vs σ H D.rt) : tRet (tLcX W wi g te vs) D σ H := h
theorem q_asgX {W : WX} {wi : TI} {g : TG} {te : XK → TE} {vs : List Nat} {D : Ends} {σ : L2.St} {H : Hp} {tz : TS} {j : Nat} (h : tLcX W wi g te vs σ H fun v H1 => tz D (σ.set j (some v)) H1) : tSeq (tAsg (tLcX W wi g te vs) (gName j)) tz D σ H := h
def spSums (K : PySem.W.Frag) : Sp := fun vs H Q _ => ∃ (f : Int) (a : Addr) (l : List Int), vs = [.int f, .ref a] ∧ SqL K H a (l.map V.int) ∧ l.length ≤ 1000 ∧ RetL ((Vbemaz.sums f l).map V.int) H Q
abbrev iL (l : List Int) : List V := l.map V.int
/-- reads so many readings -/
def spRdL (K : PySem.W.Frag) (p : Nat → Vbemaz.R (List Int)) : Sp := fun vs H Q E => ∃ (x a : Addr) (bs : Vbemaz.Bits) (i m : Nat), vs = [.ref x, nV m] ∧ 0 < m ∧ m ≤ 16 ∧ BtAt K H x a bs i ∧ Out K x a bs (p m) i H (QL H iL Q) E
def spRdC (K : PySem.W.Frag) : Sp := fun vs H Q E => ∃ (c : Nat) (x a : Addr) (bs : Vbemaz.Bits) (i m : Nat), vs = [nV c, .ref x, nV m] ∧ 0 < m ∧ m ≤ 16 ∧ BtAt K H x a bs i ∧ Out K x a bs (rawR c m) i H (QL H iL Q) E
def spRdR (K : PySem.W.Frag) : Sp := fun vs H Q E => ∃ (x a : Addr) (bs : Vbemaz.Bits) (i m : Nat), vs = [.ref x, nV m] ∧ m ≤ 16 ∧ BtAt K H x a bs i ∧ Out K x a bs (readingsR m) i H (QL H iL Q) E
def spMarks (K : PySem.W.Frag) : Sp := fun vs H Q E => ∃ (x a : Addr) (bs : Vbemaz.Bits) (i : Nat), vs = [.ref x] ∧ BtAt K H x a bs i ∧ Out K x a bs marksR i H (QL H (fun m => m.map bV) Q) E
def spGaps (K : PySem.W.Frag) : Sp := fun vs H Q _ => ∃ (b a : Addr) (m : List Bool) (l : List Int), vs = [.ref b, .ref a] ∧ SqL K H b (m.map bV) ∧ SqL K H a (l.map V.int) ∧ ones m ≤ l.length ∧ m.length ≤ 1000 ∧ RetL ((Vbemaz.placed m l).map gv) H Q
def spValues (K : PySem.W.Frag) : Sp := fun vs H Q E => ∃ (x a : Addr) (bs : Vbemaz.Bits) (i : Nat), vs = [.ref x] ∧ BtAt K H x a bs i ∧ Out K x a bs valuesR i H (QL H (fun l => l.map gv) Q) E
def spFilling (K : PySem.W.Frag) : Sp := fun vs H Q _ => ∃ (a : Addr) (r : Vbemaz.Bits), vs = [.ref a] ∧ SqL K H a (r.map bV) ∧ RetV (.bl (!(decide (8 ≤ r.length) || r.any fun x => x))) H Q
theorem marks_len : Outs (fun m : List Bool => m.length ≤ 16) marksR := by
  refine outs_bind2 (outs_number 4) fun n hn => outs_bind fun g => ?_
  have hn : n < 16 := hn
  split
  · exact outs_give (by rw [List.length_replicate]; omega)
  · intro b m r h
    rw [many_bit] at h
    have := outs_take (n + 1) b m r h
    omega
theorem many_len {α : Type} (p : Vbemaz.R α) : ∀ n, Outs (fun l : List α => l.length = n) (many p n)
  | 0 => outs_give rfl
  | n + 1 => outs_bind fun v => outs_bind2 (many_len p n) fun l hl => outs_pure (by rw [List.length_cons, hl])
theorem runs_len : ∀ (k m : Nat), m ≤ k → Outs (fun l : List Int => l.length = m) (Vbemaz.readRuns k m)
  | k, 0, _ => by
    intro b l r h
    rw [readRuns_zero] at h
    cases h
    rfl
  | 0, m + 1, h => by omega
  | k + 1, m + 1, h => by
    intro b l r e
    rw [readRuns_step k (by omega)] at e
    cases hz : Vbemaz.readZig b with
    | error z => rw [hz] at e; cases e
    | ok y =>
      obtain ⟨v, r1⟩ := y
      rw [hz] at e
      dsimp only at e
      cases hg : Vbemaz.readGamma r1 with
      | error z => rw [hg] at e; cases e
      | ok y =>
        obtain ⟨n, r2⟩ := y
        rw [hg] at e
        dsimp only at e
        have hn := readGamma_pos hg
        split at e
        · cases e
        · cases hq : Vbemaz.readRuns k (m + 1 - n) r2 with
          | error z => rw [hq] at e; cases e
          | ok y =>
            obtain ⟨l', r3⟩ := y
            rw [hq] at e
            obtain ⟨e1, _⟩ := Prod.mk.inj (Except.ok.inj e)
            have := runs_len k (m + 1 - n) (by omega) r2 l' r3 hq
            rw [← e1, List.length_append, List.length_replicate, this]
            omega
theorem raw_len {c m : Nat} (hm : 0 < m) : Outs (fun l : List Int => l.length = m) (rawR c m) := by
  unfold rawR
  split
  · exact outs_bind fun w => many_len _ m
  · split
    · exact outs_bind fun a => outs_bind fun w => outs_bind2 (many_len _ (m - 1)) fun l hl => outs_pure (by rw [sums_len, hl]; omega)
    · split
      · exact outs_bind fun a => outs_bind2 (many_len _ (m - 1)) fun l hl => outs_pure (by rw [sums_len, List.length_drop, sums_len, hl]; omega)
      · exact runs_len m m (Nat.le_refl _)
theorem readings_len (m : Nat) : Outs (fun l : List Int => l.length = m) (readingsR m) := by
  unfold readingsR
  split
  · rename_i h
    exact outs_give (by rw [h]; rfl)
  · exact outs_bind fun c => outs_bind2 (raw_len (by omega)) fun l hl b x r e => by
      rw [allIn_eq] at e
      split at e
      · cases e; exact hl
      · cases e
section
variable {P : Program} {w : World} {K : PySem.W.Frag} {mg : Str → Option Value} {base : Heap}
theorem ok_sums_from (T : Top K w mg) : Def P w K mg base "sums_from" 1 ["first", "steps"] (spSums K) := by
  obtain ⟨fd, F⟩ := T.f_sums_from
  refine ⟨fd, F.ok sc_sums_from (fun vs H Q E h => by obtain ⟨_, _, _, rfl, _⟩ := h; rfl) (fun cdv A outer s H vs Q E hr h => ⟨_, PSs.nox (pss_cons (ps_set (i := 2) sc_sums_from.nd rfl (Or.inl rfl) (pe_lst (pa_cons (pv 0) pa_nil)))
      (pss_cons (ps_for PassesOwn.never rfl (pi_list (pv 1)) (pg_name (i := 3) sc_sums_from.nd rfl (Or.inl rfl)) (pss_one (ps_expr (pe_bm PySem.F.plainAttrs_list PySem.F.slot_list_append PySem.F.type_list_append mt_append (pv 2) (pa_cons (pe_op op_add (pe_ix (ix_listK (K := K) rfl) (pv 2) (pe_op op_sub (pe_callB (call_lenK (K := K) rfl) (by rfl) T.b_len PySem.boot_len (pa_cons (pv 2) pa_nil)) pe_int) (fun _ _ => rfl)) (pv 3)) pa_nil)))))
      (pss_one (ps_ret (pv 2))))), ?_⟩), F.bindsN (fun _ _ _ _ _ _ us hl => match us, hl with | [_, _], _ => rfl), F.kp, T.g_sums_from⟩
  obtain ⟨f, a, l, rfl, hS, hl, hQ⟩ := h
  refine q_asgL (el_lst (ea_cons (ev_var rfl) ea_nil) (show 1 ≤ 100000 by decide)) fun p H1 hp e1 hp1 => ?_
  refine q_forLn (ev_var rfl) (ex_l e1 hS) (fun i σ' H' => ∃ v, σ' = [some (.int f), some (.ref a), some (.ref p), v] ∧ Ex H H' ∧ H' p = some (.lst ((Vbemaz.sums f (l.take i)).map V.int))) (fun H2 e2 => ⟨none, rfl, e1.trans e2, e2 p _ hp1⟩)
    (fun i σ' H' _ ⟨_, _, e2, _⟩ => ex_l e2 hS) ?_ ?_
  · rintro i x σ' H' hx ⟨v, rfl, e2, hp2⟩
    rw [List.getElem?_map] at hx
    obtain ⟨d, hd, rfl⟩ := Option.map_eq_some_iff.mp hx
    have hi := (List.getElem?_eq_some_iff.mp hd).1
    have hlen := sums_len f (l.take i)
    have hlt : (l.take i).length = i := by rw [List.length_take]; omega
    have hat : atI ((Vbemaz.sums f (l.take i)).map V.int) (((((Vbemaz.sums f (l.take i)).map V.int).length : Nat) : Int) - 1) = some (.int ((Vbemaz.sums f (l.take i)).getLastD 0)) := by
      have e : ((((Vbemaz.sums f (l.take i)).map V.int).length : Nat) : Int) - 1 = ((l.take i).length : Nat) := by
        rw [List.length_map, hlen]
        omega
      rw [e]
      exact atI_nat (by rw [List.getElem?_map, sums_last]; rfl)
    refine s_app (σ := [some (.int f), some (.ref a), some (.ref p), some (.int d)]) hp2 (ev_var rfl) (ev_op (ev_op (ev_var rfl) (ev_op (ev_lenS (ea_cons (ev_var rfl) ea_nil) (sq_of hp2)) ev_c rv_I0) (rv_ixL (sq_of hp2) hat)) (ev_var rfl) rv_I0) (by rw [List.length_map, hlen]; omega) fun H3 e3 => ⟨some (.int d), rfl, Ex.mut (e2.trans e3) hp, ?_⟩
    rw [upd_same, List.take_succ, hd, Option.toList_some, sums_snoc, List.map_append]
    rfl
  · rintro σ' H' ⟨v, rfl, e2, hp2⟩
    rw [List.length_map, List.take_length] at hp2
    refine s_ret (σ := [some (.int f), some (.ref a), some (.ref p), v]) (ev_var rfl) fun H2 e3 => hQ p H2 hp (e2.trans e3) (e3 p _ hp2)
theorem ok_read_plain_code (T : Top K w mg) : DefX P w K mg base "read_plain_code" 5 ["reader", "count"] (spRdL K plainR) := by
  obtain ⟨fd_BitReader_take_in_bits, G_BitReader_take_in_bits, b_BitReader_take_in_bits⟩ := ok_BitReader_take_in_bits (P := P) (w := w) (base := base) T
  obtain ⟨fd_BitReader_take_folded, G_BitReader_take_folded, b_BitReader_take_folded⟩ := ok_BitReader_take_folded (P := P) (w := w) (base := base) T
  obtain ⟨fd, F⟩ := T.f_read_plain_code
  refine ⟨fd, F.ok (CX := L2.CX P w) sc_read_plain_code (fun vs H Q E h => by obtain ⟨_, _, _, _, _, rfl, _⟩ := h; rfl) (fun cdv A outer s H vs Q E hr h => ⟨_, ((pss_cons (ps_set (i := 2) sc_read_plain_code.nd rfl (Or.inr rfl) (pe_meth (pv 0) T.cl_BitReader T.m_BitReader_take_in_bits G_BitReader_take_in_bits (hr.mono (by decide)) b_BitReader_take_in_bits .nil (passes_call (takes_of rfl rfl rfl rfl) (fun _ _ _ _ h => h)) (pa_cons pe_int pa_nil)))
      (pss_one (ps_ret (pe_lcX (own := [("k", 3)]) (g := gName 3) rfl rfl rfl sc_read_plain_code.nd (takes_of rfl rfl rfl rfl) (pi_range1 rfl T.b_range (pa_cons (pv 1) pa_nil)) (blkOk_by (own := [("k", 3)]) (N := N_read_plain_code) (sc := defScope st_read_plain_code) (by decide +kernel)) (fun _ _ _ _ _ _ => pg_name (i := 3) sc_read_plain_code.nd rfl (Or.inl rfl)) (fun _ _ _ _ _ _ _ hp => (pe_meth (pv 0) T.cl_BitReader T.m_BitReader_take_folded G_BitReader_take_folded (hr.mono (by decide)) b_BitReader_take_folded .nil hp (pa_cons (pv 2) pa_nil)))))))), ?_⟩), F.bindsN (fun _ _ _ _ _ _ us hl => match us, hl with | [_, _], _ => rfl), F.kp, T.g_read_plain_code⟩
  obtain ⟨x, a, bs, i, m, rfl, hm, hm16, hr0, hO⟩ := h
  obtain ⟨dx, hx⟩ := hr0.ins
  refine q_asgM ?_
  refine ⟨_, rfl, x, dx, _, rfl, hx, btF_none (by decide +kernel) (by decide +kernel), x, a, bs, i, 5, rfl, by decide, hr0, fun wd i1 hw H1 k1 r1 => ?_, fun e he H1 k1 => Out.fail hO he k1⟩
  have hw32 : wd < 2 ^ 5 := outs_number 5 _ _ _ hw
  have hO1 := Out.bind hO hw k1
  refine s_retX ?_
  refine lcx_many (σ := [some (.ref x), some (nV m), some (nV wd), none]) (φ := V.int) (p := foldR wd) (n := m) (ea_cons (ev_var rfl) ea_nil) (by omega) (fun _ => rfl) r1 (fun t i2 H2 Q2 r2 o2 => ?_) ⟨fun l i2 hl H2 k2 r2 D hD hD2 => hO1.ok l i2 hl H2 k2 r2 D (but_fresh k1 r1.some hD) hD2, hO1.err⟩
  obtain ⟨dx2, hx2⟩ := r2.ins
  exact ⟨_, rfl, x, dx2, _, rfl, hx2, btF_none (by decide +kernel) (by decide +kernel), _, rfl, x, a, bs, i2, wd, rfl, by omega, r2, o2⟩
theorem ok_read_step_code (T : Top K w mg) : DefX P w K mg base "read_step_code" 5 ["reader", "count"] (spRdL K stepR) := by
  obtain ⟨fd_sums_from, G_sums_from, b_sums_from, k_sums_from, g_sums_from⟩ := ok_sums_from (P := P) (w := w) (base := base) T
  obtain ⟨fd_BitReader_take_folded_self_ending, G_BitReader_take_folded_self_ending, b_BitReader_take_folded_self_ending⟩ := ok_BitReader_take_folded_self_ending (P := P) (w := w) (base := base) T
  obtain ⟨fd_BitReader_take_in_bits, G_BitReader_take_in_bits, b_BitReader_take_in_bits⟩ := ok_BitReader_take_in_bits (P := P) (w := w) (base := base) T
  obtain ⟨fd_BitReader_take_folded, G_BitReader_take_folded, b_BitReader_take_folded⟩ := ok_BitReader_take_folded (P := P) (w := w) (base := base) T
  obtain ⟨fd, F⟩ := T.f_read_step_code
  refine ⟨fd, F.ok (CX := L2.CX P w) sc_read_step_code (fun vs H Q E h => by obtain ⟨_, _, _, _, _, rfl, _⟩ := h; rfl) (fun cdv A outer s H vs Q E hr h => ⟨_, ((pss_cons (ps_set (i := 2) sc_read_step_code.nd rfl (Or.inl rfl) (pe_meth0 (pv 0) T.cl_BitReader T.m_BitReader_take_folded_self_ending G_BitReader_take_folded_self_ending (hr.mono (by decide)) b_BitReader_take_folded_self_ending .nil (passes_call (takes_of rfl rfl rfl rfl) (fun _ _ _ _ h => h))))
      (pss_cons (ps_set (i := 3) sc_read_step_code.nd rfl (Or.inr rfl) (pe_meth (pv 0) T.cl_BitReader T.m_BitReader_take_in_bits G_BitReader_take_in_bits (hr.mono (by decide)) b_BitReader_take_in_bits .nil (passes_call (takes_of rfl rfl rfl rfl) (fun _ _ _ _ h => h)) (pa_cons pe_int pa_nil)))
      (pss_one (ps_ret (pe_call G_sums_from (hr.mono (by decide)) rfl g_sums_from k_sums_from b_sums_from .nil pass0 (pa_cons (pv 2) (pa_cons (pe_lcX (own := [("k", 4)]) (g := gName 4) rfl rfl rfl sc_read_step_code.nd (takes_of rfl rfl rfl rfl) (pi_range1 rfl T.b_range (pa_cons (pe_op op_sub (pv 1) pe_int) pa_nil)) (blkOk_by (own := [("k", 4)]) (N := N_read_step_code) (sc := defScope st_read_step_code) (by decide +kernel)) (fun _ _ _ _ _ _ => pg_name (i := 4) sc_read_step_code.nd rfl (Or.inl rfl)) (fun _ _ _ _ _ _ _ hp => (pe_meth (pv 0) T.cl_BitReader T.m_BitReader_take_folded G_BitReader_take_folded (hr.mono (by decide)) b_BitReader_take_folded .nil hp (pa_cons (pv 3) pa_nil)))) pa_nil)))))))), ?_⟩), F.bindsN (fun _ _ _ _ _ _ us hl => match us, hl with | [_, _], _ => rfl), F.kp, T.g_read_step_code⟩
  obtain ⟨x, a, bs, i, m, rfl, hm, hm16, hr0, hO⟩ := h
  obtain ⟨dx, hx⟩ := hr0.ins
  refine q_asgM ?_
  refine ⟨_, rfl, x, dx, _, rfl, hx, btF_none (by decide +kernel) (by decide +kernel), x, a, bs, i, rfl, trivial, hr0, fun f i1 hf H1 k1 r1 => ?_, fun e he H1 k1 => Out.fail hO he k1⟩
  have hO1 := Out.bind hO hf k1
  obtain ⟨dx1, hx1⟩ := r1.ins
  refine ⟨_, rfl, x, dx1, _, rfl, hx1, btF_none (by decide +kernel) (by decide +kernel), x, a, bs, i1, 6, rfl, by decide, r1, fun wd i2 hw H2 k2 r2 => ?_, fun e he H2 k2 => Out.fail hO1 he k2⟩
  have hw64 : wd < 2 ^ 6 := outs_number 6 _ _ _ hw
  have hO2 := Out.bind hO1 hw k2
  refine ⟨_, rfl, lcx_many (φ := V.int) (p := foldR wd) (σ := [some (.ref x), some (nV m), some (.int f), some (nV wd), none]) (n := m - 1) (ea_cons (ev_is (ev_op (ev_var rfl) ev_c rv_I0) (show V.int ((m : Int) - 1) = V.int ((m - 1 : Nat) : Int) by congr 1; omega)) ea_nil) (by omega) (fun _ => rfl) r2 (fun t i3 H3 Q3 r3 o3 => ?_) ⟨fun l i3 hl H3 k3 r3 D hD hD3 => ?_, fun e he H3 k3 => Out.fail hO2 he k3⟩⟩
  · obtain ⟨dx3, hx3⟩ := r3.ins
    exact ⟨_, rfl, x, dx3, _, rfl, hx3, btF_none (by decide +kernel) (by decide +kernel), _, rfl, x, a, bs, i3, wd, rfl, by omega, r3, o3⟩
  · have hll := many_len _ _ _ _ _ hl
    refine ⟨f, D, l, rfl, sq_of hD3, by omega, fun p H4 hp e4 h4 => ?_⟩
    exact (Out.bind hO2 hl k3).done (But.of e4) (r3.ex e4) p (but_fresh (k1.trans (k2.trans k3)) r3.some hp) h4
theorem ok_read_change_of_step_code (T : Top K w mg) : DefX P w K mg base "read_change_of_step_code" 5 ["reader", "count"] (spRdL K bendR) := by
  obtain ⟨fd_sums_from, G_sums_from, b_sums_from, k_sums_from, g_sums_from⟩ := ok_sums_from (P := P) (w := w) (base := base) T
  obtain ⟨fd_BitReader_take_folded_self_ending, G_BitReader_take_folded_self_ending, b_BitReader_take_folded_self_ending⟩ := ok_BitReader_take_folded_self_ending (P := P) (w := w) (base := base) T
  obtain ⟨fd, F⟩ := T.f_read_change_of_step_code
  refine ⟨fd, F.ok (CX := L2.CX P w) sc_read_change_of_step_code (fun vs H Q E h => by obtain ⟨_, _, _, _, _, rfl, _⟩ := h; rfl) (fun cdv A outer s H vs Q E hr h => ⟨_, ((pss_cons (ps_set (i := 2) sc_read_change_of_step_code.nd rfl (Or.inl rfl) (pe_meth0 (pv 0) T.cl_BitReader T.m_BitReader_take_folded_self_ending G_BitReader_take_folded_self_ending (hr.mono (by decide)) b_BitReader_take_folded_self_ending .nil (passes_call (takes_of rfl rfl rfl rfl) (fun _ _ _ _ h => h))))
      (pss_cons (ps_setLcX (i := 3) (own := [("k", 5)]) (g := gName 5) rfl rfl rfl sc_read_change_of_step_code.nd rfl rfl (sw_true rfl rfl rfl (by decide +kernel)) (takes_of rfl rfl rfl rfl) (pi_range1 rfl T.b_range (pa_cons (pe_op op_sub (pv 1) pe_int) pa_nil)) (blkOk_by (own := [("k", 5)]) (N := N_read_change_of_step_code) (sc := defScope st_read_change_of_step_code) (by decide +kernel)) (fun _ _ _ _ _ _ => pg_name (i := 5) sc_read_change_of_step_code.nd rfl (Or.inl rfl)) (fun _ _ _ _ _ _ _ hp => (pe_meth0 (pv 0) T.cl_BitReader T.m_BitReader_take_folded_self_ending G_BitReader_take_folded_self_ending (hr.mono (by decide)) b_BitReader_take_folded_self_ending .nil hp)))
      (pss_cons (ps_set (i := 4) sc_read_change_of_step_code.nd rfl (Or.inl rfl) (pe_slice (sl_listK (K := K) rfl) (pe_call G_sums_from (hr.mono (by decide)) rfl g_sums_from k_sums_from b_sums_from .nil pass0 (pa_cons pe_int (pa_cons (pv 3) pa_nil))) (po_some pe_int) po_none))
      (pss_one (ps_ret (pe_call G_sums_from (hr.mono (by decide)) rfl g_sums_from k_sums_from b_sums_from .nil pass0 (pa_cons (pv 2) (pa_cons (pv 4) pa_nil))))))))), ?_⟩), F.bindsN (fun _ _ _ _ _ _ us hl => match us, hl with | [_, _], _ => rfl), F.kp, T.g_read_change_of_step_code⟩
  obtain ⟨x, a, bs, i, m, rfl, hm, hm16, hr0, hO⟩ := h
  obtain ⟨dx, hx⟩ := hr0.ins
  refine q_asgM ?_
  refine ⟨_, rfl, x, dx, _, rfl, hx, btF_none (by decide +kernel) (by decide +kernel), x, a, bs, i, rfl, trivial, hr0, fun f i1 hf H1 k1 r1 => ?_, fun e he H1 k1 => Out.fail hO he k1⟩
  have hO1 := Out.bind hO hf k1
  refine q_asgX ?_
  refine lcx_many (σ := [some (.ref x), some (nV m), some (.int f), none, none, none]) (φ := V.int) (p := Vbemaz.readZig) (n := m - 1) (ea_cons (ev_is (ev_op (ev_var rfl) ev_c rv_I0) (show V.int ((m : Int) - 1) = V.int ((m - 1 : Nat) : Int) by congr 1; omega)) ea_nil) (by omega) (fun _ => rfl) r1 (fun t i3 H3 Q3 r3 o3 => ?_) ⟨fun l i3 hl H3 k3 r3 D hD hD3 => ?_, fun e he H3 k3 => Out.fail hO1 he k3⟩
  · obtain ⟨dx3, hx3⟩ := r3.ins
    exact ⟨_, rfl, x, dx3, _, rfl, hx3, btF_none (by decide +kernel) (by decide +kernel), x, a, bs, i3, rfl, trivial, r3, o3⟩
  · have hll := many_len _ _ _ _ _ hl
    have hsl := sums_len 0 l
    have hcut : cutV ((Vbemaz.sums 0 l).map V.int) (some (1 : Int)) none = ((Vbemaz.sums 0 l).drop 1).map V.int := by
      unfold cutV
      rw [show (1 : Int) = ((1 : Nat) : Int) from rfl, HT.sIx_nat, HT.sIx_none, List.length_map, Nat.min_eq_left (by omega), List.take_of_length_le (by rw [List.length_drop, List.length_map]; omega), List.map_drop]
    refine q_asgL (σ := [some (.ref x), some (nV m), some (.int f), some (.ref D), none, none]) (el_is (el_slN (K := K) (el_call (ea_cons ev_c (ea_cons (ev_var rfl) ea_nil)) (fun H4 e4 _ q _ => ⟨0, D, l, rfl, sq_of (e4 _ _ hD3), by omega, q⟩)) (eo_some ev_c) eo_none) hcut) fun p H4 hp e4 h4 => ?_
    refine s_retL (σ := [some (.ref x), some (nV m), some (.int f), some (.ref D), some (.ref p), none]) (el_call (ea_cons (ev_var rfl) (ea_cons (ev_var rfl) ea_nil)) (fun H5 e5 _ q _ => ⟨f, p, _, rfl, sq_of (e5 _ _ h4), by rw [List.length_drop, hsl]; omega, q⟩)) fun q H5 hq e5 h5 => ?_
    exact (Out.bind hO1 hl k3).done (But.of (e4.trans e5)) (r3.ex (e4.trans e5)) q (but_fresh (k1.trans k3) r3.some (fresh_back e4 hq)) h5
theorem ok_read_run_code (T : Top K w mg) : DefX P w K mg base "read_run_code" 5 ["reader", "count"] (spRdL K runR) := by
  obtain ⟨fd_BitReader_take_folded_self_ending, G_BitReader_take_folded_self_ending, b_BitReader_take_folded_self_ending⟩ := ok_BitReader_take_folded_self_ending (P := P) (w := w) (base := base) T
  obtain ⟨fd_BitReader_take_self_ending, G_BitReader_take_self_ending, b_BitReader_take_self_ending⟩ := ok_BitReader_take_self_ending (P := P) (w := w) (base := base) T
  obtain ⟨fd, F⟩ := T.f_read_run_code
  refine ⟨fd, F.ok (CX := L2.CX P w) sc_read_run_code (fun vs H Q E h => by obtain ⟨_, _, _, _, _, rfl, _⟩ := h; rfl) (fun cdv A outer s H vs Q E hr h => ⟨_, ((pss_cons (ps_set (i := 2) sc_read_run_code.nd rfl (Or.inl rfl) (pe_lst pa_nil))
      (pss_cons (ps_while (passes_of rfl) (pt_cmpR op_lt (pe_callB (call_lenK (K := K) rfl) (by rfl) T.b_len PySem.boot_len (pa_cons (pv 2) pa_nil)) (pv 1) (nomark _)) (pss_cons (ps_set (i := 3) sc_read_run_code.nd rfl (Or.inl rfl) (pe_meth0 (pv 0) T.cl_BitReader T.m_BitReader_take_folded_self_ending G_BitReader_take_folded_self_ending (hr.mono (by decide)) b_BitReader_take_folded_self_ending .nil (passes_call (takes_of rfl rfl rfl rfl) (fun _ _ _ _ h => h))))
      (pss_cons (ps_set (i := 4) sc_read_run_code.nd rfl (Or.inl rfl) (pe_meth0 (pv 0) T.cl_BitReader T.m_BitReader_take_self_ending G_BitReader_take_self_ending (hr.mono (by decide)) b_BitReader_take_self_ending .nil (passes_call (takes_of rfl rfl rfl rfl) (fun _ _ _ _ h => h))))
      (pss_cons (ps_if (pt_cmpR op_gt (pv 4) (pe_op op_sub (pv 1) (pe_callB (call_lenK (K := K) rfl) (by rfl) T.b_len PySem.boot_len (pa_cons (pv 2) pa_nil))) (nomark _)) (pss_one (ps_raise rfl (takes_of rfl rfl rfl rfl) (pmk_own0 PySem.F.excBase_Exception T.xe_WrongNumber T.g_WrongNumber T.xk_WrongNumber (raises_own T.xb_WrongNumber T.xt_WrongNumber) rfl))) pss_nil)
      (pss_one (ps_expr (pe_bm PySem.F.plainAttrs_list PySem.F.slot_list_extend PySem.F.type_list_extend mt_extend (pv 2) (pa_cons (pe_op op_rep (pe_lst (pa_cons (pv 3) pa_nil)) (pv 4)) pa_nil))))))))
      (pss_one (ps_ret (pv 2)))))), ?_⟩), F.bindsN (fun _ _ _ _ _ _ us hl => match us, hl with | [_, _], _ => rfl), F.kp, T.g_read_run_code⟩
  obtain ⟨x, a, bs, i, m, rfl, hm, hm16, hr0, hO⟩ := h
  refine q_asgL (el_lst ea_nil (by decide)) fun D H1 hD e1 h1 => ?_
  have nDx : D ≠ x := by
    obtain ⟨dx, hx⟩ := hr0.ins
    exact (ne_of_none hx hD).symm
  have nDa : D ≠ a := (ne_of_none hr0.bit hD).symm
  refine q_while (fun n σ' H' => ∃ acc i1 u v k, n = m - acc.length ∧ σ' = [some (.ref x), some (nV m), some (.ref D), u, v] ∧ H' D = some (.lst (acc.map V.int)) ∧ acc.length ≤ m ∧ But H H' x ∧ BtAt K H' x a bs i1 ∧ m - acc.length ≤ k ∧ Vbemaz.readRuns m m (bs.drop i) = pre acc (Vbemaz.readRuns k (m - acc.length) (bs.drop i1))) m
    ⟨[], i, none, none, m, rfl, rfl, h1, Nat.zero_le _, But.of e1, hr0.ex e1, Nat.le_refl _, (pre_nil _).symm⟩ ?_
  rintro n σ' H' ⟨acc, i1, u, v, k, rfl, rfl, hD1, hle, kb, r1, hk, hrun⟩
  refine ⟨decide (acc.length < m), et_is (et_test (ev_op (ev_lenS (ea_cons (ev_var rfl) ea_nil) (sq_of hD1)) (ev_var rfl) rv_I0)) (decide_eq_decide.mpr (by rw [List.length_map]; omega)), fun hb H2 e2 => ?_, fun hb H2 e2 => ?_⟩
  · have hb := of_decide_eq_true hb
    refine ⟨fun σ2 H2 => ∃ m', m' < m - acc.length ∧ ∃ acc i1 u v k, m' = m - acc.length ∧ σ2 = [some (.ref x), some (nV m), some (.ref D), u, v] ∧ H2 D = some (.lst (acc.map V.int)) ∧ acc.length ≤ m ∧ But H H2 x ∧ BtAt K H2 x a bs i1 ∧ m - acc.length ≤ k ∧ Vbemaz.readRuns m m (bs.drop i) = pre acc (Vbemaz.readRuns k (m - acc.length) (bs.drop i1)), fun _ _ q => q, ?_⟩
    obtain ⟨k', rfl⟩ : ∃ k', k = k' + 1 := ⟨k - 1, by omega⟩
    have r2 := r1.ex e2
    obtain ⟨dx2, hx2⟩ := r2.ins
    refine q_asgM ?_
    refine ⟨_, rfl, x, dx2, _, rfl, hx2, btF_none (by decide +kernel) (by decide +kernel), x, a, bs, i1, rfl, trivial, r2, fun z i2 hz H3 k3 r3 => ?_, fun e he H3 k3 => ?_⟩
    · obtain ⟨dx3, hx3⟩ := r3.ins
      refine q_asgM ?_
      refine ⟨_, rfl, x, dx3, _, rfl, hx3, btF_none (by decide +kernel) (by decide +kernel), x, a, bs, i2, rfl, trivial, r3, fun c i3 hc H4 k4 r4 => ?_, fun e he H4 k4 => ?_⟩
      · have hc1 := readGamma_pos hc
        have hD4 : H4 D = some (.lst (acc.map V.int)) := k4 D _ (k3 D _ (e2 _ _ hD1) nDx) nDx
        have kb4 : But H H4 x := ((kb.trans (But.of e2)).trans k3).trans k4
        have hst : Vbemaz.readRuns (k' + 1) (m - acc.length) (bs.drop i1) = if m - acc.length < c then .error 2 else pre (List.replicate c z) (Vbemaz.readRuns k' (m - acc.length - c) (bs.drop i3)) := by
          rw [readRuns_step k' (by omega), hz]
          dsimp only
          rw [hc]
        refine q_when (σ := [some (.ref x), some (nV m), some (.ref D), some (.int z), some (nV c)]) (et_is (et_test (ev_op (ev_var rfl) (ev_op (ev_var rfl) (ev_lenS (ea_cons (ev_var rfl) ea_nil) (sq_of hD4)) rv_I0) rv_I0)) (show _ = decide (m - acc.length < c) from decide_eq_decide.mpr (by rw [List.length_map]; omega))) (fun hb5 H5 e5 => ?_) (fun hb5 H5 e5 => ?_)
        · have hb5 := of_decide_eq_true hb5
          refine hO.err 2 ?_ H5 (kb4.trans (But.of e5))
          show Vbemaz.readRuns m m (bs.drop i) = _
          rw [hrun, hst, if_pos hb5]
          rfl
        · have hb5 := of_decide_eq_false hb5
          refine s_ext (σ := [some (.ref x), some (nV m), some (.ref D), some (.int z), some (nV c)]) (e5 _ _ hD4) (ev_var rfl) (el_is (el_rep (el_lst (ea_cons (ev_var rfl) ea_nil) (show 1 ≤ 100000 by decide)) (ev_var rfl) (by omega) (by omega) (by show 1 * _ ≤ _; omega)) (ys := (List.replicate c z).map V.int) ?_) (by rw [List.length_map, List.length_map, List.length_replicate]; omega) fun H6 e6 => ⟨m - (acc ++ List.replicate c z).length, ?_, acc ++ List.replicate c z, i3, some (.int z), some (nV c), k', rfl, rfl, ?_, ?_, ((kb4.trans (But.of e5)).trans (But.of e6)).mut hD, ((r4.ex e5).ex e6).updL nDx nDa, ?_, ?_⟩
          · rw [Int.toNat_natCast]
            show (List.replicate c [V.int z]).flatten = _
            rw [List.flatten_replicate_singleton, List.map_replicate]
          · rw [List.length_append, List.length_replicate]
            omega
          · rw [upd_same, List.map_append]
          · rw [List.length_append, List.length_replicate]
            omega
          · rw [List.length_append, List.length_replicate]
            omega
          · rw [hrun, hst, if_neg hb5, pre_pre, List.length_append, List.length_replicate, Nat.sub_sub]
      · refine hO.err e ?_ H4 (((kb.trans (But.of e2)).trans k3).trans k4)
        show Vbemaz.readRuns m m (bs.drop i) = _
        rw [hrun, readRuns_step k' (by omega), hz]
        dsimp only
        rw [he]
        rfl
    · refine hO.err e ?_ H3 ((kb.trans (But.of e2)).trans k3)
      show Vbemaz.readRuns m m (bs.drop i) = _
      rw [hrun, readRuns_step k' (by omega), he]
      rfl
  · have hb := of_decide_eq_false hb
    have hz : m - acc.length = 0 := by omega
    refine s_ret (σ := [some (.ref x), some (nV m), some (.ref D), u, v]) (ev_var rfl) fun H3 e3 => hO.ok acc i1 ?_ H3 ((kb.trans (But.of e2)).trans (But.of e3)) ((r1.ex e2).ex e3) D hD (e3 _ _ (e2 _ _ hD1))
    show Vbemaz.readRuns m m (bs.drop i) = _
    rw [hrun, hz, readRuns_zero]
    show Except.ok (acc ++ [], _) = _
    rw [List.append_nil]
theorem ok_read_in_code (T : Top K w mg) : DefX P w K mg base "read_in_code" 6 ["code", "reader", "count"] (spRdC K) := by
  obtain ⟨fd_read_plain_code, G_read_plain_code, b_read_plain_code, k_read_plain_code, g_read_plain_code⟩ := ok_read_plain_code (P := P) (w := w) (base := base) T
  obtain ⟨fd_read_step_code, G_read_step_code, b_read_step_code, k_read_step_code, g_read_step_code⟩ := ok_read_step_code (P := P) (w := w) (base := base) T
  obtain ⟨fd_read_change_of_step_code, G_read_change_of_step_code, b_read_change_of_step_code, k_read_change_of_step_code, g_read_change_of_step_code⟩ := ok_read_change_of_step_code (P := P) (w := w) (base := base) T
  obtain ⟨fd_read_run_code, G_read_run_code, b_read_run_code, k_read_run_code, g_read_run_code⟩ := ok_read_run_code (P := P) (w := w) (base := base) T
  obtain ⟨fd, F⟩ := T.f_read_in_code
  refine ⟨fd, F.ok (CX := L2.CX P w) sc_read_in_code (fun vs H Q E h => by obtain ⟨_, _, _, _, _, _, rfl, _⟩ := h; rfl) (fun cdv A outer s H vs Q E hr h => ⟨_, ((pss_cons (ps_if (pt_cmpR op_eq (pv 0) pe_int (nomark _)) (pss_one (ps_ret (pe_call G_read_plain_code (hr.mono (by decide)) rfl g_read_plain_code k_read_plain_code b_read_plain_code .nil (passes_call (takes_of rfl rfl rfl rfl) (fun _ _ _ _ h => h)) (pa_cons (pv 1) (pa_cons (pv 2) pa_nil))))) pss_nil)
      (pss_cons (ps_if (pt_cmpR op_eq (pv 0) pe_int (nomark _)) (pss_one (ps_ret (pe_call G_read_step_code (hr.mono (by decide)) rfl g_read_step_code k_read_step_code b_read_step_code .nil (passes_call (takes_of rfl rfl rfl rfl) (fun _ _ _ _ h => h)) (pa_cons (pv 1) (pa_cons (pv 2) pa_nil))))) pss_nil)
      (pss_cons (ps_if (pt_cmpR op_eq (pv 0) pe_int (nomark _)) (pss_one (ps_ret (pe_call G_read_change_of_step_code (hr.mono (by decide)) rfl g_read_change_of_step_code k_read_change_of_step_code b_read_change_of_step_code .nil (passes_call (takes_of rfl rfl rfl rfl) (fun _ _ _ _ h => h)) (pa_cons (pv 1) (pa_cons (pv 2) pa_nil))))) pss_nil)
      (pss_one (ps_ret (pe_call G_read_run_code (hr.mono (by decide)) rfl g_read_run_code k_read_run_code b_read_run_code .nil (passes_call (takes_of rfl rfl rfl rfl) (fun _ _ _ _ h => h)) (pa_cons (pv 1) (pa_cons (pv 2) pa_nil))))))))), ?_⟩), F.bindsN (fun _ _ _ _ _ _ us hl => match us, hl with | [_, _, _], _ => rfl), F.kp, T.g_read_in_code⟩
  obtain ⟨c, x, a, bs, i, m, rfl, hm, hm16, hr0, hO⟩ := h
  have eqc : ∀ n : Nat, decide (V.int (c : Int) = V.int (n : Int)) = decide (c = n) := fun n => decide_eq_decide.mpr ⟨fun z => by have := V.int.inj z; omega, fun z => by rw [z]⟩
  have fin : ∀ (p : Nat → Vbemaz.R (List Int)) H1, Ex H H1 → rawR c m = p m → Out K x a bs (p m) i H1 (QL H1 iL Q) E := fun p H1 e1 ep => by
    have := hO.ex (But.of e1)
    rw [ep] at this
    exact ⟨fun l i' hl H' k r q hq hq2 => this.ok l i' hl H' k r q (fresh_back e1 hq) hq2, this.err⟩
  refine q_when (et_is (et_test (ev_op (ev_var rfl) ev_c (rv_eq rfl))) (eqc 0)) (fun hb H1 e1 => ?_) (fun hb H1 e1 => ?_)
  · exact ⟨_, rfl, _, rfl, x, a, bs, i, m, rfl, hm, hm16, hr0.ex e1, fin plainR H1 e1 (by unfold rawR; rw [if_pos (of_decide_eq_true hb)])⟩
  have h0 := of_decide_eq_false hb
  refine q_when (et_is (et_test (ev_op (ev_var rfl) ev_c (rv_eq rfl))) (eqc 1)) (fun hb H2 e2 => ?_) (fun hb H2 e2 => ?_)
  · exact ⟨_, rfl, _, rfl, x, a, bs, i, m, rfl, hm, hm16, hr0.ex (e1.trans e2), fin stepR H2 (e1.trans e2) (by unfold rawR; rw [if_neg h0, if_pos (of_decide_eq_true hb)])⟩
  have h1 := of_decide_eq_false hb
  refine q_when (et_is (et_test (ev_op (ev_var rfl) ev_c (rv_eq rfl))) (eqc 2)) (fun hb H3 e3 => ?_) (fun hb H3 e3 => ?_)
  · exact ⟨_, rfl, _, rfl, x, a, bs, i, m, rfl, hm, hm16, hr0.ex ((e1.trans e2).trans e3), fin bendR H3 ((e1.trans e2).trans e3) (by unfold rawR; rw [if_neg h0, if_neg h1, if_pos (of_decide_eq_true hb)])⟩
  have h2 := of_decide_eq_false hb
  exact ⟨_, rfl, _, rfl, x, a, bs, i, m, rfl, hm, hm16, hr0.ex ((e1.trans e2).trans e3), fin runR H3 ((e1.trans e2).trans e3) (by unfold rawR; rw [if_neg h0, if_neg h1, if_neg h2])⟩
theorem ok_read_readings (T : Top K w mg) : DefX P w K mg base "read_readings" 7 ["reader", "count"] (spRdR K) := by
  obtain ⟨fd_read_in_code, G_read_in_code, b_read_in_code, k_read_in_code, g_read_in_code⟩ := ok_read_in_code (P := P) (w := w) (base := base) T
  obtain ⟨fd_is_reading, G_is_reading, b_is_reading, k_is_reading, g_is_reading⟩ := ok_is_reading (P := P) (w := w) (base := base) T
  obtain ⟨fd_BitReader_take_in_bits, G_BitReader_take_in_bits, b_BitReader_take_in_bits⟩ := ok_BitReader_take_in_bits (P := P) (w := w) (base := base) T
  obtain ⟨fd, F⟩ := T.f_read_readings
  refine ⟨fd, F.ok (CX := L2.CX P w) sc_read_readings (fun vs H Q E h => by obtain ⟨_, _, _, _, _, rfl, _⟩ := h; rfl) (fun cdv A outer s H vs Q E hr h => ⟨_, ((pss_cons (ps_if (pt_cmpR op_eq (pv 1) pe_int (nomark _)) (pss_one (ps_ret (pe_lst pa_nil))) pss_nil)
      (pss_cons (ps_set (i := 2) sc_read_readings.nd rfl (Or.inl rfl) (pe_meth (pv 0) T.cl_BitReader T.m_BitReader_take_in_bits G_BitReader_take_in_bits (hr.mono (by decide)) b_BitReader_take_in_bits .nil (passes_call (takes_of rfl rfl rfl rfl) (fun _ _ _ _ h => h)) (pa_cons pe_int pa_nil)))
      (pss_cons (ps_set (i := 3) sc_read_readings.nd rfl (Or.inl rfl) (pe_call G_read_in_code (hr.mono (by decide)) rfl g_read_in_code k_read_in_code b_read_in_code .nil (passes_call (takes_of rfl rfl rfl rfl) (fun _ _ _ _ h => h)) (pa_cons (pv 2) (pa_cons (pv 0) (pa_cons (pv 1) pa_nil)))))
      (pss_cons (ps_if (pt_not (pt_val (pe_callB (cr_allK (K := K) rfl rfl) (by rfl) T.b_all (by decide +kernel) (pa_cons (pe_lc (own := [("reading", 4)]) (g := gName 4) rfl sc_read_readings.nd (pi_list (pv 3)) (blkOk_by (own := [("reading", 4)]) (N := N_read_readings) (sc := defScope st_read_readings) (by decide +kernel)) (fun _ _ _ _ _ => pg_name (i := 4) sc_read_readings.nd rfl (Or.inl rfl)) (fun _ _ _ _ _ => pts_nil) (fun _ _ _ _ _ => (pe_call G_is_reading (hr.mono (by decide)) rfl g_is_reading k_is_reading b_is_reading .nil pass0 (pa_cons (pv 4) pa_nil)))) pa_nil)))) (pss_one (ps_raise rfl (takes_of rfl rfl rfl rfl) (pmk_own0 PySem.F.excBase_Exception T.xe_WrongNumber T.g_WrongNumber T.xk_WrongNumber (raises_own T.xb_WrongNumber T.xt_WrongNumber) rfl))) pss_nil)
      (pss_one (ps_ret (pv 3)))))))), ?_⟩), F.bindsN (fun _ _ _ _ _ _ us hl => match us, hl with | [_, _], _ => rfl), F.kp, T.g_read_readings⟩
  obtain ⟨x, a, bs, i, m, rfl, hm16, hr0, hO⟩ := h
  refine q_when (et_is (et_test (ev_op (ev_var rfl) ev_c (rv_eq rfl))) (show _ = decide (m = 0) from decide_eq_decide.mpr ⟨fun z => by have := V.int.inj z; omega, fun z => by rw [z]; rfl⟩)) (fun hb H1 e1 => ?_) (fun hb H1 e1 => ?_)
  · have hb := of_decide_eq_true hb
    have hO1 : Out K x a bs (Vbemaz.give []) i H (QL H iL Q) E := by
      unfold readingsR at hO
      rw [if_pos hb] at hO
      exact hO
    exact s_retL (el_lst ea_nil (by decide)) fun p H2 hp e2 h2 => hO1.given (But.of (e1.trans e2)) (hr0.ex (e1.trans e2)) p (fresh_back e1 hp) h2
  · have hb := of_decide_eq_false hb
    have hO1 : Out K x a bs (Vbemaz.number 2 >>= fun c => rawR c m >>= Vbemaz.allIn) i H1 (QL H iL Q) E := by
      unfold readingsR at hO
      rw [if_neg hb] at hO
      exact hO.ex (But.of e1)
    have r1 := hr0.ex e1
    obtain ⟨dx1, hx1⟩ := r1.ins
    refine q_asgM ?_
    refine ⟨_, rfl, x, dx1, _, rfl, hx1, btF_none (by decide +kernel) (by decide +kernel), x, a, bs, i, 2, rfl, by decide, r1, fun c i2 hc H2 k2 r2 => ?_, fun e he H2 k2 => Out.fail hO1 he k2⟩
    have hO2 := Out.bind hO1 hc k2
    refine q_asgM ?_
    refine ⟨_, rfl, _, rfl, _, rfl, c, x, a, bs, i2, m, rfl, by omega, hm16, r2, fun l i3 hl H3 k3 r3 D hD hD3 => ?_, fun e he H3 k3 => Out.fail hO2 he k3⟩
    have hO3 := Out.bind hO2 hl k3
    have hll := raw_len (c := c) (m := m) (by omega) _ _ _ hl
    refine q_when (σ := [some (.ref x), some (nV m), some (nV c), some (.ref D), none]) (et_not (et_B (ev_is (ev_cbN (el_is (el_lcA V.int (fun n => .bl (Vbemaz.within n (-1000000000) 1000000000)) l (ev_var rfl) (sq_of hD3) (by omega) (fun _ => rfl) (fun y hy H4 e4 => ev_call (ea_cons (ev_var rfl) ea_nil) sv_isReading)) (show _ = (l.map fun n => Vbemaz.within n (-1000000000) 1000000000).map V.bl by rw [List.map_map]; rfl)) (fun p H4 hp e4 => rc_all (sq_of hp))) (show V.bl _ = V.bl (l.all fun v => decide (-1000000000 ≤ v) && decide (v ≤ 1000000000)) by rw [List.all_map]; rfl)))) (fun hb4 H4 e4 => ?_) (fun hb4 H4 e4 => ?_)
    · refine hO3.err 2 ?_ H4 (But.of e4)
      rw [allIn_eq, if_neg (by simpa using hb4)]
    · refine s_ret (σ := [some (.ref x), some (nV m), some (nV c), some (.ref D), none]) (ev_var rfl) fun H5 e5 => hO3.ok l i3 ?_ H5 (But.of (e4.trans e5)) (r3.ex (e4.trans e5)) D (fresh_back e1 (but_fresh k2 r2.some hD)) (e5 _ _ (e4 _ _ hD3))
      rw [allIn_eq, if_pos (by simpa using hb4)]
theorem ok_read_marks (T : Top K w mg) : DefX P w K mg base "read_marks" 4 ["reader"] (spMarks K) := by
  obtain ⟨fd_BitReader_take_in_bits, G_BitReader_take_in_bits, b_BitReader_take_in_bits⟩ := ok_BitReader_take_in_bits (P := P) (w := w) (base := base) T
  obtain ⟨fd_BitReader_take_bit, G_BitReader_take_bit, b_BitReader_take_bit⟩ := ok_BitReader_take_bit (P := P) (w := w) (base := base) T
  obtain ⟨fd, F⟩ := T.f_read_marks
  refine ⟨fd, F.ok (CX := L2.CX P w) sc_read_marks (fun vs H Q E h => by obtain ⟨_, _, _, _, rfl, _⟩ := h; rfl) (fun cdv A outer s H vs Q E hr h => ⟨_, ((pss_cons (ps_set (i := 1) sc_read_marks.nd rfl (Or.inl rfl) (pe_op op_add (pe_meth (pv 0) T.cl_BitReader T.m_BitReader_take_in_bits G_BitReader_take_in_bits (hr.mono (by decide)) b_BitReader_take_in_bits .nil (passes_call (takes_of rfl rfl rfl rfl) (fun _ _ _ _ h => h)) (pa_cons pe_int pa_nil)) pe_int))
      (pss_cons (ps_if (pt_cmpR op_eq (pe_meth0 (pv 0) T.cl_BitReader T.m_BitReader_take_bit G_BitReader_take_bit (hr.mono (by decide)) b_BitReader_take_bit .nil (passes_call (takes_of rfl rfl rfl rfl) (fun _ _ _ _ h => h))) pe_int (nomark _)) (pss_one (ps_ret (pe_op op_rep (pe_lst (pa_cons pe_int pa_nil)) (pv 1)))) pss_nil)
      (pss_one (ps_ret (pe_lcX (own := [("k", 2)]) (g := gName 2) rfl rfl rfl sc_read_marks.nd (takes_of rfl rfl rfl rfl) (pi_range1 rfl T.b_range (pa_cons (pv 1) pa_nil)) (blkOk_by (own := [("k", 2)]) (N := N_read_marks) (sc := defScope st_read_marks) (by decide +kernel)) (fun _ _ _ _ _ _ => pg_name (i := 2) sc_read_marks.nd rfl (Or.inl rfl)) (fun _ _ _ _ _ _ _ hp => (pe_meth0 (pv 0) T.cl_BitReader T.m_BitReader_take_bit G_BitReader_take_bit (hr.mono (by decide)) b_BitReader_take_bit .nil hp)))))))), ?_⟩), F.bindsN (fun _ _ _ _ _ _ us hl => match us, hl with | [_], _ => rfl), F.kp, T.g_read_marks⟩
  obtain ⟨x, a, bs, i, rfl, hr0, hO⟩ := h
  obtain ⟨dx, hx⟩ := hr0.ins
  refine ⟨_, rfl, x, dx, _, rfl, hx, btF_none (by decide +kernel) (by decide +kernel), x, a, bs, i, 4, rfl, by decide, hr0, fun n i1 hn H1 k1 r1 => ?_, fun e he H1 k1 => Out.fail hO he k1⟩
  have hn16 : n < 2 ^ 4 := outs_number 4 _ _ _ hn
  have hO1 := Out.bind hO hn k1
  obtain ⟨dx1, hx1⟩ := r1.ins
  refine ⟨_, _, rfl, rfl, _, rfl, x, dx1, _, rfl, hx1, btF_none (by decide +kernel) (by decide +kernel), x, a, bs, i1, rfl, trivial, r1, fun g i2 hg H2 k2 r2 => ?_, fun e he H2 k2 => Out.fail hO1 he k2⟩
  have hO2 := Out.bind hO1 hg k2
  refine ⟨rfl, !g, by cases g <;> rfl, ?_⟩
  have ec : ((n : Nat) : Int) + 1 = ((n + 1 : Nat) : Int) := by omega
  cases g with
  | false =>
    rw [if_pos rfl] at hO2
    dsimp only
    rw [if_pos (show (!false) = true from rfl)]
    show tRet _ _ [some (.ref x), some (V.int (((n : Nat) : Int) + 1)), none] H2
    rw [ec]
    refine s_retL (el_is (el_rep (k := ((n + 1 : Nat) : Int)) (el_lst (ea_cons ev_c ea_nil) (show 1 ≤ 100000 by decide)) (ev_var rfl) (by omega) (by omega) (by show 1 * _ ≤ _; omega)) (ys := (List.replicate (n + 1) true).map bV) ?_) fun p H3 hp e3 h3 => hO2.given (But.of e3) (r2.ex e3) p (but_fresh (k1.trans k2) r2.some hp) h3
    rw [Int.toNat_natCast]
    show (List.replicate (n + 1) [V.int 1]).flatten = _
    rw [List.flatten_replicate_singleton, List.map_replicate]
    rfl
  | true =>
    rw [if_neg (by decide)] at hO2
    dsimp only
    rw [if_neg (show ¬ (!true) = true by decide)]
    unfold tNext
    dsimp only
    show tRet _ _ [some (.ref x), some (V.int (((n : Nat) : Int) + 1)), none] H2
    rw [ec]
    refine s_retX (lcx_many (φ := bV) (p := bitR) (σ := [some (.ref x), some (nV (n + 1)), none]) (n := n + 1) (ea_cons (ev_var rfl) ea_nil) (by omega) (fun _ => rfl) r2 (fun t i3 H3 Q3 r3 o3 => ?_) ⟨fun l i3 hl H3 k3 r3 D hD hD3 => hO2.ok l i3 hl H3 k3 r3 D (but_fresh (k1.trans k2) r2.some hD) hD3, hO2.err⟩)
    obtain ⟨dx3, hx3⟩ := r3.ins
    exact ⟨_, rfl, x, dx3, _, rfl, hx3, btF_none (by decide +kernel) (by decide +kernel), x, a, bs, i3, rfl, trivial, r3, o3⟩
theorem ok_with_gaps (T : Top K w mg) : Def P w K mg base "with_gaps" 1 ["marks", "readings"] (spGaps K) := by
  obtain ⟨_, c_GAP⟩ := T.c_GAP
  obtain ⟨fd, F⟩ := T.f_with_gaps
  refine ⟨fd, F.ok sc_with_gaps (fun vs H Q E h => by obtain ⟨_, _, _, _, rfl, _⟩ := h; rfl) (fun cdv A outer s H vs Q E hr h => ⟨_, PSs.nox (pss_cons (ps_set (i := 2) sc_with_gaps.nd rfl (Or.inl rfl) (pe_lst pa_nil))
      (pss_cons (ps_set (i := 3) sc_with_gaps.nd rfl (Or.inl rfl) pe_int)
      (pss_cons (ps_for PassesOwn.never rfl (pi_list (pv 0)) (pg_name (i := 4) sc_with_gaps.nd rfl (Or.inl rfl)) (pss_one (ps_if (pt_cmpR op_eq (pv 4) pe_int (nomark _)) (pss_cons (ps_expr (pe_bm PySem.F.plainAttrs_list PySem.F.slot_list_append PySem.F.type_list_append mt_append (pv 2) (pa_cons (pe_ix (ix_listK (K := K) rfl) (pv 1) (pv 3) (fun _ _ => rfl)) pa_nil)))
      (pss_one (ps_set (i := 3) sc_with_gaps.nd rfl (Or.inl rfl) (pe_op op_add (pv 3) pe_int)))) (pss_one (ps_expr (pe_bm PySem.F.plainAttrs_list PySem.F.slot_list_append PySem.F.type_list_append mt_append (pv 2) (pa_cons (pe_glob (v := .int (2000000000)) rfl c_GAP ⟨_, rfl⟩) pa_nil)))))))
      (pss_one (ps_ret (pv 2)))))), ?_⟩), F.bindsN (fun _ _ _ _ _ _ us hl => match us, hl with | [_, _], _ => rfl), F.kp, T.g_with_gaps⟩
  obtain ⟨b, a, m, l, rfl, hM, hS, hml, hm, hQ⟩ := h
  refine q_asgL (el_lst ea_nil (by decide)) fun p H1 hp e1 hp1 => ?_
  refine q_asg (σ := [some (.ref b), some (.ref a), some (.ref p), none, none]) ev_c fun H2 e2 => ?_
  refine q_forLn (σ := [some (.ref b), some (.ref a), some (.ref p), some (nV 0), none]) (ev_var rfl) (ex_l (e1.trans e2) hM) (fun i σ' H' => ∃ v, σ' = [some (.ref b), some (.ref a), some (.ref p), some (nV (ones (m.take i))), v] ∧ Ex H H' ∧ H' p = some (.lst ((Vbemaz.placed (m.take i) l).map gv))) (fun H3 e3 => ⟨none, rfl, (e1.trans e2).trans e3, e3 p _ (e2 _ _ hp1)⟩)
    (fun i σ' H' _ ⟨_, _, e3, _⟩ => ex_l e3 hM) ?_ ?_
  · rintro i v σ' H' hv ⟨u, rfl, e3, hp3⟩
    rw [List.getElem?_map] at hv
    obtain ⟨y, hy, rfl⟩ := Option.map_eq_some_iff.mp hv
    have hi := (List.getElem?_eq_some_iff.mp hy).1
    have hpl : (Vbemaz.placed (m.take i) l).length ≤ 1000 := by rw [placed_len, List.length_take]; omega
    have htk : m.take (i + 1) = m.take i ++ [y] := by rw [List.take_succ, hy]; rfl
    have hon := ones_snoc (m.take i) y
    rw [← htk] at hon
    have hps := placed_snoc (m.take i) y l
    rw [← htk] at hps
    cases y with
    | true =>
      have hle : ones (m.take (i + 1)) ≤ ones m := by
        unfold ones
        exact ((List.take_sublist _ _).filter _).length_le
      have hlt : ones (m.take i) < l.length := by
        rw [if_pos rfl] at hon
        omega
      refine s_if (et_is (et_test (ev_op (ev_var rfl) ev_c (rv_eq rfl))) rfl) (fun _ H4 e4 => ?_) (fun hf => nomatch hf)
      refine q_app (σ := [some (.ref b), some (.ref a), some (.ref p), some (nV (ones (m.take i))), some (bV true)]) (e4 _ _ hp3) (ev_var rfl) (ev_op (ev_var rfl) (ev_var rfl) (rv_ixL (ex_l (e3.trans e4) hS) (atI_nat (by rw [List.getElem?_map, List.getElem?_eq_getElem hlt]; rfl)))) (by rw [List.length_map]; omega) fun H5 e5 => ?_
      refine s_asg (σ := [some (.ref b), some (.ref a), some (.ref p), some (nV (ones (m.take i))), some (bV true)]) (v := nV (ones (m.take i) + 1)) (ev_is (ev_op (ev_var rfl) ev_c rv_I0) rfl) fun H6 e6 => ⟨some (bV true), ?_, (Ex.mut ((e3.trans e4).trans e5) hp).trans e6, ?_⟩
      · rw [hon, if_pos rfl]
        rfl
      · rw [e6 _ _ upd_same, hps, if_pos rfl, List.map_append, List.getElem?_eq_getElem hlt]
        rfl
    | false =>
      refine s_if (et_is (et_test (ev_op (ev_var rfl) ev_c (rv_eq rfl))) rfl) (fun hf => nomatch hf) (fun _ H4 e4 => ?_)
      refine s_app (σ := [some (.ref b), some (.ref a), some (.ref p), some (nV (ones (m.take i))), some (bV false)]) (e4 _ _ hp3) (ev_var rfl) ev_c (by rw [List.length_map]; omega) fun H5 e5 => ⟨some (bV false), ?_, Ex.mut ((e3.trans e4).trans e5) hp, ?_⟩
      · rw [hon, if_neg (by decide)]
        rfl
      · rw [upd_same, hps, if_neg (by decide), List.map_append]
        rfl
  · rintro σ' H' ⟨u, rfl, e3, hp3⟩
    rw [List.length_map, List.take_length] at hp3
    exact s_ret (σ := [some (.ref b), some (.ref a), some (.ref p), some (nV (ones (m.take (m.map bV).length))), u]) (ev_var rfl) fun H4 e4 => hQ p H4 hp (e3.trans e4) (e4 p _ hp3)
theorem ok_read_values (T : Top K w mg) : DefX P w K mg base "read_values" 8 ["reader"] (spValues K) := by
  obtain ⟨fd_read_marks, G_read_marks, b_read_marks, k_read_marks, g_read_marks⟩ := ok_read_marks (P := P) (w := w) (base := base) T
  obtain ⟨fd_with_gaps, G_with_gaps, b_with_gaps, k_with_gaps, g_with_gaps⟩ := ok_with_gaps (P := P) (w := w) (base := base) T
  obtain ⟨fd_read_readings, G_read_readings, b_read_readings, k_read_readings, g_read_readings⟩ := ok_read_readings (P := P) (w := w) (base := base) T
  obtain ⟨fd, F⟩ := T.f_read_values
  refine ⟨fd, F.ok (CX := L2.CX P w) sc_read_values (fun vs H Q E h => by obtain ⟨_, _, _, _, rfl, _⟩ := h; rfl) (fun cdv A outer s H vs Q E hr h => ⟨_, ((pss_cons (ps_set (i := 1) sc_read_values.nd rfl (Or.inl rfl) (pe_call G_read_marks (hr.mono (by decide)) rfl g_read_marks k_read_marks b_read_marks .nil (passes_call (takes_of rfl rfl rfl rfl) (fun _ _ _ _ h => h)) (pa_cons (pv 0) pa_nil)))
      (pss_one (ps_ret (pe_call G_with_gaps (hr.mono (by decide)) rfl g_with_gaps k_with_gaps b_with_gaps .nil pass0 (pa_cons (pv 1) (pa_cons (pe_call G_read_readings (hr.mono (by decide)) rfl g_read_readings k_read_readings b_read_readings .nil (passes_call (takes_of rfl rfl rfl rfl) (fun _ _ _ _ h => h)) (pa_cons (pv 0) (pa_cons (pe_callB (cr_sumK (K := K) rfl rfl) (by rfl) T.b_sum (by decide +kernel) (pa_cons (pv 1) pa_nil)) pa_nil))) pa_nil))))))), ?_⟩), F.bindsN (fun _ _ _ _ _ _ us hl => match us, hl with | [_], _ => rfl), F.kp, T.g_read_values⟩
  obtain ⟨x, a, bs, i, rfl, hr0, hO⟩ := h
  refine ⟨_, rfl, x, a, bs, i, rfl, hr0, fun mk i1 hm H1 k1 r1 D hD hD1 => ?_, fun e he H1 k1 => Out.fail hO he k1⟩
  have hO1 := Out.bind hO hm k1
  have hml : mk.length ≤ 16 := marks_len _ _ _ hm
  have hol := ones_le mk
  have nDx : D ≠ x := by
    obtain ⟨dx, hx⟩ := hr0.ins
    exact (ne_of_none hx hD).symm
  have hsum : SqL K H1 D ((mk.map Vbemaz.bit).map V.int) := by
    rw [List.map_map]
    exact sq_of hD1
  refine ⟨_, rfl, _, rfl, ?_⟩
  refine (ev_is (ev_sum (ea_cons (ev_var rfl) ea_nil) hsum) (show V.int _ = nV (ones mk) by rw [ones_sum])) H1 (Ex.refl H1) _ fun H2 e2 => ?_
  refine ⟨x, a, bs, i1, ones mk, rfl, by omega, r1.ex e2, fun l i3 hl H3 k3 r3 L hL hL3 => ?_, fun e he H3 k3 => Out.fail hO1 he ((But.of e2).trans k3)⟩
  have hll := readings_len (ones mk) _ _ _ hl
  have hO2 := Out.bind hO1 hl ((But.of e2).trans k3)
  refine ⟨D, L, mk, l, rfl, sq_of (k3 D _ (e2 _ _ hD1) nDx), sq_of hL3, by omega, by omega, fun p H4 hp e4 h4 => ?_⟩
  exact hO2.done (But.of e4) (r3.ex e4) p (but_fresh (k1.trans ((But.of e2).trans k3)) r3.some hp) h4
theorem ok_is_filling (T : Top K w mg) : Def P w K mg base "is_filling" 1 ["bits"] (spFilling K) := by
  obtain ⟨fd, F⟩ := T.f_is_filling
  refine ⟨fd, F.ok sc_is_filling (fun vs H Q E h => by obtain ⟨_, _, rfl, _⟩ := h; rfl) (fun cdv A outer s H vs Q E hr h => ⟨_, PSs.nox (pss_one (ps_ret (pe_and (pe_cmpR op_lt (pe_callB (call_lenK (K := K) rfl) (by rfl) T.b_len PySem.boot_len (pa_cons (pv 0) pa_nil)) pe_int (nomark _)) (pe_one (pe_cmpR (op_notIn_seqK (K := K) rfl) pe_int (pv 0) (by rfl)))))), ?_⟩), F.bindsN (fun _ _ _ _ _ _ us hl => match us, hl with | [_], _ => rfl), F.kp, T.g_is_filling⟩
  obtain ⟨a, r, rfl, hS, hQ⟩ := h
  have hall : (r.map bV).all flatV = true := by
    rw [List.all_map]
    exact List.all_eq_true.mpr fun _ _ => rfl
  have hin : inV (.int 1) (r.map bV) = r.any fun x => x := by
    unfold inV
    rw [List.any_map]
    congr 1
    funext x
    cases x <;> rfl
  refine s_ret (ev_is (ev_andV (ev_op (ev_lenS (ea_cons (ev_var rfl) ea_nil) hS) ev_c rv_I0) (fun _ => ev_op ev_c (ev_var rfl) (rv_niL hS rfl hall))) ?_) fun H1 e1 => hQ.go e1
  show V.bl _ = V.bl _
  rw [hin, List.length_map, Bool.not_or, ← decide_not]
  congr 2
  exact decide_eq_decide.mpr (by omega)
end
end PR
set_option Elab.async false
set_option linter.all false
set_option maxRecDepth 100000
set_option maxHeartbeats 4000000
namespace PR
open PySem PySem.Spec PyProof.Rows L2 Evl
/-! ### bytes read as a block -/
/-- what read_block gives back: a new pair, its second item a list -/
def FoundAs (b : List Nat) (code : Nat) (vals : List Vbemaz.Val) : Prop := match Vbemaz.unpack b with
  | .error e => code = e ∧ e ≠ 0
  | .ok v => code = 0 ∧ vals = v
def spReadBlock (K : PySem.W.Frag) : Sp := fun vs H Q _ => ∃ (r : Addr) (b : List Nat), vs = [.ref r] ∧ H r = some (.lst (b.map nV)) ∧ b.length ≤ 200 ∧
  ∀ t q H' code vals, H t = none → H q = none → Ex H H' → H' t = some (.tup [nV code, .ref q]) → H' q = some (.lst (vals.map gv)) → FoundAs b code vals → Q (.ref t) H'
def spUnpack (K : PySem.W.Frag) : Sp := fun vs H Q _ => ∃ (r : Addr) (b : List Nat), vs = [.ref r] ∧ H r = some (.lst (b.map nV)) ∧ b.length ≤ 200 ∧ RetL ((aUnpack b).map V.int) H Q
def spLoad (K : PySem.W.Frag) : Sp := fun vs H Q _ => ∃ (x r : Addr) (F : List Addr) (s : Vbemaz.Series) (b : List Nat), vs = [.ref x, .ref r] ∧ Ser (cSer K) H x F s ∧ H r = some (.lst (b.map nV)) ∧ b.length ≤ 200 ∧ RetC K x F (cLoad s b).1 (cLoad s b).2 H Q
section
variable {K : PySem.W.Frag} {σ : L2.St} {H : Hp} {D : Ends}
/-- (n, []) -/
theorem s_retPair {n : Int} (k : ∀ t q H', H t = none → H q = none → Ex H H' → H' t = some (.tup [.int n, .ref q]) → H' q = some (.lst []) → D.rt (.ref t) H') : tRet (tTup (tCons (tC (.int n)) (tCons (tLst tNil) tNil))) D σ H :=
  ⟨show 0 ≤ sizeLine by decide, fun q hq => ⟨show 2 ≤ sizeLine by decide, fun t ht => k t q _ (fresh_back (Ex.new hq) ht) hq ((Ex.new hq).trans (Ex.new ht)) upd_same (by
    have ne : q ≠ t := by
      intro z
      rw [← z, upd_same] at ht
      cases ht
    rw [upd_ne ne, upd_same])⟩⟩
theorem dp_ints : ∀ ns : List Int, DpAll K H (ns.map V.int) (ns.map PyData.int)
  | [] => .nil
  | n :: ns => .cons (.int n) (dp_ints ns)
theorem rv_neInts {p r : Addr} {ns ms : List Int} (h1 : SqL K H p (ns.map V.int)) (h2 : SqL K H r (ms.map V.int)) : RV (rNeD K) (.ref p) (.ref r) H (.bl (!decide (ns = ms))) := fun H1 e Q q => by
  refine ⟨.list (ns.map PyData.int), .list (ms.map PyData.int), .lst (ex_l e h1) (dp_ints ns), .lst (ex_l e h2) (dp_ints ms), PySem.W.shaped_ints ns, PySem.W.shaped_ints ms, ?_⟩
  have e2 : PyData.eqv (.list (ns.map PyData.int)) (.list (ms.map PyData.int)) = decide (ns = ms) := by
    show PyData.eqvAll _ _ = _
    exact PySem.W.ked_eqvAll ns ms
  rw [e2]
  exact q H1 (Ex.refl H1)
end
theorem But.toEx {H Ha Hb : Hp} {x : Addr} (k : But Ha Hb x) (e : Ex H Ha) (h : H x = none) : Ex H Hb := fun b o hb => k b o (e b o hb) (ne_of_none hb h)
theorem nat_ints (l : List Nat) : l.map nV = (l.map fun (n : Nat) => (n : Int)).map V.int := by rw [List.map_map]; rfl
theorem cast_inj {l m : List Nat} : ((l.map fun (n : Nat) => (n : Int)) = m.map fun (n : Nat) => (n : Int)) ↔ l = m := by
  constructor
  · intro h
    have := congrArg (List.map Int.toNat) h
    rw [List.map_map, List.map_map] at this
    have e : ∀ l : List Nat, l.map (Int.toNat ∘ fun (n : Nat) => (n : Int)) = l := fun l => by
      conv => rhs; rw [← List.map_id l]
      rfl
    rwa [e, e] at this
  · intro h
    rw [h]
section
variable {P : Program} {w : World} {K : PySem.W.Frag} {mg : Str → Option Value} {base : Heap}
theorem ok_read_block (T : Top K w mg) : Def P w K mg base "read_block" 9 ["row"] (spReadBlock K) := by
  obtain ⟨fd_all_in_bits, G_all_in_bits, b_all_in_bits, k_all_in_bits, g_all_in_bits⟩ := ok_all_in_bits (P := P) (w := w) (base := base) T
  obtain ⟨fd_read_values, G_read_values, b_read_values, k_read_values, g_read_values⟩ := ok_read_values (P := P) (w := w) (base := base) T
  obtain ⟨fd_is_filling, G_is_filling, b_is_filling, k_is_filling, g_is_filling⟩ := ok_is_filling (P := P) (w := w) (base := base) T
  obtain ⟨fd_as_bytes, G_as_bytes, b_as_bytes, k_as_bytes, g_as_bytes⟩ := ok_as_bytes (P := P) (w := w) (base := base) T
  obtain ⟨fd_block_bits, G_block_bits, b_block_bits, k_block_bits, g_block_bits⟩ := ok_block_bits (P := P) (w := w) (base := base) T
  obtain ⟨fd_BitReader_bits_left, G_BitReader_bits_left, b_BitReader_bits_left⟩ := ok_BitReader_bits_left (P := P) (w := w) (base := base) T
  obtain ⟨fd_BitReader___init__, G_BitReader___init__, b_BitReader___init__⟩ := ok_BitReader___init__ (P := P) (w := w) (base := base) T
  obtain ⟨_, c_WRONG_NUMBER⟩ := T.c_WRONG_NUMBER
  obtain ⟨_, c_BITS_LACK⟩ := T.c_BITS_LACK
  obtain ⟨_, c_BITS_LEFT_OVER⟩ := T.c_BITS_LEFT_OVER
  obtain ⟨_, c_OTHER_BYTES⟩ := T.c_OTHER_BYTES
  obtain ⟨_, c_NOTHING_WRONG⟩ := T.c_NOTHING_WRONG
  obtain ⟨fd, F⟩ := T.f_read_block
  refine ⟨fd, F.ok sc_read_block (fun vs H Q E h => by obtain ⟨_, _, rfl, _⟩ := h; rfl) (fun cdv A outer s H vs Q E hr h => ⟨_, PSs.nox (pss_cons (ps_set (i := 1) sc_read_block.nd rfl (Or.inl rfl) (pe_make T.mk_BitReader G_BitReader___init__ (hr.mono (by decide)) rfl T.g_BitReader b_BitReader___init__ .nil pass0 (pa_cons (pe_call G_all_in_bits (hr.mono (by decide)) rfl g_all_in_bits k_all_in_bits b_all_in_bits .nil pass0 (pa_cons (pv 0) (pa_cons pe_int pa_nil))) pa_nil)))
      (pss_cons (ps_try_many rfl rfl takes0 (fun W pn xe tk _ => (pss_one (ps_set (i := 2) sc_read_block.nd rfl (Or.inl rfl) (pe_callS G_read_values (hr.mono (by decide)) rfl g_read_values k_read_values b_read_values (fun σ => passAt tk σ) (pa_cons (pv 1) pa_nil))))) (HdsOk.cons ⟨rfl, by decide, .inl T.g_BitsLack⟩ (fun a oe cls d pn _ _ => (pss_one (ps_ret (pe_tup (pa_cons (pe_glob (v := .int (1)) rfl c_BITS_LACK ⟨_, rfl⟩) (pa_cons (pe_lst pa_nil) pa_nil)))))) (HdsOk.cons ⟨rfl, by decide, .inl T.g_WrongNumber⟩ (fun a oe cls d pn _ _ => (pss_one (ps_ret (pe_tup (pa_cons (pe_glob (v := .int (2)) rfl c_WRONG_NUMBER ⟨_, rfl⟩) (pa_cons (pe_lst pa_nil) pa_nil)))))) HdsOk.nil)))
      (pss_cons (ps_if (pt_not (pt_val (pe_call G_is_filling (hr.mono (by decide)) rfl g_is_filling k_is_filling b_is_filling .nil pass0 (pa_cons (pe_meth0 (pv 1) T.cl_BitReader T.m_BitReader_bits_left G_BitReader_bits_left (hr.mono (by decide)) b_BitReader_bits_left .nil pass0) pa_nil)))) (pss_one (ps_ret (pe_tup (pa_cons (pe_glob (v := .int (3)) rfl c_BITS_LEFT_OVER ⟨_, rfl⟩) (pa_cons (pe_lst pa_nil) pa_nil))))) pss_nil)
      (pss_cons (ps_if (pt_cmpR (op_neD hr.units) (pe_call G_as_bytes (hr.mono (by decide)) rfl g_as_bytes k_as_bytes b_as_bytes .nil pass0 (pa_cons (pe_call G_block_bits (hr.mono (by decide)) rfl g_block_bits k_block_bits b_block_bits .nil pass0 (pa_cons (pv 2) pa_nil)) pa_nil)) (pv 0) (nomark _)) (pss_one (ps_ret (pe_tup (pa_cons (pe_glob (v := .int (4)) rfl c_OTHER_BYTES ⟨_, rfl⟩) (pa_cons (pe_lst pa_nil) pa_nil))))) pss_nil)
      (pss_one (ps_ret (pe_tup (pa_cons (pe_glob (v := .int (0)) rfl c_NOTHING_WRONG ⟨_, rfl⟩) (pa_cons (pv 2) pa_nil))))))))), ?_⟩), F.bindsN (fun _ _ _ _ _ _ us hl => match us, hl with | [_], _ => rfl), F.kp, T.g_read_block⟩
  obtain ⟨r, b, rfl, hr0, hl, hQ⟩ := h
  refine q_asgM ?_
  refine (el_call (ea_cons (ev_var rfl) (ea_cons ev_c ea_nil)) (sl_allInBits2 (w := 8) (sq_of hr0) hl (by decide))) H (Ex.refl H) _ fun a H1 ha e1 h1 => ?_
  refine fun x dx hx hdx hne => ⟨x, a, dx, Vbemaz.toBits b, rfl, upd_same, ?_, fun H2 k2 r2 => ⟨rfl, ?_⟩⟩
  · rw [upd_ne (ne_of_none h1 hx), upd_ne (ne_of_none h1 hdx)]
    exact h1
  have e12 : Ex H1 H2 := by
    intro c o hc
    refine k2 c o ?_ (ne_of_none hc hx)
    rw [upd_ne (ne_of_none hc hx), upd_ne (ne_of_none hc hdx)]
    exact hc
  have e02 : Ex H H2 := e1.trans e12
  have hx0 : H x = none := fresh_back e1 hx
  refine ⟨_, rfl, x, a, Vbemaz.toBits b, 0, rfl, r2, fun vals i3 hv H3 k3 r3 q hq hq3 => ?_, fun e he H3 k3 => ?_⟩
  · rw [List.drop_zero] at hv
    have e03 : Ex H H3 := k3.toEx e02 hx0
    have hvo := values_ok hv
    obtain ⟨dx3, hx3⟩ := r3.ins
    have hqH : H q = none := fresh_back e02 hq
    refine q_when (σ := [some (.ref r), some (.ref x), some (.ref q)]) (et_not (et_B (ev_callN (el_meth (ev_var rfl) hx3 (btF_none (by decide +kernel) (by decide +kernel)) ea_nil (fun H4 e4 _ qq _ => ⟨x, a, _, i3, rfl, r3.ex e4, qq⟩)) (fun p H4 hp e4 => fun H5 e5 _ qq _ => ⟨p, _, rfl, sq_of (e5 _ _ hp), qq⟩)))) (fun hb H4 e4 => ?_) (fun hb H4 e4 => ?_)
    · have hb : (decide (8 ≤ ((Vbemaz.toBits b).drop i3).length) || ((Vbemaz.toBits b).drop i3).any fun x => x) = true := by simpa using hb
      refine s_retPair fun t q2 H5 ht hq2 e5 h5 h6 => hQ t q2 H5 3 [] (fresh_back (e03.trans e4) ht) (fresh_back (e03.trans e4) hq2) ((e03.trans e4).trans e5) h5 h6 ?_
      unfold FoundAs
      rw [unpack_is, hv]
      dsimp only
      rw [if_pos hb]
      exact ⟨rfl, by decide⟩
    · have hb : ¬ (decide (8 ≤ ((Vbemaz.toBits b).drop i3).length) || ((Vbemaz.toBits b).drop i3).any fun x => x) = true := by simpa using hb
      have hpl := packed_len hvo.2.1 hvo.2.2
      refine q_when (σ := [some (.ref r), some (.ref x), some (.ref q)]) (et_is (et_test (ev_opL1 (el_callN (el_call (ea_cons (ev_var rfl) ea_nil) (sl_blockBits (sq_of (e4 _ _ hq3)) hvo.2.2 hvo.2.1 (by intro z; rw [z] at hvo; exact absurd hvo.1 (by decide)))) (fun p H5 hp e5 => sl_asBytes (sq_of hp) (by omega))) (fun H5 e5 => ev_var rfl) (fun p H5 hp e5 => rv_neInts (ns := (Vbemaz.pack vals).map fun (n : Nat) => (n : Int)) (ms := b.map fun (n : Nat) => (n : Int)) (sq_of (by rw [hp]; unfold Vbemaz.pack; rw [List.map_map]; rfl)) (sq_of (by rw [← nat_ints]; exact e5 _ _ (e4 _ _ (e03 _ _ hr0))))))) (show _ = !decide (Vbemaz.pack vals = b) by rw [decide_eq_decide.mpr cast_inj])) (fun hb2 H5 e5 => ?_) (fun hb2 H5 e5 => ?_)
      · have hb2 : ¬ Vbemaz.pack vals = b := by simpa using hb2
        have e05 := (e03.trans e4).trans e5
        refine s_retPair fun t q2 H6 ht hq2 e6 h5 h6 => hQ t q2 H6 4 [] (fresh_back e05 ht) (fresh_back e05 hq2) (e05.trans e6) h5 h6 ?_
        unfold FoundAs
        rw [unpack_is, hv]
        dsimp only
        rw [if_neg hb, if_neg hb2]
        exact ⟨rfl, by decide⟩
      · have hb2 : Vbemaz.pack vals = b := by simpa using hb2
        have e05 := (e03.trans e4).trans e5
        refine (eu_tup (ea_cons ev_c (ea_cons (ev_var rfl) ea_nil)) (show 2 ≤ 100000 by decide)) H5 (Ex.refl H5) _ fun t H6 ht e6 h6 => hQ t q H6 0 vals (fresh_back e05 ht) hqH (e05.trans e6) h6 (e6 _ _ (e5 _ _ (e4 _ _ hq3))) ?_
        unfold FoundAs
        rw [unpack_is, hv]
        dsimp only
        rw [if_neg hb, if_pos hb2]
        exact ⟨rfl, rfl⟩
  · rw [List.drop_zero] at he
    have e03 : Ex H H3 := k3.toEx e02 hx0
    have fnd : ∀ vals, FoundAs b e vals := fun vals => by
      unfold FoundAs
      rw [unpack_is, he]
      refine ⟨rfl, ?_⟩
      rcases errs_values _ _ he with z | z <;> rw [z] <;> decide
    rcases errs_values _ _ he with rfl | rfl
    · exact ⟨true, T.xm_BitsLack_BitsLack, fun _ z hz => s_retPair fun t q2 H6 ht hq2 e6 h5 h6 => hQ t q2 H6 1 [] (fresh_back e03 ht) (fresh_back e03 hq2) (e03.trans e6) h5 h6 (fnd []), fun z => nomatch z⟩
    · exact ⟨false, T.xm_WrongNumber_BitsLack, fun z => absurd z (by decide), fun _ => ⟨true, T.xm_WrongNumber_WrongNumber, fun _ z hz => s_retPair fun t q2 H6 ht hq2 e6 h5 h6 => hQ t q2 H6 2 [] (fresh_back e03 ht) (fresh_back e03 hq2) (e03.trans e6) h5 h6 (fnd []), fun z => nomatch z⟩⟩
theorem ok_unpack_row (T : Top K w mg) : Def P w K mg base "unpack_row" 10 ["row"] (spUnpack K) := by
  obtain ⟨fd_read_block, G_read_block, b_read_block, k_read_block, g_read_block⟩ := ok_read_block (P := P) (w := w) (base := base) T
  obtain ⟨fd_told_row, G_told_row, b_told_row, k_told_row, g_told_row⟩ := ok_told_row (P := P) (w := w) (base := base) T
  obtain ⟨fd_told_values, G_told_values, b_told_values, k_told_values, g_told_values⟩ := ok_told_values (P := P) (w := w) (base := base) T
  obtain ⟨_, c_NOTHING_WRONG⟩ := T.c_NOTHING_WRONG
  obtain ⟨fd, F⟩ := T.f_unpack_row
  refine ⟨fd, F.ok sc_unpack_row (fun vs H Q E h => by obtain ⟨_, _, rfl, _⟩ := h; rfl) (fun cdv A outer s H vs Q E hr h => ⟨_, PSs.nox (pss_cons (ps_set (i := 1) sc_unpack_row.nd rfl (Or.inl rfl) (pe_call G_read_block (hr.mono (by decide)) rfl g_read_block k_read_block b_read_block .nil pass0 (pa_cons (pv 0) pa_nil)))
      (pss_cons (ps_if (pt_cmpR op_ne (pe_ix (ix_tupK (K := K) rfl) (pv 1) pe_int (fun _ _ => rfl)) (pe_glob (v := .int (0)) rfl c_NOTHING_WRONG ⟨_, rfl⟩) (nomark _)) (pss_one (ps_ret (pe_lst (pa_cons pe_int (pa_cons (pe_ix (ix_tupK (K := K) rfl) (pv 1) pe_int (fun _ _ => rfl)) pa_nil))))) pss_nil)
      (pss_one (ps_ret (pe_op op_cat (pe_lst (pa_cons pe_int (pa_cons (pe_glob (v := .int (0)) rfl c_NOTHING_WRONG ⟨_, rfl⟩) pa_nil))) (pe_call G_told_row (hr.mono (by decide)) rfl g_told_row k_told_row b_told_row .nil pass0 (pa_cons (pe_call G_told_values (hr.mono (by decide)) rfl g_told_values k_told_values b_told_values .nil pass0 (pa_cons (pe_ix (ix_tupK (K := K) rfl) (pv 1) pe_int (fun _ _ => rfl)) pa_nil)) pa_nil))))))), ?_⟩), F.bindsN (fun _ _ _ _ _ _ us hl => match us, hl with | [_], _ => rfl), F.kp, T.g_unpack_row⟩
  obtain ⟨r, b, rfl, hr0, hl, hQ⟩ := h
  refine q_asgM ?_
  refine ⟨_, rfl, r, b, rfl, hr0, hl, fun t q H1 code vals ht hq e1 h1 h2 hf => ?_⟩
  refine q_when (σ := [some (.ref r), some (.ref t)]) (et_is (et_test (ev_op (ev_op (ev_var rfl) ev_c (rv_ixT (st_of h1) (at_of (j := 0) rfl rfl))) ev_c (rv_ne rfl))) (show _ = !decide (code = 0) by congr 1; exact decide_eq_decide.mpr ⟨fun z => by have := V.int.inj z; omega, fun z => by rw [z]; rfl⟩)) (fun hb H2 e2 => ?_) (fun hb H2 e2 => ?_)
  · have hb : ¬ code = 0 := by simpa using hb
    have e : aUnpack b = [0, (code : Int)] := by
      unfold FoundAs at hf
      unfold aUnpack
      cases hu : Vbemaz.unpack b with
      | error z => rw [hu] at hf; rw [hf.1]
      | ok v => rw [hu] at hf; exact absurd hf.1 hb
    rw [e] at hQ
    exact s_retL (σ := [some (.ref r), some (.ref t)]) (el_lst (ea_cons ev_c (ea_cons (ev_op (ev_var rfl) ev_c (rv_ixT (st_of (e2 _ _ h1)) (at_of (j := 0) rfl rfl))) ea_nil)) (show 2 ≤ 100000 by decide)) fun p H3 hp e3 h3 => hQ.go (e1.trans e2) hp e3 h3
  · have hb : code = 0 := by simpa using hb
    obtain ⟨v, hu⟩ : ∃ v, Vbemaz.unpack b = .ok v := by
      unfold FoundAs at hf
      cases hu : Vbemaz.unpack b with
      | error z => rw [hu] at hf; exact absurd (hf.1.symm.trans hb) hf.2
      | ok v => exact ⟨v, rfl⟩
    have hvv : vals = v := by
      unfold FoundAs at hf
      rw [hu] at hf
      exact hf.2
    subst hvv
    have e : aUnpack b = 0 :: 0 :: Vbemaz.row (vals.flatMap Vbemaz.told) := by
      unfold aUnpack
      rw [hu]
    rw [e] at hQ
    have hvo := unpack_ok hu
    refine s_retL (σ := [some (.ref r), some (.ref t)]) (el_cat (el_lst (ea_cons ev_c (ea_cons ev_c ea_nil)) (by decide)) (el_callN (el_call (ea_cons (ev_op (ev_var rfl) ev_c (rv_ixT (st_of (e2 _ _ h1)) (at_of (j := 1) rfl rfl))) ea_nil) (sl_toldVals (sq_of (e2 _ _ h2)) hvo.2.2 (by omega))) (fun z H3 hz e3 => sl_toldRow hz (by rw [tolds_len]; omega))) ?_) fun p H3 hp e3 h3 => hQ.go (e1.trans e2) hp e3 h3
    rw [List.length_map]
    show 2 + (_ + 1) ≤ 100000
    rw [tolds_len]
    omega
theorem ok_load_row (T : Top K w mg) : Def P w K mg base "load_row" 10 ["series", "row"] (spLoad K) := by
  obtain ⟨fd_read_block, G_read_block, b_read_block, k_read_block, g_read_block⟩ := ok_read_block (P := P) (w := w) (base := base) T
  obtain ⟨fd_add_row, G_add_row, b_add_row, k_add_row, g_add_row⟩ := ok_add_row (P := P) (w := w) (base := base) T
  obtain ⟨_, c_NOTHING_WRONG⟩ := T.c_NOTHING_WRONG
  obtain ⟨_, c_WRONG_BYTES⟩ := T.c_WRONG_BYTES
  obtain ⟨fd, F⟩ := T.f_load_row
  refine ⟨fd, F.ok sc_load_row (fun vs H Q E h => by obtain ⟨_, _, _, _, _, rfl, _⟩ := h; rfl) (fun cdv A outer s H vs Q E hr h => ⟨_, PSs.nox (pss_cons (ps_set (i := 2) sc_load_row.nd rfl (Or.inl rfl) (pe_call G_read_block (hr.mono (by decide)) rfl g_read_block k_read_block b_read_block .nil pass0 (pa_cons (pv 1) pa_nil)))
      (pss_cons (ps_if (pt_cmpR op_ne (pe_ix (ix_tupK (K := K) rfl) (pv 2) pe_int (fun _ _ => rfl)) (pe_glob (v := .int (0)) rfl c_NOTHING_WRONG ⟨_, rfl⟩) (nomark _)) (pss_one (ps_ret (pe_lst (pa_cons (pe_glob (v := .int (-3)) rfl c_WRONG_BYTES ⟨_, rfl⟩) pa_nil)))) pss_nil)
      (pss_one (ps_ret (pe_call G_add_row (hr.mono (by decide)) rfl g_add_row k_add_row b_add_row .nil pass0 (pa_cons (pv 0) (pa_cons (pe_ix (ix_tupK (K := K) rfl) (pv 2) pe_int (fun _ _ => rfl)) pa_nil))))))), ?_⟩), F.bindsN (fun _ _ _ _ _ _ us hl => match us, hl with | [_, _], _ => rfl), F.kp, T.g_load_row⟩
  obtain ⟨x, r, F, s0, b, rfl, hs, hr0, hl, hQ⟩ := h
  refine q_asgM ?_
  refine ⟨_, rfl, r, b, rfl, hr0, hl, fun t q H1 code vals ht hq e1 h1 h2 hf => ?_⟩
  refine q_when (σ := [some (.ref x), some (.ref r), some (.ref t)]) (et_is (et_test (ev_op (ev_op (ev_var rfl) ev_c (rv_ixT (st_of h1) (at_of (j := 0) rfl rfl))) ev_c (rv_ne rfl))) (show _ = !decide (code = 0) by congr 1; exact decide_eq_decide.mpr ⟨fun z => by have := V.int.inj z; omega, fun z => by rw [z]; rfl⟩)) (fun hb H2 e2 => ?_) (fun hb H2 e2 => ?_)
  · have hb : ¬ code = 0 := by simpa using hb
    have e : cLoad s0 b = (s0, [-3]) := by
      unfold FoundAs at hf
      unfold cLoad
      cases hu : Vbemaz.unpack b with
      | error z => rfl
      | ok v => rw [hu] at hf; exact absurd hf.1 hb
    rw [e] at hQ
    exact s_retL (σ := [some (.ref x), some (.ref r), some (.ref t)]) (el_lst (ea_cons ev_c ea_nil) (by decide)) fun p H3 hp e3 h3 => hQ p H3 (fresh_back (e1.trans e2) hp) (chg_same hs ((e1.trans e2).trans e3)) h3
  · have hb : code = 0 := by simpa using hb
    obtain ⟨v, hu⟩ : ∃ v, Vbemaz.unpack b = .ok v := by
      unfold FoundAs at hf
      cases hu : Vbemaz.unpack b with
      | error z => rw [hu] at hf; exact absurd (hf.1.symm.trans hb) hf.2
      | ok v => exact ⟨v, rfl⟩
    have hvv : vals = v := by
      unfold FoundAs at hf
      rw [hu] at hf
      exact hf.2
    subst hvv
    have e : cLoad s0 b = cAdd s0 vals := by
      unfold cLoad
      rw [hu]
    rw [e] at hQ
    have hvo := unpack_ok hu
    have e12 := e1.trans e2
    have hqF : q ∉ F := by
      intro z
      obtain ⟨l, hl⟩ := hs.kinds.2 q z
      rw [hq] at hl
      cases hl
    refine ⟨_, rfl, ?_⟩
    refine (ev_op (ev_var (i := 2) (σ := [some (.ref x), some (.ref r), some (.ref t)]) rfl) ev_c (rv_ixT (st_of (e2 _ _ h1)) (at_of (j := 1) rfl rfl))) H2 (Ex.refl H2) _ fun H3 e3 => ?_
    have e13 := e12.trans e3
    exact ⟨x, q, F, s0, vals, rfl, hs.ex e13, e3 _ _ (e2 _ _ h2), hqF, hvo.2.2, by omega, fun p H4 hp hc h4 => hQ p H4 (fresh_back e13 hp) (hc.pre e13) h4⟩
end
end PR
set_option Elab.async false
set_option linter.all false
set_option maxRecDepth 100000
set_option maxHeartbeats 4000000
namespace PR
open PySem PySem.Spec PyProof.Rows L2 Evl
/-! ### the dispatch -/
def givs (nums : List Int) (rows : List (List Int)) : List Gv := nums.map Gv.num ++ rows.map Gv.row
theorem gv_valOf (n : Int) : gv (Vbemaz.valOf n) = V.int n := by
  unfold Vbemaz.valOf
  by_cases h : n = Vbemaz.GAP
  · rw [if_pos h, h]; rfl
  · rw [if_neg h]; rfl
theorem valOf_ok {n : Int} (h : Vbemaz.isVal n = true) : ∀ z, Vbemaz.valOf n = some z → z.natAbs ≤ 1000000000 := by
  intro z hz
  unfold Vbemaz.valOf at hz
  by_cases hg : n = Vbemaz.GAP
  · rw [if_pos hg] at hz; cases hz
  · rw [if_neg hg] at hz
    obtain rfl : n = z := Option.some.inj hz
    unfold Vbemaz.isVal Vbemaz.within at h
    rw [Bool.or_eq_true, Bool.and_eq_true] at h
    rcases h with ⟨h1, h2⟩ | h
    · have h1 := of_decide_eq_true h1
      have h2 := of_decide_eq_true h2
      unfold Vbemaz.MOST at h1 h2
      omega
    · exact absurd (eq_of_beq h) hg
theorem valsRow {l : List Int} : (l.map Vbemaz.valOf).map gv = l.map V.int := by
  rw [List.map_map]
  exact List.map_congr_left fun n _ => gv_valOf n
theorem valsOk {l : List Int} (h : l.all Vbemaz.isVal = true) : okV (l.map Vbemaz.valOf) := by
  intro x hx
  obtain ⟨n, hn, e⟩ := List.mem_map.mp hx
  exact valOf_ok (List.all_eq_true.mp h n hn) x e
theorem valsYes {l : List Int} (h : (decide (1 ≤ l.length ∧ l.length ≤ 64) && l.all Vbemaz.isVal) = true) : Vbemaz.valsOf l = some (l.map Vbemaz.valOf) := if_pos h
theorem bytesYes {l : List Int} (h : (decide (l.length ≤ 200) && l.all fun c => Vbemaz.within c 0 255) = true) : Vbemaz.bytesIn l = some (l.map fun c => c.toNat) := if_pos h
theorem nums_1 {l : List Int} (h : l.length = 1) : ∃ a, l = [a] := by
  match l, h with
  | [a], _ => exact ⟨a, rfl⟩
theorem nums_2 {l : List Int} (h : l.length = 2) : ∃ a b, l = [a, b] := by
  match l, h with
  | [a, b], _ => exact ⟨a, b, rfl⟩
theorem nums_3 {l : List Int} (h : l.length = 3) : ∃ a b c, l = [a, b, c] := by
  match l, h with
  | [a, b, c], _ => exact ⟨a, b, c, rfl⟩
theorem nums_0 {l : List Int} (h : l.length = 0) : l = [] := List.eq_nil_of_length_eq_zero h
theorem rows_1 {α : Type} {l : List α} (h : l.length = 1) : ∃ a, l = [a] := by
  match l, h with
  | [a], _ => exact ⟨a, rfl⟩
theorem rows_0 {α : Type} {l : List α} (h : l.length = 0) : l = [] := List.eq_nil_of_length_eq_zero h
theorem allFit0 : allFit [] [] = true := rfl
theorem allFit1 (k : Kd) (g : Gv) : allFit [k] [g] = k.fits g := by
  show (_ && true) = _
  rw [Bool.and_true]
  rfl
theorem allFit2 (k l : Kd) (g h : Gv) : allFit [k, l] [g, h] = (k.fits g && l.fits h) := by
  show (_ && (_ && true)) = _
  rw [Bool.and_true]
  rfl
theorem allFit3 (k l m : Kd) (g h j : Gv) : allFit [k, l, m] [g, h, j] = (k.fits g && (l.fits h && m.fits j)) := by
  show (_ && (_ && (_ && true))) = _
  rw [Bool.and_true]
  rfl
theorem within_cast {a lo hi : Int} (h : Vbemaz.within a lo hi = true) (hlo : 0 ≤ lo) : ∃ n : Nat, a = (n : Int) ∧ lo ≤ (n : Int) ∧ (n : Int) ≤ hi := by
  unfold Vbemaz.within at h
  rw [Bool.and_eq_true] at h
  have h1 := of_decide_eq_true h.1
  have h2 := of_decide_eq_true h.2
  exact ⟨a.toNat, by omega, by omega, by omega⟩
theorem retL_at {l : List V} {H H1 : Hp} {Q : VK} (k : RetL l H Q) (e : Ex H H1) : RetL l H1 Q := fun p H2 hp e2 h2 => k.go e hp e2 h2
theorem RetC.at {K : PySem.W.Frag} {x : Addr} {F : List Addr} {s' : Vbemaz.Series} {ans : List Int} {H H1 : Hp} {Q : VK} (k : RetC K x F s' ans H Q) (e : Ex H H1) : RetC K x F s' ans H1 Q := fun p H2 hp c h2 => k p H2 (fresh_back e hp) (c.pre e) h2
/-- what follows a call that comes to res -/
def EndsA (K : PySem.W.Frag) (H : Hp) (xs : List Addr) (Fs : List (List Addr)) (res : Vbemaz.State × List Int) (Q : VK) : Prop := ∀ H' q Fs', H q = none → All (cSer K) H' xs Fs' res.1 → KeepA H H' xs Fs → NewA H Fs Fs' → H' q = some (.lst (res.2.map V.int)) → res.2.length ≤ 900 → Q (.ref q) H'
theorem ends_same {K : PySem.W.Frag} {H : Hp} {xs : List Addr} {Fs : List (List Addr)} {S : Vbemaz.State} {ans : List Int} {Q : VK} (h : EndsA K H xs Fs (S, ans) Q) (hA : All (cSer K) H xs Fs S) (hl : ans.length ≤ 900) : RetL (ans.map V.int) H Q := fun p H2 hp e2 h2 =>
  h H2 p Fs hp (hA.ex e2) (fun b o hb _ _ => e2 _ _ hb) (fun F' hF b hb => .inl ⟨F', hF, hb⟩) h2 hl
theorem ends_chg {K : PySem.W.Frag} {H : Hp} {xs : List Addr} {Fs : List (List Addr)} {S : Vbemaz.State} {s' : Vbemaz.Series} {ans : List Int} {Q : VK} {i : Nat} {x : Addr} {F : List Addr} (h : EndsA K H xs Fs (Vbemaz.put S i s', ans) Q) (hA : All (cSer K) H xs Fs S) (hx : xs[i]? = some x) (hF : Fs[i]? = some F) (hl : ans.length ≤ 900) : RetC K x F s' ans H Q := fun p H2 hp c h2 => by
  obtain ⟨Fs', a1, a2, a3⟩ := hA.chg hx hF c
  exact h H2 p Fs' hp a1 a2 a3 h2 hl
theorem All.at {C : Addr} {H : Hp} {xs : List Addr} {Fs : List (List Addr)} {S : Vbemaz.State} {i : Nat} {x : Addr} (h : All C H xs Fs S) (hx : xs[i]? = some x) : ∃ F, Fs[i]? = some F ∧ Ser C H x F (Vbemaz.at_ S i) ∧ i < S.series.length := by
  have hi := (List.getElem?_eq_some_iff.mp hx).1
  rw [h.lx] at hi
  have h1 : i < Fs.length := by rw [h.lf]; exact hi
  have h2 : i < S.series.length := by rw [h.ls]; exact hi
  have e : Vbemaz.at_ S i = S.series[i] := by
    unfold Vbemaz.at_
    rw [List.getD_eq_getElem?_getD, List.getElem?_eq_getElem h2]
    rfl
  exact ⟨Fs[i], List.getElem?_eq_getElem h1, by rw [e]; exact h.ser i x _ _ hx (List.getElem?_eq_getElem h1) (List.getElem?_eq_getElem h2), h2⟩
theorem All.get {C : Addr} {H : Hp} {xs : List Addr} {Fs : List (List Addr)} {S : Vbemaz.State} (h : All C H xs Fs S) {i : Nat} (hi : (i : Int) ≤ 3) : ∃ x, xs[i]? = some x := ⟨_, List.getElem?_eq_getElem (show i < xs.length by rw [h.lx]; omega)⟩
theorem ixr {xs : List Addr} {i : Nat} {x : Addr} (h : xs[i]? = some x) : atI (xs.map V.ref) (i : Int) = some (.ref x) := atI_nat (by rw [List.getElem?_map, h]; rfl)
theorem s_retCall {sp : Sp} {dvs vs : List V} {E : XK} {ta : TA} {D : Ends} {σ : L2.St} {H : Hp} (h : EvA ta σ H vs) (k : ∀ H1, Ex H H1 → sp (vs ++ dvs) H1 D.rt E) : tRet (tCall sp dvs E ta) D σ H := h H (Ex.refl H) _ k
def spSerCall (K : PySem.W.Frag) (R : Int → Prop) : Sp := fun vs H Q _ => ∃ (p : Int) (x g : Addr) (xs rs : List Addr) (Fs : List (List Addr)) (S : Vbemaz.State) (nums : List Int) (rows : List (List Int)), vs = [.int p, .ref x, .ref g] ∧ R p ∧ All (cSer K) H xs Fs S ∧ xs[(nums.getD 0 0).toNat]? = some x ∧ Giv H g rs nums rows ∧ (∀ F, F ∈ Fs → ∀ r, r ∈ rs → r ∉ F) ∧ Fit p nums rows ∧ allFit (shapeK p) (givs nums rows) = true ∧ EndsA K H xs Fs (Vbemaz.stepNumbers S ((p :: nums) :: rows)) Q
abbrev spLook (K : PySem.W.Frag) : Sp := spSerCall K fun p => 0 ≤ p ∧ p ≤ 4
abbrev spSurvey (K : PySem.W.Frag) : Sp := spSerCall K fun p => 5 ≤ p ∧ p ≤ 10
def spAllCall (K : PySem.W.Frag) (R : Int → Prop) : Sp := fun vs H Q _ => ∃ (p : Int) (c g : Addr) (xs rs : List Addr) (Fs : List (List Addr)) (S : Vbemaz.State) (nums : List Int) (rows : List (List Int)), vs = [.int p, .ref c, .ref g] ∧ R p ∧ H c = some (.lst (xs.map V.ref)) ∧ All (cSer K) H xs Fs S ∧ Giv H g rs nums rows ∧ (∀ F, F ∈ Fs → ∀ r, r ∈ rs → r ∉ F) ∧ Fit p nums rows ∧ allFit (shapeK p) (givs nums rows) = true ∧ EndsA K H xs Fs (Vbemaz.stepNumbers S ((p :: nums) :: rows)) Q
abbrev spRead (K : PySem.W.Frag) : Sp := spAllCall K fun p => 11 ≤ p ∧ p ≤ 14
abbrev spPairs (K : PySem.W.Frag) : Sp := spAllCall K fun p => 15 ≤ p ∧ p ≤ 20
theorem known_fit {p : Int} {nums : List Int} {rows : List (List Int)} (h : Fit p nums rows) : Known p := (shape_rows h.1).2
/-- a call that is not as told -/
theorem step_no {S : Vbemaz.State} {p : Int} {nums : List Int} {rows : List (List Int)} (hf : Fit p nums rows) (hall : allFit (shapeK p) (givs nums rows) = false) : Vbemaz.stepNumbers S ((p :: nums) :: rows) = (S, [-1]) := by
  have valsNo : ∀ l : List Int, (decide (1 ≤ l.length ∧ l.length ≤ 64) && l.all Vbemaz.isVal) = false → Vbemaz.valsOf l = none := fun l h => if_neg (by rw [h]; decide)
  have bytesNo : ∀ l : List Int, (decide (l.length ≤ 200) && l.all fun c => Vbemaz.within c 0 255) = false → Vbemaz.bytesIn l = none := fun l h => if_neg (by rw [h]; decide)
  rcases known_cases (known_fit hf) with rfl | rfl | rfl | rfl | rfl | rfl | rfl | rfl | rfl | rfl | rfl | rfl | rfl | rfl | rfl | rfl | rfl | rfl | rfl | rfl | rfl
  · obtain ⟨h1, h2⟩ := Prod.mk.inj (Option.some.inj hf.1)
    obtain ⟨a, rfl⟩ := nums_1 h1.symm
    obtain rfl := rows_0 h2.symm
    have hh := (allFit1 _ _).symm.trans hall
    exact sn_clear_no hh
  · obtain ⟨h1, h2⟩ := Prod.mk.inj (Option.some.inj hf.1)
    obtain ⟨a, rfl⟩ := nums_1 h1.symm
    obtain ⟨l, rfl⟩ := rows_1 h2.symm
    have hh := (allFit2 _ _ _ _).symm.trans hall
    refine sn_add_no ?_
    rcases Bool.and_eq_false_iff.mp hh with z | z
    · exact .inl z
    · exact .inr (valsNo l z)
  · obtain ⟨h1, h2⟩ := Prod.mk.inj (Option.some.inj hf.1)
    obtain ⟨a, b, c, rfl⟩ := nums_3 h1.symm
    obtain rfl := rows_0 h2.symm
    have hh := (allFit3 _ _ _ _ _ _).symm.trans hall
    exact sn_fix_no hh
  · obtain ⟨h1, h2⟩ := Prod.mk.inj (Option.some.inj hf.1)
    obtain ⟨a, b, rfl⟩ := nums_2 h1.symm
    obtain rfl := rows_0 h2.symm
    have hh := (allFit2 _ _ _ _).symm.trans hall
    exact sn_get_no hh
  · obtain ⟨h1, h2⟩ := Prod.mk.inj (Option.some.inj hf.1)
    obtain ⟨a, b, c, rfl⟩ := nums_3 h1.symm
    obtain rfl := rows_0 h2.symm
    have hh := (allFit3 _ _ _ _ _ _).symm.trans hall
    exact sn_was_no hh
  · obtain ⟨h1, h2⟩ := Prod.mk.inj (Option.some.inj hf.1)
    obtain ⟨a, b, c, rfl⟩ := nums_3 h1.symm
    obtain rfl := rows_0 h2.symm
    have hh := (allFit3 _ _ _ _ _ _).symm.trans hall
    exact sn_sum_no hh
  · obtain ⟨h1, h2⟩ := Prod.mk.inj (Option.some.inj hf.1)
    obtain ⟨a, b, c, rfl⟩ := nums_3 h1.symm
    obtain rfl := rows_0 h2.symm
    have hh := (allFit3 _ _ _ _ _ _).symm.trans hall
    exact sn_span_no hh
  · obtain ⟨h1, h2⟩ := Prod.mk.inj (Option.some.inj hf.1)
    obtain ⟨a, b, c, rfl⟩ := nums_3 h1.symm
    obtain rfl := rows_0 h2.symm
    have hh := (allFit3 _ _ _ _ _ _).symm.trans hall
    exact sn_seek_no hh
  · obtain ⟨h1, h2⟩ := Prod.mk.inj (Option.some.inj hf.1)
    obtain ⟨a, b, rfl⟩ := nums_2 h1.symm
    obtain rfl := rows_0 h2.symm
    have hh := (allFit2 _ _ _ _).symm.trans hall
    exact sn_coarse_no hh
  · obtain ⟨h1, h2⟩ := Prod.mk.inj (Option.some.inj hf.1)
    obtain ⟨a, rfl⟩ := nums_1 h1.symm
    obtain rfl := rows_0 h2.symm
    have hh := (allFit1 _ _).symm.trans hall
    exact sn_sizes_no hh
  · obtain ⟨h1, h2⟩ := Prod.mk.inj (Option.some.inj hf.1)
    obtain ⟨a, b, rfl⟩ := nums_2 h1.symm
    obtain rfl := rows_0 h2.symm
    have hh := (allFit2 _ _ _ _).symm.trans hall
    exact sn_block_no hh
  · obtain ⟨h1, h2⟩ := Prod.mk.inj (Option.some.inj hf.1)
    obtain rfl := nums_0 h1.symm
    obtain ⟨l, rfl⟩ := rows_1 h2.symm
    have hh := (allFit1 _ _).symm.trans hall
    exact sn_unpack_no (bytesNo l hh)
  · obtain ⟨h1, h2⟩ := Prod.mk.inj (Option.some.inj hf.1)
    obtain ⟨a, rfl⟩ := nums_1 h1.symm
    obtain ⟨l, rfl⟩ := rows_1 h2.symm
    have hh := (allFit2 _ _ _ _).symm.trans hall
    refine sn_load_no ?_
    rcases Bool.and_eq_false_iff.mp hh with z | z
    · exact .inl z
    · exact .inr (bytesNo l z)
  · obtain ⟨h1, h2⟩ := Prod.mk.inj (Option.some.inj hf.1)
    obtain rfl := nums_0 h1.symm
    obtain ⟨l, rfl⟩ := rows_1 h2.symm
    have hh := (allFit1 _ _).symm.trans hall
    have hh : (decide (1 ≤ l.length ∧ l.length ≤ 16) && l.all Vbemaz.isVal) = false := hh
    refine sn_codes_no ?_
    cases hv : (decide (1 ≤ l.length ∧ l.length ≤ 64) && l.all Vbemaz.isVal) with
    | false => exact .inl (valsNo l hv)
    | true =>
      refine .inr ⟨l.map Vbemaz.valOf, valsYes hv, fun z => ?_⟩
      rw [List.length_map] at z
      rw [Bool.and_eq_true] at hv
      have h5 := of_decide_eq_true hv.1
      rw [hv.2, Bool.and_true] at hh
      exact of_decide_eq_false hh ⟨h5.1, z⟩
  · obtain ⟨h1, h2⟩ := Prod.mk.inj (Option.some.inj hf.1)
    obtain ⟨a, rfl⟩ := nums_1 h1.symm
    obtain rfl := rows_0 h2.symm
    have hh := (allFit1 _ _).symm.trans hall
    exact sn_gamma_no hh
  · obtain ⟨h1, h2⟩ := Prod.mk.inj (Option.some.inj hf.1)
    obtain ⟨a, b, rfl⟩ := nums_2 h1.symm
    obtain rfl := rows_0 h2.symm
    have hh := (allFit2 _ _ _ _).symm.trans hall
    exact sn_copy_no hh
  · obtain ⟨h1, h2⟩ := Prod.mk.inj (Option.some.inj hf.1)
    obtain ⟨a, b, c, rfl⟩ := nums_3 h1.symm
    obtain rfl := rows_0 h2.symm
    have hh := (allFit3 _ _ _ _ _ _).symm.trans hall
    exact sn_differ_no hh
  · obtain ⟨h1, h2⟩ := Prod.mk.inj (Option.some.inj hf.1)
    obtain ⟨a, b, rfl⟩ := nums_2 h1.symm
    obtain rfl := rows_0 h2.symm
    have hh := (allFit2 _ _ _ _).symm.trans hall
    exact sn_fill_no hh
  · obtain ⟨h1, h2⟩ := Prod.mk.inj (Option.some.inj hf.1)
    obtain ⟨a, b, rfl⟩ := nums_2 h1.symm
    obtain rfl := rows_0 h2.symm
    have hh := (allFit2 _ _ _ _).symm.trans hall
    exact sn_trim_no hh
  · obtain ⟨h1, h2⟩ := Prod.mk.inj (Option.some.inj hf.1)
    obtain ⟨a, b, rfl⟩ := nums_2 h1.symm
    obtain rfl := rows_0 h2.symm
    have hh := (allFit2 _ _ _ _).symm.trans hall
    exact sn_history_no hh
  · obtain ⟨h1, h2⟩ := Prod.mk.inj (Option.some.inj hf.1)
    obtain rfl := nums_0 h1.symm
    obtain rfl := rows_0 h2.symm
    cases hall
section
variable {P : Program} {w : World} {K : PySem.W.Frag} {mg : Str → Option Value} {base : Heap}
theorem ok_change_or_look (T : Top K w mg) : Def P w K mg base "change_or_look" 4 ["call_number", "series", "givens"] (spLook K) := by
  obtain ⟨fd_clear_series, G_clear_series, b_clear_series, k_clear_series, g_clear_series⟩ := ok_clear_series (P := P) (w := w) (base := base) T
  obtain ⟨fd_add_row, G_add_row, b_add_row, k_add_row, g_add_row⟩ := ok_add_row (P := P) (w := w) (base := base) T
  obtain ⟨fd_fix_place, G_fix_place, b_fix_place, k_fix_place, g_fix_place⟩ := ok_fix_place (P := P) (w := w) (base := base) T
  obtain ⟨fd_get_place, G_get_place, b_get_place, k_get_place, g_get_place⟩ := ok_get_place (P := P) (w := w) (base := base) T
  obtain ⟨fd_was_at_place, G_was_at_place, b_was_at_place, k_was_at_place, g_was_at_place⟩ := ok_was_at_place (P := P) (w := w) (base := base) T
  obtain ⟨fd, F⟩ := T.f_change_or_look
  refine ⟨fd, F.ok sc_change_or_look (fun vs H Q E h => by obtain ⟨_, _, _, _, _, _, _, _, _, rfl, _⟩ := h; rfl) (fun cdv A outer s H vs Q E hr h => ⟨_, PSs.nox (pss_cons (ps_if (pt_cmpR op_eq (pv 0) pe_int (nomark _)) (pss_one (ps_ret (pe_call G_clear_series (hr.mono (by decide)) rfl g_clear_series k_clear_series b_clear_series .nil pass0 (pa_cons (pv 1) pa_nil)))) pss_nil)
      (pss_cons (ps_if (pt_cmpR op_eq (pv 0) pe_int (nomark _)) (pss_one (ps_ret (pe_call G_add_row (hr.mono (by decide)) rfl g_add_row k_add_row b_add_row .nil pass0 (pa_cons (pv 1) (pa_cons (pe_ix (ix_listK (K := K) rfl) (pv 2) pe_int (fun _ _ => rfl)) pa_nil))))) pss_nil)
      (pss_cons (ps_if (pt_cmpR op_eq (pv 0) pe_int (nomark _)) (pss_one (ps_ret (pe_call G_fix_place (hr.mono (by decide)) rfl g_fix_place k_fix_place b_fix_place .nil pass0 (pa_cons (pv 1) (pa_cons (pe_ix (ix_listK (K := K) rfl) (pv 2) pe_int (fun _ _ => rfl)) (pa_cons (pe_ix (ix_listK (K := K) rfl) (pv 2) pe_int (fun _ _ => rfl)) pa_nil)))))) pss_nil)
      (pss_cons (ps_if (pt_cmpR op_eq (pv 0) pe_int (nomark _)) (pss_one (ps_ret (pe_call G_get_place (hr.mono (by decide)) rfl g_get_place k_get_place b_get_place .nil pass0 (pa_cons (pv 1) (pa_cons (pe_ix (ix_listK (K := K) rfl) (pv 2) pe_int (fun _ _ => rfl)) pa_nil))))) pss_nil)
      (pss_one (ps_ret (pe_call G_was_at_place (hr.mono (by decide)) rfl g_was_at_place k_was_at_place b_was_at_place .nil pass0 (pa_cons (pv 1) (pa_cons (pe_ix (ix_listK (K := K) rfl) (pv 2) pe_int (fun _ _ => rfl)) (pa_cons (pe_ix (ix_listK (K := K) rfl) (pv 2) pe_int (fun _ _ => rfl)) pa_nil)))))))))), ?_⟩), F.bindsN (fun _ _ _ _ _ _ us hl => match us, hl with | [_, _, _], _ => rfl), F.kp, T.g_change_or_look⟩
  obtain ⟨p, x, g, xs, rs, Fs, S, nums, rows, rfl, hR, hA, hx, hg, hrF, hf, hall, hE⟩ := h
  have eqp : ∀ n : Int, decide (V.int p = V.int n) = decide (p = n) := fun n => decide_eq_decide.mpr ⟨fun z => V.int.inj z, fun z => by rw [z]⟩
  refine q_when (et_is (et_test (ev_op (ev_var rfl) ev_c (rv_eq rfl))) (eqp 0)) (fun hb H1 e1 => ?_) (fun hb H1 e1 => ?_)
  · obtain rfl := of_decide_eq_true hb
    have e : Ex H H1 := e1
    obtain ⟨h1, h2⟩ := Prod.mk.inj (Option.some.inj hf.1)
    obtain ⟨a, rfl⟩ := nums_1 h1.symm
    obtain rfl := rows_0 h2.symm
    have hh := (allFit1 _ _).symm.trans hall
    obtain rfl := rows_0 hg.2.1
    have hh : (Vbemaz.isSeries a) = true := hh
    have ha : Vbemaz.within a 0 3 = true := hh
    obtain ⟨i, rfl, _, hi⟩ := within_cast ha (by decide)
    have hx : xs[i]? = some x := hx
    obtain ⟨F, hF, hs, hsl⟩ := hA.at hx
    have hgood := hs.good
    rw [sn_clear hh, Int.toNat_natCast] at hE
    exact s_retCall (ea_cons (ev_var rfl) ea_nil) fun H' e' => ⟨x, F, _, rfl, hs.ex (e.trans e'), (ends_chg hE hA hx hF (by decide)).at (e.trans e')⟩
  have n0 := of_decide_eq_false hb
  have t1 : Ex H H1 := e1
  refine q_when (et_is (et_test (ev_op (ev_var rfl) ev_c (rv_eq rfl))) (eqp 1)) (fun hb H2 e2 => ?_) (fun hb H2 e2 => ?_)
  · obtain rfl := of_decide_eq_true hb
    have e : Ex H H2 := t1.trans e2
    obtain ⟨h1, h2⟩ := Prod.mk.inj (Option.some.inj hf.1)
    obtain ⟨a, rfl⟩ := nums_1 h1.symm
    obtain ⟨l, rfl⟩ := rows_1 h2.symm
    have hh := (allFit2 _ _ _ _).symm.trans hall
    obtain ⟨r, rfl⟩ := rows_1 hg.2.1
    have hr0 := hg.2.2 0 r l rfl rfl
    have ha : Vbemaz.within a 0 3 = true := (Bool.and_eq_true_iff.mp hh).1
    obtain ⟨i, rfl, _, hi⟩ := within_cast ha (by decide)
    have hx : xs[i]? = some x := hx
    obtain ⟨F, hF, hs, hsl⟩ := hA.at hx
    have hgood := hs.good
    have hv : (decide (1 ≤ l.length ∧ l.length ≤ 64) && l.all Vbemaz.isVal) = true := (Bool.and_eq_true_iff.mp hh).2
    have hv2 := Bool.and_eq_true_iff.mp hv
    have hv3 := of_decide_eq_true hv2.1
    rw [sn_add ha (valsYes hv) (by rw [Int.toNat_natCast]; exact hsl), Int.toNat_natCast] at hE
    exact s_retCall (ea_cons (ev_var rfl) (ea_cons (ev_op (ev_var rfl) ev_c (rv_ixL (sq_of (e _ _ hg.1)) (at_of (j := 1) rfl rfl))) ea_nil)) fun H' e' => ⟨x, r, F, _, l.map Vbemaz.valOf, rfl, hs.ex (e.trans e'), by rw [valsRow]; exact (e.trans e') _ _ hr0, hrF F (List.mem_of_getElem? hF) r (by simp), valsOk hv2.2, by rw [List.length_map]; omega, (ends_chg hE hA hx hF (len_add _ _)).at (e.trans e')⟩
  have n1 := of_decide_eq_false hb
  have t2 : Ex H H2 := t1.trans e2
  refine q_when (et_is (et_test (ev_op (ev_var rfl) ev_c (rv_eq rfl))) (eqp 2)) (fun hb H3 e3 => ?_) (fun hb H3 e3 => ?_)
  · obtain rfl := of_decide_eq_true hb
    have e : Ex H H3 := t2.trans e3
    obtain ⟨h1, h2⟩ := Prod.mk.inj (Option.some.inj hf.1)
    obtain ⟨a, b, c, rfl⟩ := nums_3 h1.symm
    obtain rfl := rows_0 h2.symm
    have hh := (allFit3 _ _ _ _ _ _).symm.trans hall
    obtain rfl := rows_0 hg.2.1
    have hh : (Vbemaz.isSeries a && (Vbemaz.isPlace b && Vbemaz.isVal c)) = true := hh
    have ha : Vbemaz.within a 0 3 = true := (Bool.and_eq_true_iff.mp hh).1
    have hb := (Bool.and_eq_true_iff.mp (Bool.and_eq_true_iff.mp hh).2).1
    have hc3 := (Bool.and_eq_true_iff.mp (Bool.and_eq_true_iff.mp hh).2).2
    obtain ⟨i, rfl, _, hi⟩ := within_cast ha (by decide)
    obtain ⟨k, rfl, hk0, hk⟩ := within_cast hb (by decide)
    have hx : xs[i]? = some x := hx
    obtain ⟨F, hF, hs, hsl⟩ := hA.at hx
    have hgood := hs.good
    rw [sn_fix hh (by rw [Int.toNat_natCast]; exact hsl), Int.toNat_natCast, Int.toNat_natCast] at hE
    exact s_retCall (ea_cons (ev_var rfl) (ea_cons (ev_op (ev_var rfl) ev_c (rv_ixL (sq_of (e _ _ hg.1)) (at_of (j := 1) rfl rfl))) (ea_cons (ev_is (ev_op (ev_var rfl) ev_c (rv_ixL (sq_of (e _ _ hg.1)) (at_of (j := 2) rfl rfl))) (gv_valOf c).symm) ea_nil))) fun H' e' => ⟨x, F, _, k, Vbemaz.valOf c, rfl, hs.ex (e.trans e'), valOf_ok hc3, (ends_chg hE hA hx hF (len_fix _ _ _)).at (e.trans e')⟩
  have n2 := of_decide_eq_false hb
  have t3 : Ex H H3 := t2.trans e3
  refine q_when (et_is (et_test (ev_op (ev_var rfl) ev_c (rv_eq rfl))) (eqp 3)) (fun hb H4 e4 => ?_) (fun hb H4 e4 => ?_)
  · obtain rfl := of_decide_eq_true hb
    have e : Ex H H4 := t3.trans e4
    obtain ⟨h1, h2⟩ := Prod.mk.inj (Option.some.inj hf.1)
    obtain ⟨a, b, rfl⟩ := nums_2 h1.symm
    obtain rfl := rows_0 h2.symm
    have hh := (allFit2 _ _ _ _).symm.trans hall
    obtain rfl := rows_0 hg.2.1
    have hh : (Vbemaz.isSeries a && Vbemaz.isPlace b) = true := hh
    have ha : Vbemaz.within a 0 3 = true := (Bool.and_eq_true_iff.mp hh).1
    have hb := (Bool.and_eq_true_iff.mp hh).2
    obtain ⟨i, rfl, _, hi⟩ := within_cast ha (by decide)
    obtain ⟨k, rfl, hk0, hk⟩ := within_cast hb (by decide)
    have hx : xs[i]? = some x := hx
    obtain ⟨F, hF, hs, hsl⟩ := hA.at hx
    have hgood := hs.good
    rw [sn_get hh, Int.toNat_natCast, Int.toNat_natCast] at hE
    exact s_retCall (ea_cons (ev_var rfl) (ea_cons (ev_op (ev_var rfl) ev_c (rv_ixL (sq_of (e _ _ hg.1)) (at_of (j := 1) rfl rfl))) ea_nil)) fun H' e' => ⟨x, F, _, k, rfl, hs.ex (e.trans e'), trivial, retL_at (ends_same hE hA (len_get _ _)) (e.trans e')⟩
  have n3 := of_decide_eq_false hb
  have t4 : Ex H H4 := t3.trans e4
  obtain rfl : p = 4 := by omega
  have e := t4
  obtain ⟨h1, h2⟩ := Prod.mk.inj (Option.some.inj hf.1)
  obtain ⟨a, b, c, rfl⟩ := nums_3 h1.symm
  obtain rfl := rows_0 h2.symm
  have hh := (allFit3 _ _ _ _ _ _).symm.trans hall
  obtain rfl := rows_0 hg.2.1
  have hh : (Vbemaz.isSeries a && (Vbemaz.isPlace b && Vbemaz.within c 0 100)) = true := hh
  have ha : Vbemaz.within a 0 3 = true := (Bool.and_eq_true_iff.mp hh).1
  have hb := (Bool.and_eq_true_iff.mp (Bool.and_eq_true_iff.mp hh).2).1
  have hc3 := (Bool.and_eq_true_iff.mp (Bool.and_eq_true_iff.mp hh).2).2
  obtain ⟨i, rfl, _, hi⟩ := within_cast ha (by decide)
  obtain ⟨k, rfl, hk0, hk⟩ := within_cast hb (by decide)
  obtain ⟨m, rfl, _, hm⟩ := within_cast hc3 (by decide)
  have hx : xs[i]? = some x := hx
  obtain ⟨F, hF, hs, hsl⟩ := hA.at hx
  have hgood := hs.good
  rw [sn_was hh, Int.toNat_natCast, Int.toNat_natCast, Int.toNat_natCast] at hE
  exact s_retCall (ea_cons (ev_var rfl) (ea_cons (ev_op (ev_var rfl) ev_c (rv_ixL (sq_of (e _ _ hg.1)) (at_of (j := 1) rfl rfl))) (ea_cons (ev_op (ev_var rfl) ev_c (rv_ixL (sq_of (e _ _ hg.1)) (at_of (j := 2) rfl rfl))) ea_nil))) fun H' e' => ⟨x, F, _, k, m, rfl, hs.ex (e.trans e'), retL_at (ends_same hE hA (len_was _ _ _)) (e.trans e')⟩
theorem ok_survey (T : Top K w mg) : Def P w K mg base "survey" 9 ["call_number", "series", "givens"] (spSurvey K) := by
  obtain ⟨fd_sum_of_span, G_sum_of_span, b_sum_of_span, k_sum_of_span, g_sum_of_span⟩ := ok_sum_of_span (P := P) (w := w) (base := base) T
  obtain ⟨fd_extremes_of_span, G_extremes_of_span, b_extremes_of_span, k_extremes_of_span, g_extremes_of_span⟩ := ok_extremes_of_span (P := P) (w := w) (base := base) T
  obtain ⟨fd_seek_from, G_seek_from, b_seek_from, k_seek_from, g_seek_from⟩ := ok_seek_from (P := P) (w := w) (base := base) T
  obtain ⟨fd_coarse_pieces, G_coarse_pieces, b_coarse_pieces, k_coarse_pieces, g_coarse_pieces⟩ := ok_coarse_pieces (P := P) (w := w) (base := base) T
  obtain ⟨fd_sizes_of_blocks, G_sizes_of_blocks, b_sizes_of_blocks, k_sizes_of_blocks, g_sizes_of_blocks⟩ := ok_sizes_of_blocks (P := P) (w := w) (base := base) T
  obtain ⟨fd_bytes_of_block, G_bytes_of_block, b_bytes_of_block, k_bytes_of_block, g_bytes_of_block⟩ := ok_bytes_of_block (P := P) (w := w) (base := base) T
  obtain ⟨fd, F⟩ := T.f_survey
  refine ⟨fd, F.ok sc_survey (fun vs H Q E h => by obtain ⟨_, _, _, _, _, _, _, _, _, rfl, _⟩ := h; rfl) (fun cdv A outer s H vs Q E hr h => ⟨_, PSs.nox (pss_cons (ps_if (pt_cmpR op_eq (pv 0) pe_int (nomark _)) (pss_one (ps_ret (pe_call G_sum_of_span (hr.mono (by decide)) rfl g_sum_of_span k_sum_of_span b_sum_of_span .nil pass0 (pa_cons (pv 1) (pa_cons (pe_ix (ix_listK (K := K) rfl) (pv 2) pe_int (fun _ _ => rfl)) (pa_cons (pe_ix (ix_listK (K := K) rfl) (pv 2) pe_int (fun _ _ => rfl)) pa_nil)))))) pss_nil)
      (pss_cons (ps_if (pt_cmpR op_eq (pv 0) pe_int (nomark _)) (pss_one (ps_ret (pe_call G_extremes_of_span (hr.mono (by decide)) rfl g_extremes_of_span k_extremes_of_span b_extremes_of_span .nil pass0 (pa_cons (pv 1) (pa_cons (pe_ix (ix_listK (K := K) rfl) (pv 2) pe_int (fun _ _ => rfl)) (pa_cons (pe_ix (ix_listK (K := K) rfl) (pv 2) pe_int (fun _ _ => rfl)) pa_nil)))))) pss_nil)
      (pss_cons (ps_if (pt_cmpR op_eq (pv 0) pe_int (nomark _)) (pss_one (ps_ret (pe_call G_seek_from (hr.mono (by decide)) rfl g_seek_from k_seek_from b_seek_from .nil pass0 (pa_cons (pv 1) (pa_cons (pe_ix (ix_listK (K := K) rfl) (pv 2) pe_int (fun _ _ => rfl)) (pa_cons (pe_ix (ix_listK (K := K) rfl) (pv 2) pe_int (fun _ _ => rfl)) pa_nil)))))) pss_nil)
      (pss_cons (ps_if (pt_cmpR op_eq (pv 0) pe_int (nomark _)) (pss_one (ps_ret (pe_call G_coarse_pieces (hr.mono (by decide)) rfl g_coarse_pieces k_coarse_pieces b_coarse_pieces .nil pass0 (pa_cons (pv 1) (pa_cons (pe_ix (ix_listK (K := K) rfl) (pv 2) pe_int (fun _ _ => rfl)) pa_nil))))) pss_nil)
      (pss_cons (ps_if (pt_cmpR op_eq (pv 0) pe_int (nomark _)) (pss_one (ps_ret (pe_call G_sizes_of_blocks (hr.mono (by decide)) rfl g_sizes_of_blocks k_sizes_of_blocks b_sizes_of_blocks .nil pass0 (pa_cons (pv 1) pa_nil)))) pss_nil)
      (pss_one (ps_ret (pe_call G_bytes_of_block (hr.mono (by decide)) rfl g_bytes_of_block k_bytes_of_block b_bytes_of_block .nil pass0 (pa_cons (pv 1) (pa_cons (pe_ix (ix_listK (K := K) rfl) (pv 2) pe_int (fun _ _ => rfl)) pa_nil)))))))))), ?_⟩), F.bindsN (fun _ _ _ _ _ _ us hl => match us, hl with | [_, _, _], _ => rfl), F.kp, T.g_survey⟩
  obtain ⟨p, x, g, xs, rs, Fs, S, nums, rows, rfl, hR, hA, hx, hg, hrF, hf, hall, hE⟩ := h
  have eqp : ∀ n : Int, decide (V.int p = V.int n) = decide (p = n) := fun n => decide_eq_decide.mpr ⟨fun z => V.int.inj z, fun z => by rw [z]⟩
  refine q_when (et_is (et_test (ev_op (ev_var rfl) ev_c (rv_eq rfl))) (eqp 5)) (fun hb H1 e1 => ?_) (fun hb H1 e1 => ?_)
  · obtain rfl := of_decide_eq_true hb
    have e : Ex H H1 := e1
    obtain ⟨h1, h2⟩ := Prod.mk.inj (Option.some.inj hf.1)
    obtain ⟨a, b, c, rfl⟩ := nums_3 h1.symm
    obtain rfl := rows_0 h2.symm
    have hh := (allFit3 _ _ _ _ _ _).symm.trans hall
    obtain rfl := rows_0 hg.2.1
    have hh : (Vbemaz.isSeries a && (Vbemaz.isPlace b && Vbemaz.isPlace c)) = true := hh
    have ha : Vbemaz.within a 0 3 = true := (Bool.and_eq_true_iff.mp hh).1
    have hb := (Bool.and_eq_true_iff.mp (Bool.and_eq_true_iff.mp hh).2).1
    have hc3 := (Bool.and_eq_true_iff.mp (Bool.and_eq_true_iff.mp hh).2).2
    obtain ⟨i, rfl, _, hi⟩ := within_cast ha (by decide)
    obtain ⟨k, rfl, hk0, hk⟩ := within_cast hb (by decide)
    obtain ⟨m, rfl, _, hm⟩ := within_cast hc3 (by decide)
    have hx : xs[i]? = some x := hx
    obtain ⟨F, hF, hs, hsl⟩ := hA.at hx
    have hgood := hs.good
    rw [sn_sum hh, Int.toNat_natCast, Int.toNat_natCast, Int.toNat_natCast] at hE
    exact s_retCall (ea_cons (ev_var rfl) (ea_cons (ev_op (ev_var rfl) ev_c (rv_ixL (sq_of (e _ _ hg.1)) (at_of (j := 1) rfl rfl))) (ea_cons (ev_op (ev_var rfl) ev_c (rv_ixL (sq_of (e _ _ hg.1)) (at_of (j := 2) rfl rfl))) ea_nil))) fun H' e' => ⟨x, F, _, k, m, rfl, hs.ex (e.trans e'), retL_at (ends_same hE hA (len_sum _ _ _)) (e.trans e')⟩
  have n5 := of_decide_eq_false hb
  have t1 : Ex H H1 := e1
  refine q_when (et_is (et_test (ev_op (ev_var rfl) ev_c (rv_eq rfl))) (eqp 6)) (fun hb H2 e2 => ?_) (fun hb H2 e2 => ?_)
  · obtain rfl := of_decide_eq_true hb
    have e : Ex H H2 := t1.trans e2
    obtain ⟨h1, h2⟩ := Prod.mk.inj (Option.some.inj hf.1)
    obtain ⟨a, b, c, rfl⟩ := nums_3 h1.symm
    obtain rfl := rows_0 h2.symm
    have hh := (allFit3 _ _ _ _ _ _).symm.trans hall
    obtain rfl := rows_0 hg.2.1
    have hh : (Vbemaz.isSeries a && (Vbemaz.isPlace b && Vbemaz.isPlace c)) = true := hh
    have ha : Vbemaz.within a 0 3 = true := (Bool.and_eq_true_iff.mp hh).1
    have hb := (Bool.and_eq_true_iff.mp (Bool.and_eq_true_iff.mp hh).2).1
    have hc3 := (Bool.and_eq_true_iff.mp (Bool.and_eq_true_iff.mp hh).2).2
    obtain ⟨i, rfl, _, hi⟩ := within_cast ha (by decide)
    obtain ⟨k, rfl, hk0, hk⟩ := within_cast hb (by decide)
    obtain ⟨m, rfl, _, hm⟩ := within_cast hc3 (by decide)
    have hx : xs[i]? = some x := hx
    obtain ⟨F, hF, hs, hsl⟩ := hA.at hx
    have hgood := hs.good
    rw [sn_span hh, Int.toNat_natCast, Int.toNat_natCast, Int.toNat_natCast] at hE
    exact s_retCall (ea_cons (ev_var rfl) (ea_cons (ev_op (ev_var rfl) ev_c (rv_ixL (sq_of (e _ _ hg.1)) (at_of (j := 1) rfl rfl))) (ea_cons (ev_op (ev_var rfl) ev_c (rv_ixL (sq_of (e _ _ hg.1)) (at_of (j := 2) rfl rfl))) ea_nil))) fun H' e' => ⟨x, F, _, k, m, rfl, hs.ex (e.trans e'), retL_at (ends_same hE hA (len_span _ _ _)) (e.trans e')⟩
  have n6 := of_decide_eq_false hb
  have t2 : Ex H H2 := t1.trans e2
  refine q_when (et_is (et_test (ev_op (ev_var rfl) ev_c (rv_eq rfl))) (eqp 7)) (fun hb H3 e3 => ?_) (fun hb H3 e3 => ?_)
  · obtain rfl := of_decide_eq_true hb
    have e : Ex H H3 := t2.trans e3
    obtain ⟨h1, h2⟩ := Prod.mk.inj (Option.some.inj hf.1)
    obtain ⟨a, b, c, rfl⟩ := nums_3 h1.symm
    obtain rfl := rows_0 h2.symm
    have hh := (allFit3 _ _ _ _ _ _).symm.trans hall
    obtain rfl := rows_0 hg.2.1
    have hh : (Vbemaz.isSeries a && (Vbemaz.isPlace b && Vbemaz.within c (-Vbemaz.GAP) Vbemaz.GAP)) = true := hh
    have ha : Vbemaz.within a 0 3 = true := (Bool.and_eq_true_iff.mp hh).1
    have hb := (Bool.and_eq_true_iff.mp (Bool.and_eq_true_iff.mp hh).2).1
    have hc3 := (Bool.and_eq_true_iff.mp (Bool.and_eq_true_iff.mp hh).2).2
    obtain ⟨i, rfl, _, hi⟩ := within_cast ha (by decide)
    obtain ⟨k, rfl, hk0, hk⟩ := within_cast hb (by decide)
    have hx : xs[i]? = some x := hx
    obtain ⟨F, hF, hs, hsl⟩ := hA.at hx
    have hgood := hs.good
    rw [sn_seek hh, Int.toNat_natCast, Int.toNat_natCast] at hE
    exact s_retCall (ea_cons (ev_var rfl) (ea_cons (ev_op (ev_var rfl) ev_c (rv_ixL (sq_of (e _ _ hg.1)) (at_of (j := 1) rfl rfl))) (ea_cons (ev_op (ev_var rfl) ev_c (rv_ixL (sq_of (e _ _ hg.1)) (at_of (j := 2) rfl rfl))) ea_nil))) fun H' e' => ⟨x, F, _, k, c, rfl, hs.ex (e.trans e'), by omega, retL_at (ends_same hE hA (len_seek _ _ _)) (e.trans e')⟩
  have n7 := of_decide_eq_false hb
  have t3 : Ex H H3 := t2.trans e3
  refine q_when (et_is (et_test (ev_op (ev_var rfl) ev_c (rv_eq rfl))) (eqp 8)) (fun hb H4 e4 => ?_) (fun hb H4 e4 => ?_)
  · obtain rfl := of_decide_eq_true hb
    have e : Ex H H4 := t3.trans e4
    obtain ⟨h1, h2⟩ := Prod.mk.inj (Option.some.inj hf.1)
    obtain ⟨a, b, rfl⟩ := nums_2 h1.symm
    obtain rfl := rows_0 h2.symm
    have hh := (allFit2 _ _ _ _).symm.trans hall
    obtain rfl := rows_0 hg.2.1
    have hh : (Vbemaz.isSeries a && Vbemaz.within b 1 96) = true := hh
    have ha : Vbemaz.within a 0 3 = true := (Bool.and_eq_true_iff.mp hh).1
    have hb := (Bool.and_eq_true_iff.mp hh).2
    obtain ⟨i, rfl, _, hi⟩ := within_cast ha (by decide)
    obtain ⟨k, rfl, hk0, hk⟩ := within_cast hb (by decide)
    have hx : xs[i]? = some x := hx
    obtain ⟨F, hF, hs, hsl⟩ := hA.at hx
    have hgood := hs.good
    rw [sn_coarse hh, Int.toNat_natCast, Int.toNat_natCast] at hE
    exact s_retCall (ea_cons (ev_var rfl) (ea_cons (ev_op (ev_var rfl) ev_c (rv_ixL (sq_of (e _ _ hg.1)) (at_of (j := 1) rfl rfl))) ea_nil)) fun H' e' => ⟨x, F, _, k, rfl, hs.ex (e.trans e'), ⟨by omega, by omega⟩, retL_at (ends_same hE hA (len_coarse hgood (by omega))) (e.trans e')⟩
  have n8 := of_decide_eq_false hb
  have t4 : Ex H H4 := t3.trans e4
  refine q_when (et_is (et_test (ev_op (ev_var rfl) ev_c (rv_eq rfl))) (eqp 9)) (fun hb H5 e5 => ?_) (fun hb H5 e5 => ?_)
  · obtain rfl := of_decide_eq_true hb
    have e : Ex H H5 := t4.trans e5
    obtain ⟨h1, h2⟩ := Prod.mk.inj (Option.some.inj hf.1)
    obtain ⟨a, rfl⟩ := nums_1 h1.symm
    obtain rfl := rows_0 h2.symm
    have hh := (allFit1 _ _).symm.trans hall
    obtain rfl := rows_0 hg.2.1
    have hh : (Vbemaz.isSeries a) = true := hh
    have ha : Vbemaz.within a 0 3 = true := hh
    obtain ⟨i, rfl, _, hi⟩ := within_cast ha (by decide)
    have hx : xs[i]? = some x := hx
    obtain ⟨F, hF, hs, hsl⟩ := hA.at hx
    have hgood := hs.good
    rw [sn_sizes hh, Int.toNat_natCast] at hE
    exact s_retCall (ea_cons (ev_var rfl) ea_nil) fun H' e' => ⟨x, F, _, rfl, hs.ex (e.trans e'), retL_at (ends_same hE hA (len_sizes hgood)) (e.trans e')⟩
  have n9 := of_decide_eq_false hb
  have t5 : Ex H H5 := t4.trans e5
  obtain rfl : p = 10 := by omega
  have e := t5
  obtain ⟨h1, h2⟩ := Prod.mk.inj (Option.some.inj hf.1)
  obtain ⟨a, b, rfl⟩ := nums_2 h1.symm
  obtain rfl := rows_0 h2.symm
  have hh := (allFit2 _ _ _ _).symm.trans hall
  obtain rfl := rows_0 hg.2.1
  have hh : (Vbemaz.isSeries a && Vbemaz.within b 0 30) = true := hh
  have ha : Vbemaz.within a 0 3 = true := (Bool.and_eq_true_iff.mp hh).1
  have hb := (Bool.and_eq_true_iff.mp hh).2
  obtain ⟨i, rfl, _, hi⟩ := within_cast ha (by decide)
  obtain ⟨k, rfl, hk0, hk⟩ := within_cast hb (by decide)
  have hx : xs[i]? = some x := hx
  obtain ⟨F, hF, hs, hsl⟩ := hA.at hx
  have hgood := hs.good
  rw [sn_block hh, Int.toNat_natCast, Int.toNat_natCast] at hE
  exact s_retCall (ea_cons (ev_var rfl) (ea_cons (ev_op (ev_var rfl) ev_c (rv_ixL (sq_of (e _ _ hg.1)) (at_of (j := 1) rfl rfl))) ea_nil)) fun H' e' => ⟨x, F, _, k, rfl, hs.ex (e.trans e'), by omega, retL_at (ends_same hE hA (len_block hgood _)) (e.trans e')⟩
theorem ok_read_or_code (T : Top K w mg) : Def P w K mg base "read_or_code" 11 ["call_number", "all_series", "givens"] (spRead K) := by
  obtain ⟨fd_unpack_row, G_unpack_row, b_unpack_row, k_unpack_row, g_unpack_row⟩ := ok_unpack_row (P := P) (w := w) (base := base) T
  obtain ⟨fd_load_row, G_load_row, b_load_row, k_load_row, g_load_row⟩ := ok_load_row (P := P) (w := w) (base := base) T
  obtain ⟨fd_codes_of_row, G_codes_of_row, b_codes_of_row, k_codes_of_row, g_codes_of_row⟩ := ok_codes_of_row (P := P) (w := w) (base := base) T
  obtain ⟨fd_bits_of_self_ending, G_bits_of_self_ending, b_bits_of_self_ending, k_bits_of_self_ending, g_bits_of_self_ending⟩ := ok_bits_of_self_ending (P := P) (w := w) (base := base) T
  obtain ⟨fd, F⟩ := T.f_read_or_code
  refine ⟨fd, F.ok sc_read_or_code (fun vs H Q E h => by obtain ⟨_, _, _, _, _, _, _, _, _, rfl, _⟩ := h; rfl) (fun cdv A outer s H vs Q E hr h => ⟨_, PSs.nox (pss_cons (ps_if (pt_cmpR op_eq (pv 0) pe_int (nomark _)) (pss_one (ps_ret (pe_call G_unpack_row (hr.mono (by decide)) rfl g_unpack_row k_unpack_row b_unpack_row .nil pass0 (pa_cons (pe_ix (ix_listK (K := K) rfl) (pv 2) pe_int (fun _ _ => rfl)) pa_nil)))) pss_nil)
      (pss_cons (ps_if (pt_cmpR op_eq (pv 0) pe_int (nomark _)) (pss_one (ps_ret (pe_call G_load_row (hr.mono (by decide)) rfl g_load_row k_load_row b_load_row .nil pass0 (pa_cons (pe_ix (ix_listK (K := K) rfl) (pv 1) (pe_ix (ix_listK (K := K) rfl) (pv 2) pe_int (fun _ _ => rfl)) (fun _ _ => rfl)) (pa_cons (pe_ix (ix_listK (K := K) rfl) (pv 2) pe_int (fun _ _ => rfl)) pa_nil))))) pss_nil)
      (pss_cons (ps_if (pt_cmpR op_eq (pv 0) pe_int (nomark _)) (pss_one (ps_ret (pe_call G_codes_of_row (hr.mono (by decide)) rfl g_codes_of_row k_codes_of_row b_codes_of_row .nil pass0 (pa_cons (pe_ix (ix_listK (K := K) rfl) (pv 2) pe_int (fun _ _ => rfl)) pa_nil)))) pss_nil)
      (pss_one (ps_ret (pe_call G_bits_of_self_ending (hr.mono (by decide)) rfl g_bits_of_self_ending k_bits_of_self_ending b_bits_of_self_ending .nil pass0 (pa_cons (pe_ix (ix_listK (K := K) rfl) (pv 2) pe_int (fun _ _ => rfl)) pa_nil))))))), ?_⟩), F.bindsN (fun _ _ _ _ _ _ us hl => match us, hl with | [_, _, _], _ => rfl), F.kp, T.g_read_or_code⟩
  obtain ⟨p, c0, g, xs, rs, Fs, S, nums, rows, rfl, hR, hc, hA, hg, hrF, hf, hall, hE⟩ := h
  have eqp : ∀ n : Int, decide (V.int p = V.int n) = decide (p = n) := fun n => decide_eq_decide.mpr ⟨fun z => V.int.inj z, fun z => by rw [z]⟩
  refine q_when (et_is (et_test (ev_op (ev_var rfl) ev_c (rv_eq rfl))) (eqp 11)) (fun hb H1 e1 => ?_) (fun hb H1 e1 => ?_)
  · obtain rfl := of_decide_eq_true hb
    have e : Ex H H1 := e1
    obtain ⟨h1, h2⟩ := Prod.mk.inj (Option.some.inj hf.1)
    obtain rfl := nums_0 h1.symm
    obtain ⟨l, rfl⟩ := rows_1 h2.symm
    have hh := (allFit1 _ _).symm.trans hall
    obtain ⟨r, rfl⟩ := rows_1 hg.2.1
    have hr0 := hg.2.2 0 r l rfl rfl
    have hv : (decide (l.length ≤ 200) && l.all fun c => Vbemaz.within c 0 255) = true := hh
    have hv2 := Bool.and_eq_true_iff.mp hv
    have hv3 := of_decide_eq_true hv2.1
    have hbn : (l.map fun c => c.toNat).map nV = l.map V.int := by
      rw [List.map_map]
      refine List.map_congr_left fun n hn => ?_
      obtain ⟨z, rfl, _, _⟩ := within_cast (List.all_eq_true.mp hv2.2 n hn) (by decide)
      rfl
    rw [sn_unpack (bytesYes hv)] at hE
    exact s_retCall (ea_cons (ev_op (ev_var rfl) ev_c (rv_ixL (sq_of (e _ _ hg.1)) (at_of (j := 0) rfl rfl))) ea_nil) fun H' e' => ⟨r, l.map fun c => c.toNat, rfl, by rw [hbn]; exact (e.trans e') _ _ hr0, by rw [List.length_map]; exact hv3, retL_at (ends_same hE hA (len_unpack _)) (e.trans e')⟩
  have n11 := of_decide_eq_false hb
  have t1 : Ex H H1 := e1
  refine q_when (et_is (et_test (ev_op (ev_var rfl) ev_c (rv_eq rfl))) (eqp 12)) (fun hb H2 e2 => ?_) (fun hb H2 e2 => ?_)
  · obtain rfl := of_decide_eq_true hb
    have e : Ex H H2 := t1.trans e2
    obtain ⟨h1, h2⟩ := Prod.mk.inj (Option.some.inj hf.1)
    obtain ⟨a, rfl⟩ := nums_1 h1.symm
    obtain ⟨l, rfl⟩ := rows_1 h2.symm
    have hh := (allFit2 _ _ _ _).symm.trans hall
    obtain ⟨r, rfl⟩ := rows_1 hg.2.1
    have hr0 := hg.2.2 0 r l rfl rfl
    have ha : Vbemaz.within a 0 3 = true := (Bool.and_eq_true_iff.mp hh).1
    obtain ⟨i, rfl, _, hi⟩ := within_cast ha (by decide)
    obtain ⟨x, hx⟩ := hA.get hi
    obtain ⟨F, hF, hs, hsl⟩ := hA.at hx
    have hgood := hs.good
    have hv : (decide (l.length ≤ 200) && l.all fun c => Vbemaz.within c 0 255) = true := (Bool.and_eq_true_iff.mp hh).2
    have hv2 := Bool.and_eq_true_iff.mp hv
    have hv3 := of_decide_eq_true hv2.1
    have hbn : (l.map fun c => c.toNat).map nV = l.map V.int := by
      rw [List.map_map]
      refine List.map_congr_left fun n hn => ?_
      obtain ⟨z, rfl, _, _⟩ := within_cast (List.all_eq_true.mp hv2.2 n hn) (by decide)
      rfl
    rw [sn_load ha (bytesYes hv) (by rw [Int.toNat_natCast]; exact hsl), Int.toNat_natCast] at hE
    exact s_retCall (ea_cons (ev_op (ev_var rfl) (ev_op (ev_var rfl) ev_c (rv_ixL (sq_of (e _ _ hg.1)) (at_of (j := 0) rfl rfl))) (rv_ixL (sq_of (e _ _ hc)) (ixr hx))) (ea_cons (ev_op (ev_var rfl) ev_c (rv_ixL (sq_of (e _ _ hg.1)) (at_of (j := 1) rfl rfl))) ea_nil)) fun H' e' => ⟨x, r, F, _, l.map fun c => c.toNat, rfl, hs.ex (e.trans e'), by rw [hbn]; exact (e.trans e') _ _ hr0, by rw [List.length_map]; exact hv3, (ends_chg hE hA hx hF (len_load _ _)).at (e.trans e')⟩
  have n12 := of_decide_eq_false hb
  have t2 : Ex H H2 := t1.trans e2
  refine q_when (et_is (et_test (ev_op (ev_var rfl) ev_c (rv_eq rfl))) (eqp 13)) (fun hb H3 e3 => ?_) (fun hb H3 e3 => ?_)
  · obtain rfl := of_decide_eq_true hb
    have e : Ex H H3 := t2.trans e3
    obtain ⟨h1, h2⟩ := Prod.mk.inj (Option.some.inj hf.1)
    obtain rfl := nums_0 h1.symm
    obtain ⟨l, rfl⟩ := rows_1 h2.symm
    have hh := (allFit1 _ _).symm.trans hall
    obtain ⟨r, rfl⟩ := rows_1 hg.2.1
    have hr0 := hg.2.2 0 r l rfl rfl
    have hv : (decide (1 ≤ l.length ∧ l.length ≤ 16) && l.all Vbemaz.isVal) = true := hh
    have hv2 := Bool.and_eq_true_iff.mp hv
    have hv3 := of_decide_eq_true hv2.1
    rw [sn_codes (valsYes (Bool.and_eq_true_iff.mpr ⟨decide_eq_true ⟨hv3.1, by omega⟩, hv2.2⟩)) (by rw [List.length_map]; exact hv3.2)] at hE
    exact s_retCall (ea_cons (ev_op (ev_var rfl) ev_c (rv_ixL (sq_of (e _ _ hg.1)) (at_of (j := 0) rfl rfl))) ea_nil) fun H' e' => ⟨r, l.map Vbemaz.valOf, rfl, sq_of (by rw [valsRow]; exact (e.trans e') _ _ hr0), valsOk hv2.2, by rw [List.length_map]; exact hv3.2, retL_at (ends_same hE hA (len_codes _)) (e.trans e')⟩
  have n13 := of_decide_eq_false hb
  have t3 : Ex H H3 := t2.trans e3
  obtain rfl : p = 14 := by omega
  have e := t3
  obtain ⟨h1, h2⟩ := Prod.mk.inj (Option.some.inj hf.1)
  obtain ⟨a, rfl⟩ := nums_1 h1.symm
  obtain rfl := rows_0 h2.symm
  have hh := (allFit1 _ _).symm.trans hall
  obtain rfl := rows_0 hg.2.1
  have hh : (Vbemaz.within a 1 4294967296) = true := hh
  obtain ⟨k, rfl, hk0, hk⟩ := within_cast hh (by decide)
  rw [sn_gamma hh, Int.toNat_natCast] at hE
  exact s_retCall (ea_cons (ev_op (ev_var rfl) ev_c (rv_ixL (sq_of (e _ _ hg.1)) (at_of (j := 0) rfl rfl))) ea_nil) fun H' e' => ⟨k, rfl, by omega, by omega, retL_at (ends_same hE hA (len_gamma (by omega))) (e.trans e')⟩
theorem ok_pair_or_trace (T : Top K w mg) : Def P w K mg base "pair_or_trace" 4 ["call_number", "all_series", "givens"] (spPairs K) := by
  obtain ⟨fd_copy_series, G_copy_series, b_copy_series, k_copy_series, g_copy_series⟩ := ok_copy_series (P := P) (w := w) (base := base) T
  obtain ⟨fd_first_difference, G_first_difference, b_first_difference, k_first_difference, g_first_difference⟩ := ok_first_difference (P := P) (w := w) (base := base) T
  obtain ⟨fd_fill_gaps, G_fill_gaps, b_fill_gaps, k_fill_gaps, g_fill_gaps⟩ := ok_fill_gaps (P := P) (w := w) (base := base) T
  obtain ⟨fd_trim_series, G_trim_series, b_trim_series, k_trim_series, g_trim_series⟩ := ok_trim_series (P := P) (w := w) (base := base) T
  obtain ⟨fd_history_of_place, G_history_of_place, b_history_of_place, k_history_of_place, g_history_of_place⟩ := ok_history_of_place (P := P) (w := w) (base := base) T
  obtain ⟨fd_state_of_all, G_state_of_all, b_state_of_all, k_state_of_all, g_state_of_all⟩ := ok_state_of_all (P := P) (w := w) (base := base) T
  obtain ⟨fd, F⟩ := T.f_pair_or_trace
  refine ⟨fd, F.ok sc_pair_or_trace (fun vs H Q E h => by obtain ⟨_, _, _, _, _, _, _, _, _, rfl, _⟩ := h; rfl) (fun cdv A outer s H vs Q E hr h => ⟨_, PSs.nox (pss_cons (ps_if (pt_cmpR op_eq (pv 0) pe_int (nomark _)) (pss_one (ps_ret (pe_call G_copy_series (hr.mono (by decide)) rfl g_copy_series k_copy_series b_copy_series .nil pass0 (pa_cons (pv 1) (pa_cons (pe_ix (ix_listK (K := K) rfl) (pv 2) pe_int (fun _ _ => rfl)) (pa_cons (pe_ix (ix_listK (K := K) rfl) (pv 2) pe_int (fun _ _ => rfl)) pa_nil)))))) pss_nil)
      (pss_cons (ps_if (pt_cmpR op_eq (pv 0) pe_int (nomark _)) (pss_one (ps_ret (pe_call G_first_difference (hr.mono (by decide)) rfl g_first_difference k_first_difference b_first_difference .nil pass0 (pa_cons (pe_ix (ix_listK (K := K) rfl) (pv 1) (pe_ix (ix_listK (K := K) rfl) (pv 2) pe_int (fun _ _ => rfl)) (fun _ _ => rfl)) (pa_cons (pe_ix (ix_listK (K := K) rfl) (pv 1) (pe_ix (ix_listK (K := K) rfl) (pv 2) pe_int (fun _ _ => rfl)) (fun _ _ => rfl)) (pa_cons (pe_ix (ix_listK (K := K) rfl) (pv 2) pe_int (fun _ _ => rfl)) pa_nil)))))) pss_nil)
      (pss_cons (ps_if (pt_cmpR op_eq (pv 0) pe_int (nomark _)) (pss_one (ps_ret (pe_call G_fill_gaps (hr.mono (by decide)) rfl g_fill_gaps k_fill_gaps b_fill_gaps .nil pass0 (pa_cons (pe_ix (ix_listK (K := K) rfl) (pv 1) (pe_ix (ix_listK (K := K) rfl) (pv 2) pe_int (fun _ _ => rfl)) (fun _ _ => rfl)) (pa_cons (pe_ix (ix_listK (K := K) rfl) (pv 1) (pe_ix (ix_listK (K := K) rfl) (pv 2) pe_int (fun _ _ => rfl)) (fun _ _ => rfl)) pa_nil))))) pss_nil)
      (pss_cons (ps_if (pt_cmpR op_eq (pv 0) pe_int (nomark _)) (pss_one (ps_ret (pe_call G_trim_series (hr.mono (by decide)) rfl g_trim_series k_trim_series b_trim_series .nil pass0 (pa_cons (pe_ix (ix_listK (K := K) rfl) (pv 1) (pe_ix (ix_listK (K := K) rfl) (pv 2) pe_int (fun _ _ => rfl)) (fun _ _ => rfl)) (pa_cons (pe_ix (ix_listK (K := K) rfl) (pv 2) pe_int (fun _ _ => rfl)) pa_nil))))) pss_nil)
      (pss_cons (ps_if (pt_cmpR op_eq (pv 0) pe_int (nomark _)) (pss_one (ps_ret (pe_call G_history_of_place (hr.mono (by decide)) rfl g_history_of_place k_history_of_place b_history_of_place .nil pass0 (pa_cons (pe_ix (ix_listK (K := K) rfl) (pv 1) (pe_ix (ix_listK (K := K) rfl) (pv 2) pe_int (fun _ _ => rfl)) (fun _ _ => rfl)) (pa_cons (pe_ix (ix_listK (K := K) rfl) (pv 2) pe_int (fun _ _ => rfl)) pa_nil))))) pss_nil)
      (pss_one (ps_ret (pe_call G_state_of_all (hr.mono (by decide)) rfl g_state_of_all k_state_of_all b_state_of_all .nil pass0 (pa_cons (pv 1) pa_nil))))))))), ?_⟩), F.bindsN (fun _ _ _ _ _ _ us hl => match us, hl with | [_, _, _], _ => rfl), F.kp, T.g_pair_or_trace⟩
  obtain ⟨p, c0, g, xs, rs, Fs, S, nums, rows, rfl, hR, hc, hA, hg, hrF, hf, hall, hE⟩ := h
  have eqp : ∀ n : Int, decide (V.int p = V.int n) = decide (p = n) := fun n => decide_eq_decide.mpr ⟨fun z => V.int.inj z, fun z => by rw [z]⟩
  refine q_when (et_is (et_test (ev_op (ev_var rfl) ev_c (rv_eq rfl))) (eqp 15)) (fun hb H1 e1 => ?_) (fun hb H1 e1 => ?_)
  · obtain rfl := of_decide_eq_true hb
    have e : Ex H H1 := e1
    obtain ⟨h1, h2⟩ := Prod.mk.inj (Option.some.inj hf.1)
    obtain ⟨a, b, rfl⟩ := nums_2 h1.symm
    obtain rfl := rows_0 h2.symm
    have hh := (allFit2 _ _ _ _).symm.trans hall
    obtain rfl := rows_0 hg.2.1
    have hh : (Vbemaz.isSeries a && Vbemaz.isSeries b) = true := hh
    have ha : Vbemaz.within a 0 3 = true := (Bool.and_eq_true_iff.mp hh).1
    have hb := (Bool.and_eq_true_iff.mp hh).2
    obtain ⟨i, rfl, _, hi⟩ := within_cast ha (by decide)
    obtain ⟨k, rfl, hk0, hk⟩ := within_cast hb (by decide)
    obtain ⟨x, hx⟩ := hA.get hi
    obtain ⟨F, hF, hs, hsl⟩ := hA.at hx
    have hgood := hs.good
    obtain ⟨y, hy⟩ := hA.get hk
    obtain ⟨G, hG, ht, htl⟩ := hA.at hy
    rw [sn_copy hh, Int.toNat_natCast, Int.toNat_natCast] at hE
    exact s_retCall (ea_cons (ev_var rfl) (ea_cons (ev_op (ev_var rfl) ev_c (rv_ixL (sq_of (e _ _ hg.1)) (at_of (j := 0) rfl rfl))) (ea_cons (ev_op (ev_var rfl) ev_c (rv_ixL (sq_of (e _ _ hg.1)) (at_of (j := 1) rfl rfl))) ea_nil))) fun H' e' => ⟨c0, xs, i, k, y, x, G, F, _, _, rfl, (e.trans e') _ _ hc, hx, hy, ht.ex (e.trans e'), hs.ex (e.trans e'), fun hne z => hne (nd_ix hA.nd (by rw [← z] at hx; exact hx) hy), fun he => by rw [if_pos he] at hE; exact retL_at (ends_same hE hA (by decide)) (e.trans e'), fun he => by rw [if_neg he] at hE; exact (ends_chg hE hA hy hG (by decide)).at (e.trans e')⟩
  have n15 := of_decide_eq_false hb
  have t1 : Ex H H1 := e1
  refine q_when (et_is (et_test (ev_op (ev_var rfl) ev_c (rv_eq rfl))) (eqp 16)) (fun hb H2 e2 => ?_) (fun hb H2 e2 => ?_)
  · obtain rfl := of_decide_eq_true hb
    have e : Ex H H2 := t1.trans e2
    obtain ⟨h1, h2⟩ := Prod.mk.inj (Option.some.inj hf.1)
    obtain ⟨a, b, c, rfl⟩ := nums_3 h1.symm
    obtain rfl := rows_0 h2.symm
    have hh := (allFit3 _ _ _ _ _ _).symm.trans hall
    obtain rfl := rows_0 hg.2.1
    have hh : (Vbemaz.isSeries a && (Vbemaz.isSeries b && Vbemaz.isPlace c)) = true := hh
    have ha : Vbemaz.within a 0 3 = true := (Bool.and_eq_true_iff.mp hh).1
    have hb := (Bool.and_eq_true_iff.mp (Bool.and_eq_true_iff.mp hh).2).1
    have hc3 := (Bool.and_eq_true_iff.mp (Bool.and_eq_true_iff.mp hh).2).2
    obtain ⟨i, rfl, _, hi⟩ := within_cast ha (by decide)
    obtain ⟨k, rfl, hk0, hk⟩ := within_cast hb (by decide)
    obtain ⟨m, rfl, _, hm⟩ := within_cast hc3 (by decide)
    obtain ⟨x, hx⟩ := hA.get hi
    obtain ⟨F, hF, hs, hsl⟩ := hA.at hx
    have hgood := hs.good
    obtain ⟨y, hy⟩ := hA.get hk
    obtain ⟨G, hG, ht, htl⟩ := hA.at hy
    rw [sn_differ hh, Int.toNat_natCast, Int.toNat_natCast, Int.toNat_natCast] at hE
    exact s_retCall (ea_cons (ev_op (ev_var rfl) (ev_op (ev_var rfl) ev_c (rv_ixL (sq_of (e _ _ hg.1)) (at_of (j := 0) rfl rfl))) (rv_ixL (sq_of (e _ _ hc)) (ixr hx))) (ea_cons (ev_op (ev_var rfl) (ev_op (ev_var rfl) ev_c (rv_ixL (sq_of (e _ _ hg.1)) (at_of (j := 1) rfl rfl))) (rv_ixL (sq_of (e _ _ hc)) (ixr hy))) (ea_cons (ev_op (ev_var rfl) ev_c (rv_ixL (sq_of (e _ _ hg.1)) (at_of (j := 2) rfl rfl))) ea_nil))) fun H' e' => ⟨x, y, F, G, _, _, m, rfl, hs.ex (e.trans e'), ht.ex (e.trans e'), by omega, retL_at (ends_same hE hA (len_differ _ _ _)) (e.trans e')⟩
  have n16 := of_decide_eq_false hb
  have t2 : Ex H H2 := t1.trans e2
  refine q_when (et_is (et_test (ev_op (ev_var rfl) ev_c (rv_eq rfl))) (eqp 17)) (fun hb H3 e3 => ?_) (fun hb H3 e3 => ?_)
  · obtain rfl := of_decide_eq_true hb
    have e : Ex H H3 := t2.trans e3
    obtain ⟨h1, h2⟩ := Prod.mk.inj (Option.some.inj hf.1)
    obtain ⟨a, b, rfl⟩ := nums_2 h1.symm
    obtain rfl := rows_0 h2.symm
    have hh := (allFit2 _ _ _ _).symm.trans hall
    obtain rfl := rows_0 hg.2.1
    have hh : (Vbemaz.isSeries a && Vbemaz.isSeries b) = true := hh
    have ha : Vbemaz.within a 0 3 = true := (Bool.and_eq_true_iff.mp hh).1
    have hb := (Bool.and_eq_true_iff.mp hh).2
    obtain ⟨i, rfl, _, hi⟩ := within_cast ha (by decide)
    obtain ⟨k, rfl, hk0, hk⟩ := within_cast hb (by decide)
    obtain ⟨x, hx⟩ := hA.get hi
    obtain ⟨F, hF, hs, hsl⟩ := hA.at hx
    have hgood := hs.good
    obtain ⟨y, hy⟩ := hA.get hk
    obtain ⟨G, hG, ht, htl⟩ := hA.at hy
    rw [sn_fill hh (by rw [Int.toNat_natCast]; exact hsl), Int.toNat_natCast, Int.toNat_natCast] at hE
    have hxy : (x = y ∧ Vbemaz.at_ S i = Vbemaz.at_ S k) ∨ (x ≠ y ∧ ∀ b, b ∈ G → b ∉ F) := by
      by_cases he : i = k
      · subst he
        exact .inl ⟨Option.some.inj (hx.symm.trans hy), rfl⟩
      · exact .inr ⟨fun z => he (nd_ix hA.nd hx (by rw [z]; exact hy)), hA.dj k i G F (fun z => he z.symm) hG hF⟩
    exact s_retCall (ea_cons (ev_op (ev_var rfl) (ev_op (ev_var rfl) ev_c (rv_ixL (sq_of (e _ _ hg.1)) (at_of (j := 0) rfl rfl))) (rv_ixL (sq_of (e _ _ hc)) (ixr hx))) (ea_cons (ev_op (ev_var rfl) (ev_op (ev_var rfl) ev_c (rv_ixL (sq_of (e _ _ hg.1)) (at_of (j := 1) rfl rfl))) (rv_ixL (sq_of (e _ _ hc)) (ixr hy))) ea_nil)) fun H' e' => ⟨x, y, F, G, _, _, rfl, hs.ex (e.trans e'), ht.ex (e.trans e'), hxy, (ends_chg hE hA hx hF (len_fill _ _)).at (e.trans e')⟩
  have n17 := of_decide_eq_false hb
  have t3 : Ex H H3 := t2.trans e3
  refine q_when (et_is (et_test (ev_op (ev_var rfl) ev_c (rv_eq rfl))) (eqp 18)) (fun hb H4 e4 => ?_) (fun hb H4 e4 => ?_)
  · obtain rfl := of_decide_eq_true hb
    have e : Ex H H4 := t3.trans e4
    obtain ⟨h1, h2⟩ := Prod.mk.inj (Option.some.inj hf.1)
    obtain ⟨a, b, rfl⟩ := nums_2 h1.symm
    obtain rfl := rows_0 h2.symm
    have hh := (allFit2 _ _ _ _).symm.trans hall
    obtain rfl := rows_0 hg.2.1
    have hh : (Vbemaz.isSeries a && Vbemaz.isPlace b) = true := hh
    have ha : Vbemaz.within a 0 3 = true := (Bool.and_eq_true_iff.mp hh).1
    have hb := (Bool.and_eq_true_iff.mp hh).2
    obtain ⟨i, rfl, _, hi⟩ := within_cast ha (by decide)
    obtain ⟨k, rfl, hk0, hk⟩ := within_cast hb (by decide)
    obtain ⟨x, hx⟩ := hA.get hi
    obtain ⟨F, hF, hs, hsl⟩ := hA.at hx
    have hgood := hs.good
    rw [sn_trim hh (by rw [Int.toNat_natCast]; exact hsl), Int.toNat_natCast, Int.toNat_natCast] at hE
    exact s_retCall (ea_cons (ev_op (ev_var rfl) (ev_op (ev_var rfl) ev_c (rv_ixL (sq_of (e _ _ hg.1)) (at_of (j := 0) rfl rfl))) (rv_ixL (sq_of (e _ _ hc)) (ixr hx))) (ea_cons (ev_op (ev_var rfl) ev_c (rv_ixL (sq_of (e _ _ hg.1)) (at_of (j := 1) rfl rfl))) ea_nil)) fun H' e' => ⟨x, F, _, k, rfl, hs.ex (e.trans e'), (ends_chg hE hA hx hF (len_trim _ _)).at (e.trans e')⟩
  have n18 := of_decide_eq_false hb
  have t4 : Ex H H4 := t3.trans e4
  refine q_when (et_is (et_test (ev_op (ev_var rfl) ev_c (rv_eq rfl))) (eqp 19)) (fun hb H5 e5 => ?_) (fun hb H5 e5 => ?_)
  · obtain rfl := of_decide_eq_true hb
    have e : Ex H H5 := t4.trans e5
    obtain ⟨h1, h2⟩ := Prod.mk.inj (Option.some.inj hf.1)
    obtain ⟨a, b, rfl⟩ := nums_2 h1.symm
    obtain rfl := rows_0 h2.symm
    have hh := (allFit2 _ _ _ _).symm.trans hall
    obtain rfl := rows_0 hg.2.1
    have hh : (Vbemaz.isSeries a && Vbemaz.isPlace b) = true := hh
    have ha : Vbemaz.within a 0 3 = true := (Bool.and_eq_true_iff.mp hh).1
    have hb := (Bool.and_eq_true_iff.mp hh).2
    obtain ⟨i, rfl, _, hi⟩ := within_cast ha (by decide)
    obtain ⟨k, rfl, hk0, hk⟩ := within_cast hb (by decide)
    obtain ⟨x, hx⟩ := hA.get hi
    obtain ⟨F, hF, hs, hsl⟩ := hA.at hx
    have hgood := hs.good
    rw [sn_history hh, Int.toNat_natCast, Int.toNat_natCast] at hE
    exact s_retCall (ea_cons (ev_op (ev_var rfl) (ev_op (ev_var rfl) ev_c (rv_ixL (sq_of (e _ _ hg.1)) (at_of (j := 0) rfl rfl))) (rv_ixL (sq_of (e _ _ hc)) (ixr hx))) (ea_cons (ev_op (ev_var rfl) ev_c (rv_ixL (sq_of (e _ _ hg.1)) (at_of (j := 1) rfl rfl))) ea_nil)) fun H' e' => ⟨x, F, _, k, rfl, hs.ex (e.trans e'), trivial, retL_at (ends_same hE hA (len_history hgood _)) (e.trans e')⟩
  have n19 := of_decide_eq_false hb
  have t5 : Ex H H5 := t4.trans e5
  obtain rfl : p = 20 := by omega
  have e := t5
  obtain ⟨h1, h2⟩ := Prod.mk.inj (Option.some.inj hf.1)
  obtain rfl := nums_0 h1.symm
  obtain rfl := rows_0 h2.symm
  obtain rfl := rows_0 hg.2.1
  rw [sn_state] at hE
  exact s_retCall (ea_cons (ev_var rfl) ea_nil) fun H' e' => ⟨c0, xs, Fs, S, rfl, (e.trans e') _ _ hc, hA.ex (e.trans e'), retL_at (ends_same hE hA (len_state hA.ls)) (e.trans e')⟩
end
end PR
set_option Elab.async false
set_option linter.all false
set_option maxRecDepth 100000
set_option maxHeartbeats 4000000
namespace PR
open PySem PySem.Spec PyProof.Rows L2 Evl
theorem first_series {p : Int} {nums : List Int} {rows : List (List Int)} (hf : Fit p nums rows) (hp : p ≤ 10) (hall : allFit (shapeK p) (givs nums rows) = true) : ∃ (i : Nat) (t : List Int), nums = (i : Int) :: t ∧ (i : Int) ≤ 3 := by
  have h0 := (known_fit hf).1
  have hc : p = 0 ∨ p = 1 ∨ p = 2 ∨ p = 3 ∨ p = 4 ∨ p = 5 ∨ p = 6 ∨ p = 7 ∨ p = 8 ∨ p = 9 ∨ p = 10 := by omega
  have fin : ∀ (a : Int) (t : List Int), Vbemaz.within a 0 3 = true → ∃ (i : Nat) (t' : List Int), a :: t = (i : Int) :: t' ∧ (i : Int) ≤ 3 := fun a t h => by
    obtain ⟨i, rfl, _, hi⟩ := within_cast h (by decide)
    exact ⟨i, t, rfl, hi⟩
  rcases hc with rfl | rfl | rfl | rfl | rfl | rfl | rfl | rfl | rfl | rfl | rfl
  · obtain ⟨h1, h2⟩ := Prod.mk.inj (Option.some.inj hf.1)
    obtain ⟨a, rfl⟩ := nums_1 h1.symm
    obtain rfl := rows_0 h2.symm
    have hh := (allFit1 _ _).symm.trans hall
    exact fin a _ hh
  · obtain ⟨h1, h2⟩ := Prod.mk.inj (Option.some.inj hf.1)
    obtain ⟨a, rfl⟩ := nums_1 h1.symm
    obtain ⟨l, rfl⟩ := rows_1 h2.symm
    have hh := (allFit2 _ _ _ _).symm.trans hall
    exact fin a _ (Bool.and_eq_true_iff.mp hh).1
  · obtain ⟨h1, h2⟩ := Prod.mk.inj (Option.some.inj hf.1)
    obtain ⟨a, b, c, rfl⟩ := nums_3 h1.symm
    obtain rfl := rows_0 h2.symm
    have hh := (allFit3 _ _ _ _ _ _).symm.trans hall
    exact fin a _ (Bool.and_eq_true_iff.mp hh).1
  · obtain ⟨h1, h2⟩ := Prod.mk.inj (Option.some.inj hf.1)
    obtain ⟨a, b, rfl⟩ := nums_2 h1.symm
    obtain rfl := rows_0 h2.symm
    have hh := (allFit2 _ _ _ _).symm.trans hall
    exact fin a _ (Bool.and_eq_true_iff.mp hh).1
  · obtain ⟨h1, h2⟩ := Prod.mk.inj (Option.some.inj hf.1)
    obtain ⟨a, b, c, rfl⟩ := nums_3 h1.symm
    obtain rfl := rows_0 h2.symm
    have hh := (allFit3 _ _ _ _ _ _).symm.trans hall
    exact fin a _ (Bool.and_eq_true_iff.mp hh).1
  · obtain ⟨h1, h2⟩ := Prod.mk.inj (Option.some.inj hf.1)
    obtain ⟨a, b, c, rfl⟩ := nums_3 h1.symm
    obtain rfl := rows_0 h2.symm
    have hh := (allFit3 _ _ _ _ _ _).symm.trans hall
    exact fin a _ (Bool.and_eq_true_iff.mp hh).1
  · obtain ⟨h1, h2⟩ := Prod.mk.inj (Option.some.inj hf.1)
    obtain ⟨a, b, c, rfl⟩ := nums_3 h1.symm
    obtain rfl := rows_0 h2.symm
    have hh := (allFit3 _ _ _ _ _ _).symm.trans hall
    exact fin a _ (Bool.and_eq_true_iff.mp hh).1
  · obtain ⟨h1, h2⟩ := Prod.mk.inj (Option.some.inj hf.1)
    obtain ⟨a, b, c, rfl⟩ := nums_3 h1.symm
    obtain rfl := rows_0 h2.symm
    have hh := (allFit3 _ _ _ _ _ _).symm.trans hall
    exact fin a _ (Bool.and_eq_true_iff.mp hh).1
  · obtain ⟨h1, h2⟩ := Prod.mk.inj (Option.some.inj hf.1)
    obtain ⟨a, b, rfl⟩ := nums_2 h1.symm
    obtain rfl := rows_0 h2.symm
    have hh := (allFit2 _ _ _ _).symm.trans hall
    exact fin a _ (Bool.and_eq_true_iff.mp hh).1
  · obtain ⟨h1, h2⟩ := Prod.mk.inj (Option.some.inj hf.1)
    obtain ⟨a, rfl⟩ := nums_1 h1.symm
    obtain rfl := rows_0 h2.symm
    have hh := (allFit1 _ _).symm.trans hall
    exact fin a _ hh
  · obtain ⟨h1, h2⟩ := Prod.mk.inj (Option.some.inj hf.1)
    obtain ⟨a, b, rfl⟩ := nums_2 h1.symm
    obtain rfl := rows_0 h2.symm
    have hh := (allFit2 _ _ _ _).symm.trans hall
    exact fin a _ (Bool.and_eq_true_iff.mp hh).1
/-- what is given, as all_fit looks at it -/
theorem Giv.gvs {K : PySem.W.Frag} {H : Hp} {g : Addr} {rs : List Addr} {nums : List Int} {rows : List (List Int)} (h : Giv H g rs nums rows) (hl : ∀ r, r ∈ rows → r.length ≤ 250) : GvsAt K H (nums.map V.int ++ rs.map V.ref) (givs nums rows) := by
  refine ⟨by unfold givs; rw [List.length_append, List.length_append, List.length_map, List.length_map, List.length_map, List.length_map, h.2.1], fun i v u hv hu => ?_⟩
  unfold givs at hu
  by_cases hi : i < nums.length
  · rw [List.getElem?_append_left (by rw [List.length_map]; exact hi), List.getElem?_map, List.getElem?_eq_getElem hi] at hv hu
    obtain rfl : V.int nums[i] = v := Option.some.inj hv
    obtain rfl : Gv.num nums[i] = u := Option.some.inj hu
    rfl
  · rw [List.getElem?_append_right (by rw [List.length_map]; omega), List.getElem?_map, List.length_map] at hv hu
    obtain ⟨r, hr, rfl⟩ := Option.map_eq_some_iff.mp hv
    obtain ⟨l, hl1, rfl⟩ := Option.map_eq_some_iff.mp hu
    exact ⟨r, rfl, sq_of (h.2.2 _ r l hr hl1), hl l (List.mem_of_getElem? hl1)⟩
theorem givs_takes {p : Int} {nums : List Int} {rows : List (List Int)} (hf : Fit p nums rows) : (givs nums rows).length = (shapeK p).length ∧ ∀ (i : Nat) (k : Kd) (g : Gv), (shapeK p)[i]? = some k → (givs nums rows)[i]? = some g → k.takes g := by
  obtain ⟨h1, h2⟩ := shapeK_shape (known_fit hf) hf.1
  refine ⟨by unfold givs; rw [List.length_append, List.length_map, List.length_map, h1], fun i k g hk hg => ?_⟩
  have hr := rowsLast_at h2 i k hk
  rw [Nat.zero_add] at hr
  unfold givs at hg
  by_cases hi : i < nums.length
  · rw [List.getElem?_append_left (by rw [List.length_map]; exact hi), List.getElem?_map, List.getElem?_eq_getElem hi] at hg
    obtain rfl : Gv.num nums[i] = g := Option.some.inj hg
    show k.isRow = false
    rw [hr]
    exact decide_eq_false (by omega)
  · rw [List.getElem?_append_right (by rw [List.length_map]; omega), List.getElem?_map] at hg
    obtain ⟨l, _, rfl⟩ := Option.map_eq_some_iff.mp hg
    show k.isRow = true
    rw [hr]
    exact decide_eq_true (by omega)
section
variable {P : Program} {w : World} {K : PySem.W.Frag} {mg : Str → Option Value} {base : Heap}
theorem EndsA.at {H H1 : Hp} {xs : List Addr} {Fs : List (List Addr)} {res : Vbemaz.State × List Int} {Q : VK} (h : EndsA K H xs Fs res Q) (e : Ex H H1) : EndsA K H1 xs Fs res Q := fun H' q Fs' hq hA k n h1 h2 =>
  h H' q Fs' (fresh_back e hq) hA (fun b o hb a c => k b o (e _ _ hb) a c) (fun F' hF b hb => (n F' hF b hb).imp id (fresh_back e)) h1 h2
theorem ok_answer_of (T : Top K w mg) : Def P w K mg base "answer_of" 12 ["all_series", "call_number", "givens"] (spAnswerOf K) := by
  obtain ⟨fd_all_fit, G_all_fit, b_all_fit, k_all_fit, g_all_fit⟩ := ok_all_fit (P := P) (w := w) (base := base) T
  obtain ⟨fd_change_or_look, G_change_or_look, b_change_or_look, k_change_or_look, g_change_or_look⟩ := ok_change_or_look (P := P) (w := w) (base := base) T
  obtain ⟨fd_survey, G_survey, b_survey, k_survey, g_survey⟩ := ok_survey (P := P) (w := w) (base := base) T
  obtain ⟨fd_read_or_code, G_read_or_code, b_read_or_code, k_read_or_code, g_read_or_code⟩ := ok_read_or_code (P := P) (w := w) (base := base) T
  obtain ⟨fd_pair_or_trace, G_pair_or_trace, b_pair_or_trace, k_pair_or_trace, g_pair_or_trace⟩ := ok_pair_or_trace (P := P) (w := w) (base := base) T
  obtain ⟨_, c_NOT_AS_TOLD⟩ := T.c_NOT_AS_TOLD
  obtain ⟨fd, F⟩ := T.f_answer_of
  refine ⟨fd, F.ok sc_answer_of (fun vs H Q E h => by obtain ⟨_, _, _, _, _, _, _, _, _, rfl, _⟩ := h; rfl) (fun cdv A outer s H vs Q E hr h => ⟨_, PSs.nox (pss_cons (ps_if (pt_not (pt_val (pe_call G_all_fit (hr.mono (by decide)) rfl g_all_fit k_all_fit b_all_fit .nil pass0 (pa_cons (pv 1) (pa_cons (pv 2) pa_nil))))) (pss_one (ps_ret (pe_lst (pa_cons (pe_glob (v := .int (-1)) rfl c_NOT_AS_TOLD ⟨_, rfl⟩) pa_nil)))) pss_nil)
      (pss_cons (ps_if (pt_cmpR op_le (pv 1) pe_int (nomark _)) (pss_one (ps_ret (pe_call G_change_or_look (hr.mono (by decide)) rfl g_change_or_look k_change_or_look b_change_or_look .nil pass0 (pa_cons (pv 1) (pa_cons (pe_ix (ix_listK (K := K) rfl) (pv 0) (pe_ix (ix_listK (K := K) rfl) (pv 2) pe_int (fun _ _ => rfl)) (fun _ _ => rfl)) (pa_cons (pv 2) pa_nil)))))) pss_nil)
      (pss_cons (ps_if (pt_cmpR op_le (pv 1) pe_int (nomark _)) (pss_one (ps_ret (pe_call G_survey (hr.mono (by decide)) rfl g_survey k_survey b_survey .nil pass0 (pa_cons (pv 1) (pa_cons (pe_ix (ix_listK (K := K) rfl) (pv 0) (pe_ix (ix_listK (K := K) rfl) (pv 2) pe_int (fun _ _ => rfl)) (fun _ _ => rfl)) (pa_cons (pv 2) pa_nil)))))) pss_nil)
      (pss_cons (ps_if (pt_cmpR op_le (pv 1) pe_int (nomark _)) (pss_one (ps_ret (pe_call G_read_or_code (hr.mono (by decide)) rfl g_read_or_code k_read_or_code b_read_or_code .nil pass0 (pa_cons (pv 1) (pa_cons (pv 0) (pa_cons (pv 2) pa_nil)))))) pss_nil)
      (pss_one (ps_ret (pe_call G_pair_or_trace (hr.mono (by decide)) rfl g_pair_or_trace k_pair_or_trace b_pair_or_trace .nil pass0 (pa_cons (pv 1) (pa_cons (pv 0) (pa_cons (pv 2) pa_nil)))))))))), ?_⟩), F.bindsN (fun _ _ _ _ _ _ us hl => match us, hl with | [_, _, _], _ => rfl), F.kp, T.g_answer_of⟩
  obtain ⟨c, g, xs, rs, Fs, S, p, nums, rows, rfl, hc, hA, hg, hrF, hf, hE⟩ := h
  have hE : EndsA K H xs Fs (Vbemaz.stepNumbers S ((p :: nums) :: rows)) Q := hE
  have hk := known_fit hf
  obtain ⟨hgl, hgt⟩ := givs_takes hf
  refine q_when (et_not (et_B (ev_call (ea_cons (ev_var rfl) (ea_cons (ev_var rfl) ea_nil)) (fun H1 e1 _ q _ => ⟨p, g, _, givs nums rows, rfl, hk, sq_of (e1 _ _ hg.1), (hg.ex e1).gvs hf.2, hgl, hgt, q⟩)))) (fun hb H1 e1 => ?_) (fun hb H1 e1 => ?_)
  · have hb : allFit (shapeK p) (givs nums rows) = false := by simpa using hb
    rw [step_no hf hb] at hE
    exact s_retL (el_lst (ea_cons ev_c ea_nil) (by decide)) fun q H2 hq e2 h2 => (ends_same hE hA (by decide)).go e1 hq e2 h2
  have hall : allFit (shapeK p) (givs nums rows) = true := by simpa using hb
  have ser : p ≤ 10 → ∀ H2, Ex H H2 → ∃ x, xs[(nums.getD 0 0).toNat]? = some x ∧ Ev (tOp (rIxL K) (tVar 0) (tOp (rIxL K) (tVar 2) (tC (.int 0)))) (start N_answer_of [.ref c, .int p, .ref g]) H2 (.ref x) := by
    intro hp H2 e
    obtain ⟨i, t, rfl, hi⟩ := first_series hf hp hall
    obtain ⟨x, hx⟩ := hA.get hi
    exact ⟨x, hx, ev_op (ev_var rfl) (ev_op (ev_var rfl) ev_c (rv_ixL (sq_of (e _ _ hg.1)) (at_of (j := 0) rfl rfl))) (rv_ixL (sq_of (e _ _ hc)) (ixr hx))⟩
  refine q_when (et_test (ev_op (ev_var rfl) ev_c rv_I0)) (fun hb H2 e2 => ?_) (fun hb H2 e2 => ?_)
  · have hb : p ≤ 4 := of_decide_eq_true hb
    obtain ⟨x, hx, ex⟩ := ser (by omega) H2 (e1.trans e2)
    refine s_retCall (ea_cons (ev_var rfl) (ea_cons ex (ea_cons (ev_var rfl) ea_nil))) fun H3 e3 => ?_
    have e := (e1.trans e2).trans e3
    exact ⟨p, x, g, xs, rs, Fs, S, nums, rows, rfl, ⟨hk.1, hb⟩, hA.ex e, hx, hg.ex e, hrF, hf, hall, hE.at e⟩
  have n4 : ¬ p ≤ 4 := of_decide_eq_false hb
  refine q_when (et_test (ev_op (ev_var rfl) ev_c rv_I0)) (fun hb H3 e3 => ?_) (fun hb H3 e3 => ?_)
  · have hb : p ≤ 10 := of_decide_eq_true hb
    obtain ⟨x, hx, ex⟩ := ser hb H3 ((e1.trans e2).trans e3)
    refine s_retCall (ea_cons (ev_var rfl) (ea_cons ex (ea_cons (ev_var rfl) ea_nil))) fun H4 e4 => ?_
    have e := ((e1.trans e2).trans e3).trans e4
    exact ⟨p, x, g, xs, rs, Fs, S, nums, rows, rfl, ⟨by omega, hb⟩, hA.ex e, hx, hg.ex e, hrF, hf, hall, hE.at e⟩
  have n10 : ¬ p ≤ 10 := of_decide_eq_false hb
  refine q_when (et_test (ev_op (ev_var rfl) ev_c rv_I0)) (fun hb H4 e4 => ?_) (fun hb H4 e4 => ?_)
  · have hb : p ≤ 14 := of_decide_eq_true hb
    refine s_retCall (ea_cons (ev_var rfl) (ea_cons (ev_var rfl) (ea_cons (ev_var rfl) ea_nil))) fun H5 e5 => ?_
    have e := (((e1.trans e2).trans e3).trans e4).trans e5
    exact ⟨p, c, g, xs, rs, Fs, S, nums, rows, rfl, ⟨by omega, hb⟩, e _ _ hc, hA.ex e, hg.ex e, hrF, hf, hall, hE.at e⟩
  have n14 : ¬ p ≤ 14 := of_decide_eq_false hb
  refine s_retCall (ea_cons (ev_var rfl) (ea_cons (ev_var rfl) (ea_cons (ev_var rfl) ea_nil))) fun H5 e5 => ?_
  have e := (((e1.trans e2).trans e3).trans e4).trans e5
  exact ⟨p, c, g, xs, rs, Fs, S, nums, rows, rfl, ⟨by omega, hk.2⟩, e _ _ hc, hA.ex e, hg.ex e, hrF, hf, hall, hE.at e⟩
end
end PR
set_option Elab.async false
set_option linter.all false
set_option maxRecDepth 100000
set_option maxHeartbeats 4000000
namespace PR
open PySem PySem.Spec PyProof.Rows L2 Evl
/-- what holds between two calls: H0 the heap at the beginning, cs the calls still to come, m how many -/
structure Mid (K : PySem.W.Frag) (H0 : Hp) (a c x t : Addr) (xs : List Addr) (ns : List Int) (m : Nat) (H : Hp) : Prop where
  word : ∃ (i : Nat) (Fs : List (List Addr)) (S : Vbemaz.State) (cs : List (List (List Int))) (done : List Int), RdAt K H x a ns i ∧ H c = some (.lst (xs.map V.ref)) ∧ All (cSer K) H xs Fs S ∧ H t = some (.lst (done.map V.int)) ∧
    Parses (ns.drop i) cs ∧ i ≤ ns.length ∧ PyInside.calls PyVbemaz.bound cs = true ∧ done ++ PyFlat.told (PyFlat.played Vbemaz.stepNumbers S cs) = PyVbemaz.answers ns ∧ done.length + 901 * cs.length ≤ 90100 ∧ m = cs.length ∧
    ∀ F, F ∈ Fs → ∀ b, b ∈ F → H0 b = none ∧ b ≠ c ∧ b ≠ t
  ex : Ex H0 H
section
variable {P : Program} {w : World} {K : PySem.W.Frag} {mg : Str → Option Value} {base : Heap}
theorem fn_answers (T : Top K w mg) {fd : FuncData} (F : FunD K "answers" "answers" (defArgs st_answers) (defBody st_answers) (defScope st_answers) [] [] (He.ga K "answers") fd) : FnOk P w K mg base CX0 13 (He.ga K "answers") fd ["calls"] (spAnswers K) := by
  obtain ⟨fd_answer_of, G_answer_of, b_answer_of, k_answer_of, g_answer_of⟩ := ok_answer_of (P := P) (w := w) (base := base) T
  obtain ⟨fd_take_givens, G_take_givens, b_take_givens, k_take_givens, g_take_givens⟩ := ok_take_givens (P := P) (w := w) (base := base) T
  obtain ⟨fd_Reader_has_more, G_Reader_has_more, b_Reader_has_more⟩ := ok_Reader_has_more (P := P) (w := w) (base := base) T
  obtain ⟨fd_Reader_take_number, G_Reader_take_number, b_Reader_take_number⟩ := ok_Reader_take_number (P := P) (w := w) (base := base) T
  obtain ⟨fd_Series___init__, G_Series___init__, b_Series___init__⟩ := ok_Series___init__ (P := P) (w := w) (base := base) T
  obtain ⟨fd_Reader___init__, G_Reader___init__, b_Reader___init__⟩ := ok_Reader___init__ (P := P) (w := w) (base := base) T
  obtain ⟨_, c_SERIES_COUNT⟩ := T.c_SERIES_COUNT
  refine F.ok sc_answers (fun vs H Q E h => by obtain ⟨_, _, rfl, _⟩ := h; rfl) (fun cdv A outer s H vs Q E hr h => ⟨_, PSs.nox (pss_cons (ps_setLc (i := 1) (own := [("number", 6)]) (g := gName 6) rfl sc_answers.nd rfl rfl (sw_true rfl rfl rfl (by decide +kernel)) (pi_range1 rfl T.b_range (pa_cons (pe_glob (v := .int (4)) rfl c_SERIES_COUNT ⟨_, rfl⟩) pa_nil)) (blkOk_by (own := [("number", 6)]) (N := N_answers) (sc := defScope st_answers) (by decide +kernel)) (fun _ _ _ _ _ => pg_name (i := 6) sc_answers.nd rfl (Or.inl rfl)) (fun _ _ _ _ _ => pts_nil) (fun _ _ _ _ _ => (pe_make0 T.mk_Series G_Series___init__ (hr.mono (by decide)) rfl T.g_Series b_Series___init__ .nil pass0)))
      (pss_cons (ps_set (i := 2) sc_answers.nd rfl (Or.inl rfl) (pe_make T.mk_Reader G_Reader___init__ (hr.mono (by decide)) rfl T.g_Reader b_Reader___init__ .nil pass0 (pa_cons (pv 0) pa_nil)))
      (pss_cons (ps_set (i := 3) sc_answers.nd rfl (Or.inl rfl) (pe_lst pa_nil))
      (pss_cons (ps_while PassesOwn.never (pt_val (pe_meth0 (pv 2) T.cl_Reader T.m_Reader_has_more G_Reader_has_more (hr.mono (by decide)) b_Reader_has_more .nil pass0)) (pss_cons (ps_set (i := 4) sc_answers.nd rfl (Or.inl rfl) (pe_meth0 (pv 2) T.cl_Reader T.m_Reader_take_number G_Reader_take_number (hr.mono (by decide)) b_Reader_take_number .nil pass0))
      (pss_cons (ps_set (i := 5) sc_answers.nd rfl (Or.inl rfl) (pe_call G_answer_of (hr.mono (by decide)) rfl g_answer_of k_answer_of b_answer_of .nil pass0 (pa_cons (pv 1) (pa_cons (pv 4) (pa_cons (pe_call G_take_givens (hr.mono (by decide)) rfl g_take_givens k_take_givens b_take_givens .nil pass0 (pa_cons (pv 2) (pa_cons (pv 4) pa_nil))) pa_nil)))))
      (pss_cons (ps_expr (pe_bm PySem.F.plainAttrs_list PySem.F.slot_list_append PySem.F.type_list_append mt_append (pv 3) (pa_cons (pe_callB (call_lenK (K := K) rfl) (by rfl) T.b_len PySem.boot_len (pa_cons (pv 5) pa_nil)) pa_nil)))
      (pss_one (ps_expr (pe_bm PySem.F.plainAttrs_list PySem.F.slot_list_extend PySem.F.type_list_extend mt_extend (pv 3) (pa_cons (pv 5) pa_nil))))))))
      (pss_one (ps_ret (pv 3))))))), ?_⟩)
  obtain ⟨a, ns, rfl, hS, hask, hns, hQ⟩ := h
  obtain ⟨cs0, hp0, hl0, hin0, hans⟩ := asked_facts hask
  refine q_mkSeries (ea_cons ev_c ea_nil) (fun _ => rfl) fun c H1 xs Fs m => ?_
  refine ⟨_, rfl, fun x dx hx hdx hne => ⟨x, a, dx, ns, rfl, upd_same, ?_, fun H2 k2 r2 => ⟨rfl, ?_⟩⟩⟩
  · exact ex_l ((m.ex.trans (Ex.new hdx)).trans (Ex.new (by rw [upd_ne hne.symm]; exact hx))) hS
  have e12 : ∀ b o, H1 b = some o → H2 b = some o := by
    intro b o hb
    refine k2 b o ?_ (ne_of_none hb hx)
    rw [upd_ne (ne_of_none hb hx), upd_ne (ne_of_none hb hdx)]
    exact hb
  refine q_asgL (σ := [some (.ref a), some (.ref c), some (.ref x), none, none, none, none]) (el_lst ea_nil (by decide)) fun t H3 ht e3 h3 => ?_
  have hc2 := e12 _ _ m.lst
  have hx0 : H x = none := fresh_back m.ex hx
  have hc0 : H c = none := m.d0
  have ht0 : H t = none := by
    cases q : H t with
    | none => rfl
    | some o => rw [e12 _ _ (m.ex _ _ q)] at ht; cases ht
  have htc : t ≠ c := (ne_of_none hc2 ht).symm
  refine q_while (fun n σ' H' => ∃ u v y, σ' = [some (.ref a), some (.ref c), some (.ref x), some (.ref t), u, v, y] ∧ Mid K H a c x t xs ns n H') cs0.length ⟨none, none, none, rfl, ⟨0, Fs, Vbemaz.start, cs0, [], r2.ex e3, e3 _ _ hc2, (m.all.ex e12).ex e3, h3, by rw [List.drop_zero]; exact hp0, Nat.zero_le _, hin0, by rw [hans]; rfl, by simp; omega, rfl, fun F hF b hb => ?_⟩, fun b o hb => e3 _ _ (e12 _ _ (m.ex _ _ hb))⟩ ?_
  · obtain ⟨n1, n2⟩ := m.nf F hF b hb
    refine ⟨n1, n2, ?_⟩
    obtain ⟨k, hk, rfl⟩ := List.getElem_of_mem hF
    have hk2 : k < xs.length := by rw [m.lx, ← m.lf]; exact hk
    obtain ⟨l, hl⟩ := (m.ser k _ _ (List.getElem?_eq_getElem hk2) (List.getElem?_eq_getElem hk)).kinds.2 b hb
    exact ne_of_none (e12 _ _ hl) ht
  rintro n σ' H' ⟨u, v, y, rfl, ⟨i, Fs, S, cs, done, rd, hc, hA, ht', hp, hi, hin, heq, hdl, rfl, hfs⟩, exH⟩
  obtain ⟨dr, hrd⟩ := rd.ins
  refine ⟨decide (i < ns.length), et_B (ev_meth (ev_var rfl) hrd (rdF_none (by decide +kernel) (by decide +kernel)) ea_nil (fun H4 e4 _ q _ => ⟨x, a, ns, i, rfl, rd.ex e4, q⟩)), fun hb H4 e4 => ?_, fun hb H4 e4 => ?_⟩
  · have hb := of_decide_eq_true hb
    obtain ⟨p, nums, rows, i', cs', hg, rfl, htk, hp', hii, hi', hp1, hp2⟩ := parse_step hp hb
    obtain ⟨hin1, hin2⟩ := inside_cons hin
    refine ⟨fun σ2 H2 => ∃ m', m' < (((p :: nums) :: rows) :: cs').length ∧ ∃ u v y, σ2 = [some (.ref a), some (.ref c), some (.ref x), some (.ref t), u, v, y] ∧ Mid K H a c x t xs ns m' H2, fun _ _ z => z, ?_⟩
    refine ⟨_, rfl, x, dr, _, rfl, e4 _ _ hrd, rdF_none (by decide +kernel) (by decide +kernel), x, a, ns, i, p, rfl, rd.ex e4, hg, fun H5 k5 r5 => ?_⟩
    obtain ⟨dr5, hrd5⟩ := r5.ins
    refine ⟨_, rfl, _, rfl, _, rfl, _, rfl, x, a, ns, i + 1, i', p, nums, rows, rfl, r5, htk, fun H6 g rs k6 r6 hgv hg0 hr0 => ?_⟩
    have hxin : ∃ C dx fs, H4 x = some (.ins C dx fs) := ⟨_, _, _, e4 _ _ hrd⟩
    have k46 : But H4 H6 x := k5.trans k6
    have keepL : ∀ b l, H' b = some (.lst l) → H6 b = some (.lst l) := fun b l hb => k46 b _ (e4 _ _ hb) (ne_of (e4 _ _ hb) (e4 _ _ hrd) (by intro z; cases z))
    have hxx : x ∉ xs := by
      intro z
      obtain ⟨k, hk, e⟩ := List.getElem_of_mem z
      have hk2 : k < Fs.length := by rw [hA.lf, ← hA.lx]; exact hk
      have hk3 : k < S.series.length := by rw [hA.ls, ← hA.lx]; exact hk
      obtain ⟨dy, pa, pc, ps, ky⟩ := (hA.ser k _ _ _ (List.getElem?_eq_getElem hk) (List.getElem?_eq_getElem hk2) (List.getElem?_eq_getElem hk3)).ins
      rw [e, hrd] at ky
      injection ky with ky
      injection ky with _ _ ky
      cases ky
    have hA6 : All (cSer K) H6 xs Fs S := by
      refine ⟨hA.lx, hA.lf, hA.ls, fun k y' F s' h1 h2 h3 => ?_, hA.nd, hA.dj⟩
      have hS := hA.ser k y' F s' h1 h2 h3
      have hyx : y' ≠ x := fun z => hxx (by rw [← z]; exact List.mem_of_getElem? h1)
      refine (hS.ex e4).keep (x := x) (F := []) (fun b o hb h4 _ => k46 b o hb h4) hyx (by simp) (fun b hb => ⟨?_, by simp⟩) (fun b hb => by cases hb) hxin
      obtain ⟨l, hl⟩ := hS.kinds.2 b hb
      exact ne_of (e4 _ _ hl) (e4 _ _ hrd) (by intro z; cases z)
    refine ⟨c, g, xs, rs, Fs, S, p, nums, rows, rfl, keepL c _ hc, hA6, hgv, fun F hF r hr hrF => ?_, htk.fit hin1, fun H7 q Fs' hq0 hA7 k7 n7 hq7 hl7 => ?_⟩
    · obtain ⟨k, hk, rfl⟩ := List.getElem_of_mem hF
      have hk2 : k < xs.length := by rw [hA.lx, ← hA.lf]; exact hk
      have hk3 : k < S.series.length := by rw [hA.ls, ← hA.lf]; exact hk
      obtain ⟨l, hl⟩ := (hA.ser k _ _ _ (List.getElem?_eq_getElem hk2) (List.getElem?_eq_getElem hk) (List.getElem?_eq_getElem hk3)).kinds.2 r hrF
      have := hr0 r hr
      rw [k5 r _ (e4 _ _ hl) (ne_of (e4 _ _ hl) (e4 _ _ hrd) (by intro z; cases z))] at this
      cases this
    have notX : ∀ b l, H6 b = some (.lst l) → b ∉ xs := by
      intro b l hb z
      obtain ⟨k, hk, e⟩ := List.getElem_of_mem z
      have hk2 : k < Fs.length := by rw [hA.lf, ← hA.lx]; exact hk
      have hk3 : k < S.series.length := by rw [hA.ls, ← hA.lx]; exact hk
      obtain ⟨dy, pa, pc, ps, ky⟩ := (hA6.ser k _ _ _ (List.getElem?_eq_getElem hk) (List.getElem?_eq_getElem hk2) (List.getElem?_eq_getElem hk3)).ins
      rw [e, hb] at ky
      cases ky
    have ht7 : H7 t = some (.lst (done.map V.int)) := k7 t _ (keepL t _ ht') (notX t _ (keepL t _ ht')) (fun F hF z => (hfs F hF t z).2.2 rfl)
    have hc7 : H7 c = some (.lst (xs.map V.ref)) := k7 c _ (keepL c _ hc) (notX c _ (keepL c _ hc)) (fun F hF z => (hfs F hF c z).2.1 rfl)
    obtain ⟨dr6, hrd6⟩ := r6.ins
    have hx7 : H7 x = some (.ins (cRd K) dr6 (rdF a i')) := k7 x _ hrd6 hxx (fun F hF z => by
      obtain ⟨k, hk, rfl⟩ := List.getElem_of_mem hF
      have hk2 : k < xs.length := by rw [hA.lx, ← hA.lf]; exact hk
      have hk3 : k < S.series.length := by rw [hA.ls, ← hA.lf]; exact hk
      obtain ⟨l, hl⟩ := (hA6.ser k _ _ _ (List.getElem?_eq_getElem hk2) (List.getElem?_eq_getElem hk) (List.getElem?_eq_getElem hk3)).kinds.2 x z
      rw [hrd6] at hl
      cases hl)
    have xs0 : ∀ z, z ∈ xs → H z = none := fun z hz => m.nx z hz
    have ex7 : Ex H H7 := by
      intro b o hb
      have hbx : b ≠ x := ne_of_none hb hx0
      refine k7 b o (k46 b o (e4 _ _ (exH _ _ hb)) hbx) (fun z => ?_) (fun F hF z => ?_)
      · rw [xs0 b z] at hb
        cases hb
      · rw [(hfs F hF b z).1] at hb
        cases hb
    have fs7 : ∀ F, F ∈ Fs' → ∀ b, b ∈ F → H b = none ∧ b ≠ c ∧ b ≠ t := by
      intro F hF b hb
      rcases n7 F hF b hb with ⟨F0, hF0, z⟩ | z
      · exact hfs F0 hF0 b z
      · refine ⟨?_, ?_, ?_⟩
        · cases q' : H b with
          | none => rfl
          | some o =>
            have hbx : b ≠ x := ne_of_none q' hx0
            rw [k46 b o (e4 _ _ (exH _ _ q')) hbx] at z
            cases z
        · intro e
          rw [e, keepL c _ hc] at z
          cases z
        · intro e
          rw [e, keepL t _ ht'] at z
          cases z
    have hdl' : done.length + 901 * cs'.length + 901 ≤ 90100 := by
      simp only [List.length_cons] at hdl
      omega
    refine q_app (σ := [some (.ref a), some (.ref c), some (.ref x), some (.ref t), some (.int p), some (.ref q), y]) ht7 (ev_var rfl) (ev_is (w := .int (((Vbemaz.stepNumbers S ((p :: nums) :: rows)).2.length : Nat) : Int)) (ev_lenS (ea_cons (ev_var rfl) ea_nil) (sq_of hq7)) (by rw [List.length_map])) (by rw [List.length_map]; omega) fun H8 e8 => ?_
    have htq : q ≠ t := (ne_of_none (keepL t _ ht') hq0).symm
    refine s_extR (l := t) (b := q) upd_same (ev_var rfl) (ev_var rfl) (by rw [upd_ne htq]; exact e8 _ _ hq7) (by rw [List.length_append, List.length_map, List.length_map]; simp; omega) fun H9 e9 => ⟨cs'.length, by simp, some (.int p), some (.ref q), y, rfl, ⟨i', Fs', (Vbemaz.stepNumbers S ((p :: nums) :: rows)).1, cs', done ++ ((((Vbemaz.stepNumbers S ((p :: nums) :: rows)).2.length : Nat) : Int) :: (Vbemaz.stepNumbers S ((p :: nums) :: rows)).2), ?_, ?_, ?_, ?_, hp', hi', hin2, ?_, ?_, rfl, fs7⟩, ?_⟩
    · refine ⟨⟨dr6, ?_⟩, ?_⟩
      · rw [upd_ne (ne_of hx7 ht7 (by intro z; cases z))]
        refine e9 _ _ ?_
        rw [upd_ne (ne_of hx7 ht7 (by intro z; cases z))]
        exact e8 _ _ hx7
      · refine ex_l ?_ hS
        exact Ex.mut ((Ex.mut (ex7.trans e8) ht0).trans e9) ht0
    · rw [upd_ne htc.symm]
      refine e9 _ _ ?_
      rw [upd_ne htc.symm]
      exact e8 _ _ hc7
    · have up : ∀ (H1 : Hp) (l : List V), (∃ l0, H1 t = some (.lst l0)) → All (cSer K) H1 xs Fs' (Vbemaz.stepNumbers S ((p :: nums) :: rows)).1 → All (cSer K) (upd H1 t (.lst l)) xs Fs' (Vbemaz.stepNumbers S ((p :: nums) :: rows)).1 := by
        intro H1 l ⟨l0, hl0⟩ hh
        refine ⟨hh.lx, hh.lf, hh.ls, fun k y' F s' h1 h2 h3 => ?_, hh.nd, hh.dj⟩
        have hS' := hh.ser k y' F s' h1 h2 h3
        obtain ⟨⟨dy, gy, ky⟩, _⟩ := hS'.kinds
        obtain ⟨pa, pc, ps, rfl, h⟩ := hS'
        obtain ⟨dy, hin'⟩ := h.ins
        obtain ⟨ts, hcc, hl', htt⟩ := h.hc
        have nt : ∀ b, b ∈ [pa, pc, ps] → b ≠ t := fun b hb => (fs7 _ (List.mem_of_getElem? h2) b hb).2.2
        refine ⟨pa, pc, ps, rfl, ⟨dy, ?_⟩, ?_, ⟨ts, ?_, hl', fun i t' f a b => ?_⟩, ?_, h.d1, h.d2, h.d3, h.good⟩
        · rw [upd_ne (ne_of hin' hl0 (by intro z; cases z))]; exact hin'
        · rw [upd_ne (nt pa (by simp))]; exact h.ha
        · rw [upd_ne (nt pc (by simp))]; exact hcc
        · have h5 := htt i t' f a b
          rw [upd_ne (ne_of h5 hl0 (by intro z; cases z))]; exact h5
        · rw [upd_ne (nt ps (by simp))]; exact h.hs
      exact up _ _ ⟨_, e9 _ _ upd_same⟩ ((up _ _ ⟨_, e8 _ _ ht7⟩ (hA7.ex e8)).ex e9)
    · rw [upd_same, List.map_append, List.map_cons, List.append_assoc]
      rfl
    · rw [← heq, played_cons, told_cons]
      simp only [List.append_assoc, List.cons_append]
    · rw [List.length_append, List.length_cons]
      omega
    · exact Ex.mut ((Ex.mut (ex7.trans e8) ht0).trans e9) ht0
  · have hb := of_decide_eq_false hb
    have e : ns.drop i = [] := List.drop_eq_nil_of_le (by omega)
    rw [e] at hp
    cases hp
    have e2 : done = PyVbemaz.answers ns := by
      rw [← heq]
      show done = done ++ []
      rw [List.append_nil]
    rw [e2] at ht'
    exact s_ret (ev_var rfl) fun H5 e5 => hQ H5 t (e5 _ _ (e4 _ _ ht'))
end
end PR
set_option Elab.async false
set_option linter.all false
set_option maxRecDepth 100000
set_option maxHeartbeats 0
open PySem PySem.W PySem.Calls PyProof.Rows
theorem PySem.Challenge.cw_packedreadings_s01_answers_holds : PySem.Challenge.rw_packedreadings_s01_answers.Holds := by
  w_on
  refine HandSHeadRun.head_spec (r := PySem.Challenge.rw_packedreadings_s01_answers) (q := PR.qv) (H := PR.hookL PR.asL PR.chunks) (ob := PR.obL PR.asL PR.chunks) (M := 8000) (loose := PR.names) (d := HandSHeadRun.topDef PySem.Challenge.rw_packedreadings_s01_answers.prog 122) (kwd := []) (PR.obL_eq _ _) (by kernel_rfl) (fun s => by kernel_rfl) PR.run (by kernel_rfl) (by kernel_rfl) (by kernel_rfl) os_shapes (by first | assumption | decide +kernel) (by decide +kernel) ⟨rfl, rfl, rfl, rfl, rfl, by decide +kernel⟩ ?hw ?hc
  case hw => exact ⟨[.list [.int 20]], by decide +kernel, by decide +kernel⟩
  case hc =>
    refine PR.walk_specE (k := 13) (CX := L2.CX0) (ps := ["calls"]) (by decide +kernel) rfl ⟨rfl, by decide, by decide⟩ ?F (fun _ _ _ _ z => z)
    intro w mg fa h Y G hmg
    obtain ⟨K, KX, c⟩ := Y
    have hmg2 : mg ("answers" : PySem.Str) = some (.ref fa) := by
      have e : (HandSHeadRun.topDef PySem.Challenge.rw_packedreadings_s01_answers.prog 122).name = ("answers" : PySem.Str) := by kernel_rfl
      rw [← e]
      exact hmg
    have T : PR.Top K w mg := ⟨fun i ch hi => c ch (List.mem_of_getElem? hi), fun hx => He.glo_ok KX G hx, fun hx => He.free_ok KX G hx, fun hx => He.int_ok KX G hx⟩
    have e := hmg2.symm.trans T.g_answers
    cases e
    obtain ⟨fd, F⟩ := T.f_answers
    refine ⟨K, fd, PR.spAnswers K, KX, ?b, ?ok, ?S⟩
    case b => exact fun s us hu => L2.FunD.bindsA (ps := ["calls"]) F (fun _ _ _ _ _ _ us hl => match us, hl with | [_], _ => rfl) s us hu
    case ok => exact fun base _ _ => PR.fn_answers T F
    case S =>
      intro H xs a hO hwi hask hx
      cases hx with
      | cons h1 h2 =>
        cases h2
        cases h1 with
        | lst hs ha =>
          have e := L2.ints_dw a.1 _ ha
          subst e
          have q : ((Codec.inLen 0 16000 a.1 && a.1.all (Codec.inInt (-1000000000000000000) 1000000000000000000)) && true) = true := hwi
          rw [Bool.and_eq_true, Bool.and_eq_true] at q
          exact ⟨_, a.1, rfl, hs, hask, (Codec.inNat_iff.mp q.1.1).2, fun H' p hp => .lst (L2.SqL.of hp) (L2.dw_ints _)⟩
