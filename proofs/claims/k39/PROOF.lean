import PyProof.Rows.All
import Wide.All
import OpenK.AllK
import Wide.FinOn
import HandS.ForMost
import HandS.IsInst
import HandS.Style
import HandS.Set
import HandS.Strs
import HandS.SetBool
import HandS.SetFor
import HandS.TupSets
import HandS.SortOrd
import HandS.Conv
import HandS.DictComp
import HandS.Walk
import KE.KDictWalk
import PySem.Challenge.RW_ringproofs_k39_ways_put_together
import HandS.Zip
import HandS.Flt
import HandS.TryOnly
import HandS.Iter
import PyProof.Rows.RegFStrParts
set_option Elab.async false
set_option linter.all false
set_option maxRecDepth 100000
set_option maxHeartbeats 4000000
/-! Two rules that the layer lacks: a comprehension that makes a set of ints, and set(xs) of a list of ints whose table is known well enough to be sorted afterwards. -/
namespace Rp
open PySem PySem.Spec PyProof.Rows L2 PpSet

section addi
variable {X : Cx}
/-- an int goes into a tracked set of ints -/
theorem putInt {pins : List (Addr × Obj)} {σ : L2.St} {H : Hp} {s : Shared} {E : Value → Shared → Prop} {D : Addr} {S : Int → Bool} {n : Nat} {y : Int} {t : Tok} {Q : Value → Shared → Prop}
    (I : Inv X pins σ H s) (hD : H D = some (SetO X.w D S n)) (few : n + 1 < scanBound)
    (go : ∀ s', Inv X pins σ (upd H D (SetO X.w D (fun j => S j || decide (j = y)) (if S y = true then n else n + 1))) s' → Q .none s') :
    wpAny (model X.prog X.w) X.A (call (.builtin "set.add") [.ref D, .int y t]) Q E s :=
  setR_add (setO_get I hD) few fun h' same now =>
    have there : ∃ u, h'.get? D = some u := let ⟨o, _, _, _, ho, _⟩ := now; ⟨o, ho⟩
    go _ (I.write (e := D) (t' := s.toks + 1) (by rw [hD]; trivial) (.inl rfl) (fun b u ne hu => (same.2 b ne).trans hu) there (setO_new now))

/-- what {e for x in .. if ..} asks where e is an int -/
def tScI (w : World) (wi : TI) (g : TG) (tt : TT) (te : TE) (vs : List Nat) : TE := fun σ H Q => wi σ H fun J H1 => ∀ D, H1 D = none →
  ∃ W : Nat → Nat → Hp → Prop, (∃ m, W 0 m (upd H1 D (SetO w D (fun _ => false) 0))) ∧ ∀ i m H, W i m H → (J.stop i H ∧ Q (.ref D) H) ∨
    (J.go i H ∧ ∃ Nx : Hp → Prop, (∀ H', Nx H' → ∃ m', m' < m ∧ W (i + 1) m' H') ∧ ∀ x H', J.yld i H x H' → g x (wipe σ vs) H' fun σ2 H2 => wipe σ2 vs = wipe σ vs ∧
      tt σ2 H2 fun b H3 => if b = true then te σ2 H3 fun y H4 => ∃ (k : Int) (S : Int → Bool) (n : Nat), y = .int k ∧ H4 D = some (SetO w D S n) ∧ n + 1 < scanBound ∧
        Nx (upd H4 D (SetO w D (fun j => S j || decide (j = k)) (if S k = true then n else n + 1))) else Nx H3)

abbrev emptySet (w : World) : Obj := { cls := .type "set", dict := none, data := .set #[] 0 (.fresh 0 0 (!w.params.followText "set-order")) }

theorem pe_scI {elt tg iter : Expr} {ifs : List Expr} {scope : Scope} {own : List (PySem.Str × Nat)} {pos : Pos} {wi : TI} {g : TG} {tt : TT} {te : TE}
    (hc : X.calm = true) (hN : X.N.Nodup) (hi : PI X tg iter wi) (ok : BlkOk X.N X.env.scope scope own)
    (hg : ∀ (s : Shared) (H : Hp) (C : Addr) (cl : List (PySem.Str × Addr)) (fp : List Addr), PG (X.blk s H scope (compEnvC scope cl C X.env) fp) tg g)
    (ht : ∀ (s : Shared) (H : Hp) (C : Addr) (cl : List (PySem.Str × Addr)) (fp : List Addr), PTs (X.blk s H scope (compEnvC scope cl C X.env) fp) ifs tt)
    (he : ∀ (s : Shared) (H : Hp) (C : Addr) (cl : List (PySem.Str × Addr)) (fp : List Addr), PE (X.blk s H scope (compEnvC scope cl C X.env) fp) elt te)
    (hs : ∀ x, foldedSetIterable iter X.env x = pure x := by intro _; rfl) :
    PE X (.SetComp elt [⟨tg, iter, ifs, 0⟩] scope pos) (tScI X.w wi g tt te (own.map (·.2))) := by
  refine ⟨fun pins s σ H Q I h => ?_⟩
  rw [eval_SetComp]
  have caught : ∀ y ∈ scope.names, y.2 = .free → ∃ c, X.env.cells.lookup y.1 = some c := fun y hy e =>
    (ok.free y hy e).elim (fun k => I.ok.has _ (.inl k)) fun k => I.ok.has _ (.inr k)
  refine wpAny_comprehension_free (use := none) rfl hs (closure_ok caught) ok.kind (fun y hy e => (ok.uniq y hy).trans (by rw [e])) (thn (hi.run pins s σ H _ I h) fun xv s1 hx => thn hx fun itv s2 h2 => ?_)
  obtain ⟨it, fp, tn, J, H2, rfl, I2, T, st2, f2, q⟩ := h2
  refine newSet_ok (newEnv_comp ?_)
  -- the new set's place
  obtain ⟨D, hD⟩ : ∃ D, s2.heap.objs.size = D := ⟨_, rfl⟩
  rw [hD]
  obtain ⟨W, ⟨m0, w0⟩, turn⟩ := q D (I2.hok.fresh (Nat.le_of_eq hD))
  obtain ⟨s3, hs3⟩ : ∃ s3 : Shared, { s2 with heap := s2.heap.push (emptySet X.w) } = s3 := ⟨_, rfl⟩
  have h3 : s3.heap = s2.heap.push (emptySet X.w) := by rw [← hs3]
  have I3 : Inv X pins σ (upd H2 D (SetO X.w D (fun _ => false) 0)) s3 := by
    have z := I2.laid (a := D) (o := SetO X.w D (fun _ => false) 0) (t' := s2.toks) (h' := s2.heap.push (emptySet X.w)) (fun b o e => Heap.get?_push_of_some _ e) (Nat.le_of_eq hD) (by rw [← hD]; exact setO_new (setR_fresh X.w))
    exact hs3 ▸ z
  have low : ∀ b ∈ fp, b < s2.heap.objs.size := fun b hb => let ⟨o, e, _⟩ := T.obj _ _ st2 b hb; Heap.lt_size e
  have f3 : ∀ b ∈ fp, FpOk X pins (upd H2 D (SetO X.w D (fun _ => false) 0)) b ∧ b < s3.heap.objs.size := fun b hb =>
    ⟨⟨(upd_ne (by rw [← hD]; exact Nat.ne_of_lt (low b hb))).trans (f2 b hb).1, (f2 b hb).2⟩, by rw [h3, Heap.size_push]; exact Nat.lt_succ_of_lt (low b hb)⟩
  have st3 : tn 0 s3.heap := T.keep _ _ _ st2 fun b _ o e => h3 ▸ Heap.get?_push_of_some _ e
  have I4 := block_start I3 ok hN f3
  obtain ⟨H3, hH3⟩ : ∃ H3, upd H2 D (SetO X.w D (fun _ => false) 0) = H3 := ⟨_, rfl⟩
  rw [hH3] at I3 f3 I4 w0
  obtain ⟨C, hC⟩ : ∃ C, s3.heap.objs.size = C := ⟨_, rfl⟩
  rw [hC] at I4
  have pg := hg s3 H3 C (cellsFrom (C + 1) scope.names (cloFrom X.env.cells scope.names [])) fp
  have pt := ht s3 H3 C (cellsFrom (C + 1) scope.names (cloFrom X.env.cells scope.names [])) fp
  have pe := he s3 H3 C (cellsFrom (C + 1) scope.names (cloFrom X.env.cells scope.names [])) fp
  subst hs3
  have hC' : (s2.heap.push (emptySet X.w)).objs.size = C := hC
  show codeAny _ _ (.compStart (.SetComp elt [⟨tg, iter, ifs, 0⟩] scope pos) 0 (.ref it) (.ref D) (compEnvC scope (cellsFrom ((s2.heap.push (emptySet X.w)).objs.size + 1) scope.names (cloFrom X.env.cells scope.names [])) (s2.heap.push (emptySet X.w)).objs.size X.env))
    (compPost (model X.prog X.w) X.A X.xe none (EP X pins σ Q) (.ref D) (s2.heap.push (emptySet X.w)).objs.size) { s2 with heap := pushCells ((s2.heap.push (emptySet X.w)).push { cls := .type "dict", data := .dict #[] }) scope.names }
  rw [hC']
  obtain ⟨ce, hce⟩ : ∃ ce, compEnvC scope (cellsFrom (C + 1) scope.names (cloFrom X.env.cells scope.names [])) C X.env = ce := ⟨_, rfl⟩
  rw [hce] at I4 pg pt pe ⊢
  have cL : ce.locals = C := by subst hce; rfl
  obtain ⟨s4, hs4⟩ : ∃ s4 : Shared, { s2 with heap := pushCells ((s2.heap.push (emptySet X.w)).push { cls := .type "dict", data := .dict #[] }) scope.names } = s4 := ⟨_, rfl⟩
  have I4 : Inv (X.blk _ H3 scope ce fp) [] (wipe σ (own.map (·.2))) H3 s4 := hs4 ▸ I4
  rw [hs4]
  have st4 : tn 0 s4.heap := T.keep _ _ _ st3 fun b _ o e => by rw [← hs4]; exact pushCells_keeps _ _ _ _ (Heap.get?_push_of_some _ e)
  obtain ⟨Y, hY⟩ : ∃ Y, X.blk { s2 with heap := s2.heap.push (emptySet X.w) } H3 scope ce fp = Y := ⟨_, rfl⟩
  have rest : ∀ {σ' : L2.St} {H' : Hp} {s' : Shared}, Inv Y [] σ' H' s' → (∀ b ∈ fp, H' b = none) → ∀ b ∈ fp, FpOk Y [] H' b := by
    subst hY
    intro σ' H' s' I' hn b hb
    exact ⟨hn b hb, (I'.ok.exf b hb).1, I'.ok.exfs b hb, .inl hb, fun x c e => (I'.ok.exf b hb).2 x c e, fun p hp => absurd (show p ∈ ([] : List (Addr × Obj)) ++ [] from hp) (by simp)⟩
  have round : codeAny (model X.prog X.w) X.A (.compLoop (.SetComp elt [⟨tg, iter, ifs, 0⟩] scope pos) 0 (.ref it) (.ref D) ce) (compPost (model X.prog X.w) X.A X.xe none (EP X pins σ Q) (.ref D) C) s4 := by
    refine compLoopS_any (fun n s' => ∃ i H', Inv Y [] (wipe σ (own.map (·.2))) H' s' ∧ tn i s'.heap ∧ (∀ b ∈ fp, H' b = none) ∧ W i n H') ?_ m0 ⟨0, H3, hY ▸ I4, st4, fun b hb => (f3 b hb).1.1, w0⟩
    rintro n s5 ⟨i, H5, I5, st5, n5, w5⟩
    rcases turn i n H5 w5 with ⟨stop, qq⟩ | ⟨go, Nx, hNx, step⟩
    · subst hY
      refine thnF (T.done (X.blk _ H3 scope ce fp) rfl rfl rfl hc i [] s5 _ H5 (fun _ _ => False) I5 (rest I5 n5) st5 stop) fun r s6 ⟨hr, I6⟩ => ?_
      subst hr
      have I7 : Inv X pins σ H5 s6 := I3.call' (ch := fp) I6.os I6.base I6.hok I6.bare fun b hb => ⟨(f3 b hb).1.2.2.2.1, (f3 b hb).1.2.1, (f3 b hb).1.2.2.2.2.1, (f3 b hb).1.2.2.2.2.2⟩
      have nC : H5 C = none := cL ▸ (show H5 ce.locals = none from I6.free)
      obtain ⟨m, hn, _⟩ := I6.loc
      have hn : s6.heap.Ns C m := cL ▸ (show s6.heap.Ns ce.locals m from hn)
      refine ⟨m, hn, fun h'' sb => ?_⟩
      obtain ⟨g0, g1, g2, g3, g4, g5⟩ := I3.fpOk (Nat.le_of_eq hC) nC
      exact ⟨.ref D, H5, I7.turned (t' := s6.toks) (fun b o hb e => (sb.2 b hb).trans e) g0 g1 g3 g4 g5, rfl, qq⟩
    · have ti := T.item Y (by subst hY; rfl) (by subst hY; rfl) (by subst hY; rfl) (by subst hY; exact hc) i [] s5 _ H5 (fun _ _ => False) I5 (rest I5 n5) st5 go
      subst hY
      refine thnF ti fun r s6 ⟨u, hr, h6⟩ => ?_
      subst hr
      refine thnF h6 fun _ s7 ⟨x, H7, I7, r7, y7, st7, n7⟩ => ?_
      refine thnF (pg.run _ s7 _ H7 x u _ (I7.pinned (rest I7 n7) (T.obj _ _ st7)) r7 (step x H7 y7)) fun _ s8 ⟨σ8, H8, I8, hw8, q8⟩ => ?_
      refine thnF (pt.run _ s8 σ8 H8 _ I8 q8) fun b s9 ⟨H9, I9, q9⟩ => ?_
      have turned : ∀ {s' : Shared} {H' : Hp}, Inv (X.blk { s2 with heap := s2.heap.push (emptySet X.w) } H3 scope ce fp) ([] ++ pinsAt fp s7.heap) σ8 H' s' → Nx H' → ∃ m, m < n ∧ ∃ i H', Inv (X.blk { s2 with heap := s2.heap.push (emptySet X.w) } H3 scope ce fp) [] (wipe σ (own.map (·.2))) H' s' ∧ tn i s'.heap ∧ (∀ b ∈ fp, H' b = none) ∧ W i m H' := by
        intro s' H' I' nx
        obtain ⟨m', hm, w'⟩ := hNx H' nx
        have pin : ∀ b ∈ fp, ∀ o, s7.heap.get? b = some o → s'.heap.get? b = some o ∧ H' b = none := fun b hb o e =>
          let z := I'.pin (b, o) (List.mem_append_right _ (List.mem_append_right _ (mem_pinsAt hb e))); ⟨z.1, z.2.1⟩
        refine ⟨m', hm, i + 1, H', (I'.unpinned (pins := [])).weak (by rw [← hw8, wipe_length]) (fun j v e => (wipe_some (by rw [hw8]; exact e)).1), T.keep _ _ _ st7 fun b hb o e => (pin b hb o e).1, fun b hb => ?_, w'⟩
        obtain ⟨o, e, _⟩ := T.obj _ _ st7 b hb
        exact (pin b hb o e).2
      cases b with
      | false => simp only [Bool.false_eq_true, if_false] at q9 ⊢; exact turned I9 q9
      | true =>
        simp only [if_true] at q9 ⊢
        refine thnF (pe.run _ s9 σ8 H9 _ I9 q9) fun z s10 ⟨yv, H10, I10, r10, k, S0, n0, ey, hD10, few, nx⟩ => ?_
        subst ey
        obtain ⟨t, rfl⟩ := r10
        exact putInt (X := X.blk _ H3 scope ce fp) I10 hD10 few fun s11 I11 => turned I11 nx
  exact codeAny_compStart_set round (T.self X.A 0 _ _ _ st4 round)

/-- the walk over a list that the block leaves as it is -/
theorem scI_list {w : World} {K : PySem.W.Frag} {a : Addr} {xs : List V} {g : TG} {tt : TT} {te : TE} {vs : List Nat} {σ : L2.St} {H1 : Hp} {D : Addr} {Qd : Hp → Prop}
    (Pv : Nat → Hp → Prop) (h0 : Pv 0 (upd H1 D (SetO w D (fun _ => false) 0))) (hl : ∀ i H, i ≤ xs.length → Pv i H → SqL K H a xs)
    (hs : ∀ i x H, xs[i]? = some x → Pv i H → g x (wipe σ vs) H fun σ2 H2 => wipe σ2 vs = wipe σ vs ∧ tt σ2 H2 fun b H3 => if b = true then te σ2 H3 fun y H4 =>
      ∃ (k : Int) (S : Int → Bool) (n : Nat), y = .int k ∧ H4 D = some (SetO w D S n) ∧ n + 1 < scanBound ∧ Pv (i + 1) (upd H4 D (SetO w D (fun j => S j || decide (j = k)) (if S k = true then n else n + 1))) else Pv (i + 1) H3)
    (hd : ∀ H, Pv xs.length H → Qd H) :
    ∃ W : Nat → Nat → Hp → Prop, (∃ m, W 0 m (upd H1 D (SetO w D (fun _ => false) 0))) ∧ ∀ i m H, W i m H → ((Itl K a).stop i H ∧ Qd H) ∨
      ((Itl K a).go i H ∧ ∃ Nx : Hp → Prop, (∀ H', Nx H' → ∃ m', m' < m ∧ W (i + 1) m' H') ∧ ∀ x H', (Itl K a).yld i H x H' → g x (wipe σ vs) H' fun σ2 H2 => wipe σ2 vs = wipe σ vs ∧
        tt σ2 H2 fun b H3 => if b = true then te σ2 H3 fun y H4 => ∃ (k : Int) (S : Int → Bool) (n : Nat), y = .int k ∧ H4 D = some (SetO w D S n) ∧ n + 1 < scanBound ∧
          Nx (upd H4 D (SetO w D (fun j => S j || decide (j = k)) (if S k = true then n else n + 1))) else Nx H3) := by
  refine ⟨fun i m H => m + i = xs.length ∧ Pv i H, ⟨xs.length, by simp, h0⟩, ?_⟩
  rintro i m H ⟨em, p⟩
  have here := hl i H (by omega) p
  rcases Nat.lt_or_ge i xs.length with lt | ge
  · refine .inr ⟨⟨xs, xs[i], here, by simp [lt]⟩, Pv (i + 1), fun H' p' => ⟨m - 1, by omega, by omega, p'⟩, fun x H' ⟨e, y⟩ => ?_⟩
    subst e
    exact hs i x _ (y xs here) p
  · have e : i = xs.length := by omega
    subst e
    exact .inl ⟨⟨xs, here, Nat.le_refl _⟩, hd H p⟩
end addi
end Rp

namespace Rp
open PySem PySem.Spec PyProof.Rows L2 PpSet
section
variable {P : Program} {w : World} {A : Around} {E : Value → Shared → Prop} {s : Shared}
set_option maxHeartbeats 6400000 in
theorem set_of_list {l : Addr} {items : Array Value} (ns : List Int) {Q : Value → Shared → Prop} (calm : A.handled = none) (hl : s.heap.IsList l items) (hi : IntsAre items.toList ns) (few : ns.length + 1 < scanBound)
    (go : ∀ (h' : Heap) (tk c : Nat), SetR w h' s.heap.objs.size (fun j => decide (j ∈ ns)) c → c ≤ ns.length → (∀ b o, s.heap.get? b = some o → h'.get? b = some o) → Q (.ref s.heap.objs.size) { s with heap := h', toks := tk }) :
    wpAny (model P w) A (call (.type "set") [.ref l]) Q E s := by
  have cnt : items.size = ns.length := by have q := IntsAre.length hi; rwa [Array.length_toList] at q
  obtain ⟨c, tl, hmro⟩ := F.called_set.mro
  have hmade := F.called_set.made
  have hsub := F.called_set.sub
  refine wpAny_call (codeAny_of_tree ?_)
  show wpAny _ _ (callAny (.type "set") _) _ _ _
  refine wpAny_pure ⟨Code.quiet_builtin _ (by decide +kernel), codeAny_builtin F.entry_type_call ?_⟩
  rw [Around.under_plain (weight_type_call_type "set" [.ref l] []) rfl]
  have h1 := F.called_set.notType
  have h2 := F.called_set.canCreate
  have hct := F.typeCall_set_1 (.ref l)
  repeat (any_goals (first | assumption | wp_step))
  refine codeAny_mono (code_set_led1 (.ref l) (E := E) (Q₁ := fun obj z => obj = .ref s.heap.objs.size ∧ z = { s with heap := s.heap.push (emptySet w) }) ⟨rfl, rfl⟩) fun r s₁ hr => ?_
  cases r with
  | error e => exact hr
  | ok fl =>
    cases fl with
    | ret obj =>
      obtain ⟨rfl, rfl⟩ := hr
      have atNew : (s.heap.push (emptySet w)).get? s.heap.objs.size = some (emptySet w) := Heap.get?_push_size _ rfl
      have hT : Shared.TypeIs { s with heap := s.heap.push (emptySet w) } (.ref s.heap.objs.size) "set" := ⟨_, atNew, rfl⟩
      have hli := F.called_set.init.lookup
      have hbi := F.called_set.init.bind (.ref s.heap.objs.size)
      repeat (any_goals (first | assumption | wp_step))
      refine codeAny_mono (codeAny_call_builtin (R := wants (fun r z => r = .none ∧ ∃ h' tk c, z = { s with heap := h', toks := tk } ∧ SetR w h' s.heap.objs.size (fun j => decide (j ∈ ns)) c ∧ c ≤ ns.length ∧
        (∀ b o, s.heap.get? b = some o → h'.get? b = some o)) E) F.called_set.init.plain F.entry_set_init (check_set_init_1 hT ?_)) fun r₂ s₂ hr₂ => ?_
      · obtain ⟨⟨ocls, odict, odata, oslots⟩, hol, hcl, nl, hdl⟩ := hl
        simp only at hcl hdl
        subst hcl hdl
        have hol' : (s.heap.push (emptySet w)).get? l = some { cls := .type "list", dict := odict, data := .seq items nl, slots := oslots } := Heap.get?_push_of_some _ hol
        have hsls := F.sub_list_set
        have hslf := F.sub_list_frozenset
        have hne : (Value.type "list" == Value.type "dict") = false := by decide
        have here : (s.heap.push (emptySet w)).IsList l items := ⟨_, hol', rfl, nl, rfl⟩
        unfold Builtin.«set.__init__» noKeywords Builtin.Frozenset.updateFrom
        generalize hPI : pyIter = PI
        wp_walk
        subst hPI
        refine wpAny_pyIter_list here (wpAny_bind (wpAny_runValue ?_))
        have below : l < s.heap.objs.size := Heap.lt_size hol
        have top : (s.heap.push (emptySet w)).objs.size = s.heap.objs.size + 1 := Heap.size_push ..
        have apart : l ≠ (s.heap.push (emptySet w)).objs.size := by rw [top]; exact Nat.ne_of_lt (Nat.lt_succ_of_lt below)
        have out : s.heap.objs.size ∉ [(s.heap.push (emptySet w)).objs.size, l] := by
          simp only [List.mem_cons, List.not_mem_nil, or_false, not_or, top]
          exact ⟨Nat.ne_of_lt (Nat.lt_succ_self _), Nat.ne_of_gt below⟩
        have each : ∀ (i : Nat) (v : Value), items[i]? = some v → ∃ k t, ns[i]? = some k ∧ v = .int k t := by
          intro i v hv
          have lt : i < ns.length := by rw [← cnt]; exact (Array.getElem?_eq_some_iff.mp hv).1
          obtain ⟨t, e⟩ := PyProof.Rows.IntsAre.int_at hi i v (by rw [Array.getElem?_toList]; exact hv)
          exact ⟨ns[i], t, List.getElem?_eq_getElem lt, by rw [e, List.getD_eq_getElem?_getD, List.getElem?_eq_getElem lt]; rfl⟩
        refine set_update_ints ((Walks.list (by simp [calm]) _ l apart items).toS) s.heap.objs.size out ns cnt few each (items.size - 0) 0 _ (by omega) (Nat.zero_le _)
          ⟨⟨_, Heap.get?_push_size _ rfl, rfl, rfl⟩, here.push _⟩ ⟨0, Nat.le_refl 0, setR_new_at (Heap.get?_push_of_some _ atNew)⟩ fun s' c' hm hc' hS' => ?_
        obtain ⟨h', g2, d', tk', os'⟩ := s'
        have eg : g2 = s.gens := hm.gens
        have ed : d' = s.drawn := hm.drawn
        have eo : os' = s.os := hm.os
        subst eg ed eo
        show wpAny _ _ _ _ _ _
        refine wpAny_pure ?_
        show wpAny _ _ (ret Value.none) _ _ _
        refine wpAny_pure ⟨rfl, h', tk', c', rfl, hS', by omega, fun b o e => ?_⟩
        have lt := Heap.lt_size e
        exact hm.heap b o (by simp only [List.mem_cons, List.not_mem_nil, or_false, not_or, top]; exact ⟨Nat.ne_of_lt lt, Nat.ne_of_lt (Nat.lt_succ_of_lt lt)⟩) (Heap.get?_push_of_some _ (Heap.get?_push_of_some _ e))
      · cases r₂ with
        | error e => exact hr₂
        | ok fl₂ =>
          cases fl₂ with
          | ret r =>
            obtain ⟨rfl, h', tk, c', rfl, hS', hc', hk'⟩ := hr₂
            repeat (any_goals (first | assumption | wp_step))
            exact go _ _ _ hS' hc' hk'
          | _ => exact hr₂.elim
    | _ => exact hr.elim
end
section
variable {X : Cx}
theorem intsOf : ∀ {ns : List Int} {us : List Value}, Vals (ns.map V.int) us → PyProof.Rows.IntsAre us ns
  | [], _, .nil => .nil
  | n :: ns, _, .cons ⟨k, e⟩ t => by subst e; exact .cons n k (intsOf t)
/-- set(xs), xs a list of ints -/
def rSetI (K : PySem.W.Frag) (w : World) : List V → Hp → VK → Prop := fun vs H Q => ∃ (a : Addr) (ns : List Int), vs = [V.ref a] ∧ SqL K H a (ns.map V.int) ∧ ns.length < 1000 ∧
  ∀ (p : Addr) (c : Nat), H p = none → c ≤ ns.length → Q (.ref p) (upd H p (SetO w p (fun j => decide (j ∈ ns)) c))
theorem cr_setI (hc : X.calm = true) : CallR X (.type "set") (rSetI X.K X.w) := by
  intro pins s σ H vs us Q I r h
  obtain ⟨a, ns, rfl, hs, hn, q⟩ := h
  rw [Vals.ref1 r]
  obtain ⟨its, rv, pl, hz⟩ := I.list hs
  refine set_of_list ns (I.ok.hd hc) pl.isList (by simpa using intsOf rv) (by unfold scanBound; omega) fun h' tk c R hc' k => ?_
  have hn : H s.heap.objs.size = none := I.hok.fresh (Nat.le_refl _)
  exact ⟨.ref _, upd H s.heap.objs.size (SetO X.w s.heap.objs.size (fun j => decide (j ∈ ns)) c), I.laid (t' := tk) k (Nat.le_refl _) (setO_new R), rfl, q _ c hn hc'⟩
end
end Rp

namespace Rp
open PySem L2
/-! ### TERMs -/
inductive Tm where
  | v (n : Int) | z | s (t : Tm) | f (l r : Tm)
  deriving DecidableEq
namespace Tm
def size : Tm → Nat
  | v _ => 1 | z => 1 | s t => t.size + 1 | f l r => l.size + r.size + 1
def deep : Tm → Nat
  | v _ => 0 | z => 0 | s t => t.deep + 1 | f l r => max l.deep r.deep + 1
def nums : Tm → List Int
  | v n => [n] | z => [] | s t => t.nums | f l r => l.nums ++ r.nums
/-- all parts, the whole first, the right-hand ones ahead of the left-hand ones -/
def rpost : Tm → List Tm
  | v n => [v n] | z => [z] | s t => s t :: t.rpost | f l r => f l r :: (r.rpost ++ l.rpost)
def kids : Tm → List Tm
  | v _ => [] | z => [] | s t => [t] | f l r => [l, r]
theorem size_pos : ∀ t : Tm, 1 ≤ t.size
  | v _ => Nat.le_refl _ | z => Nat.le_refl _ | s _ => by unfold size; omega | f _ _ => by unfold size; omega
theorem deep_lt : ∀ t : Tm, t.deep < t.size
  | v _ => Nat.zero_lt_one | z => Nat.zero_lt_one | s t => by have := deep_lt t; unfold deep size; omega
  | f l r => by have := deep_lt l; have := deep_lt r; unfold deep size; omega
theorem rpost_len : ∀ t : Tm, t.rpost.length = t.size
  | v _ => rfl | z => rfl | s t => by unfold rpost size; rw [List.length_cons, rpost_len t]
  | f l r => by unfold rpost size; rw [List.length_cons, List.length_append, rpost_len l, rpost_len r]; omega
/-- an int among the parts -/
theorem mem_rpost (n : Int) : ∀ t : Tm, v n ∈ t.rpost ↔ n ∈ t.nums
  | v m => by unfold rpost nums; simp
  | z => by unfold rpost nums; simp
  | s t => by unfold rpost nums; have := mem_rpost n t; simp [this]
  | f l r => by unfold rpost nums; have := mem_rpost n l; have := mem_rpost n r; simp [*]; exact Or.comm
theorem rpost_kids (t : Tm) : t.rpost = t :: (t.kids.reverse.flatMap rpost) := by
  cases t <;> simp [rpost, kids]
theorem kids_size (t : Tm) : (t.kids.map size).sum + 1 = t.size := by
  cases t <;> simp [kids, size] <;> omega
theorem nums_len : ∀ t : Tm, t.nums.length ≤ t.size
  | v _ => Nat.le_refl _ | z => Nat.zero_le _ | s t => by have := nums_len t; unfold nums size; omega
  | f l r => by have := nums_len l; have := nums_len r; unfold nums size; rw [List.length_append]; omega
/-- all signs, as law's leaves has them -/
def signs : Tm → List V
  | v n => [.int n] | z => [.str "0"] | s t => .str "s" :: t.signs | f l r => .str "f" :: (l.signs ++ r.signs)
theorem signs_len : ∀ t : Tm, t.signs.length = t.size
  | v _ => rfl | z => rfl | s t => by unfold signs size; rw [List.length_cons, signs_len t]
  | f l r => by unfold signs size; rw [List.length_cons, List.length_append, signs_len l, signs_len r]
end Tm
/-- the ints of a row of ints and texts -/
def rowInts : List V → List Int
  | [] => []
  | .int n :: r => n :: rowInts r
  | _ :: r => rowInts r
theorem rowInts_append : ∀ a b : List V, rowInts (a ++ b) = rowInts a ++ rowInts b
  | [], b => rfl
  | x :: r, b => by cases x <;> simp [rowInts, rowInts_append r b]
theorem signs_nums : ∀ t : Tm, rowInts t.signs = t.nums
  | .v _ => rfl | .z => rfl | .s t => by simp [Tm.signs, Tm.nums, rowInts, signs_nums t]
  | .f l r => by simp [Tm.signs, Tm.nums, rowInts, rowInts_append, signs_nums l, signs_nums r]
/-- a row of ints and texts -/
def Flat2 : V → Prop
  | .int _ => True
  | .str _ => True
  | _ => False
theorem signs_flat : ∀ t : Tm, ∀ x ∈ t.signs, Flat2 x
  | .v _, x, h => by simp [Tm.signs] at h; subst h; trivial
  | .z, x, h => by simp [Tm.signs] at h; subst h; trivial
  | .s t, x, h => by
    simp only [Tm.signs, List.mem_cons] at h
    rcases h with h | h
    · subst h; trivial
    · exact signs_flat t x h
  | .f l r, x, h => by
    simp only [Tm.signs, List.mem_cons, List.mem_append] at h
    rcases h with h | h | h
    · subst h; trivial
    · exact signs_flat l x h
    · exact signs_flat r x h
/-! ### two rising rows of the same ints are one -/
theorem rising_one : ∀ {a b : List Int}, a.Pairwise (· < ·) → b.Pairwise (· < ·) → (∀ k, k ∈ a ↔ k ∈ b) → a = b
  | [], [], _, _, _ => rfl
  | [], y :: b, _, _, h => by have := (h y).2 (by simp); simp at this
  | x :: a, [], _, _, h => by have := (h x).1 (by simp); simp at this
  | x :: a, y :: b, ha, hb, h => by
    rw [List.pairwise_cons] at ha hb
    have exy : x = y := by
      rcases List.mem_cons.mp ((h x).1 (by simp)) with e | e
      · exact e
      · rcases List.mem_cons.mp ((h y).2 (by simp)) with e' | e'
        · exact e'.symm
        · have := hb.1 x e
          have := ha.1 y e'
          omega
    subst exy
    rw [rising_one ha.2 hb.2 fun k => ?_]
    constructor
    · intro hk
      rcases List.mem_cons.mp ((h k).1 (List.mem_cons_of_mem _ hk)) with e | e
      · have := ha.1 k hk; omega
      · exact e
    · intro hk
      rcases List.mem_cons.mp ((h k).2 (List.mem_cons_of_mem _ hk)) with e | e
      · have := hb.1 k hk; omega
      · exact e
/-! ### heaps -/
/-- all but b stays -/
def But (b : Addr) (H H' : Hp) : Prop := ∀ c o, H c = some o → c ≠ b → H' c = some o
theorem But.refl (b : Addr) (H : Hp) : But b H H := fun _ _ h _ => h
theorem But.trans {b : Addr} {H H1 H2 : Hp} (x : But b H H1) (y : But b H1 H2) : But b H H2 := fun c o h n => y c o (x c o h n) n
theorem but_of {b : Addr} {H H' : Hp} (x : Same H H') : But b H H' := fun c o h _ => x c o h
theorem same_new {H : Hp} {p : Addr} (h : H p = none) (o : HO) : Same H (upd H p o) := fun b u q => by rw [upd_ne (ne_of_none q h)]; exact q
theorem but_upd {H : Hp} {b : Addr} (o : HO) : But b H (upd H b o) := fun c u h n => by rw [upd_ne n]; exact h
/-- the box of draws: j bounds how often it was drawn from -/
structure BoxAt (H : Hp) (b : Addr) (j : Nat) : Prop where
  ex : ∃ x y z : Int, H b = some (.lst [.int x, .int y, .int z]) ∧ 0 ≤ x ∧ 0 ≤ y ∧ y < 10000000000 ∧ 0 ≤ z ∧ z ≤ (j : Int)
theorem BoxAt.same {H H' : Hp} {b : Addr} {j : Nat} (B : BoxAt H b j) (e : Same H H') : BoxAt H' b j := by
  obtain ⟨x, y, z, h, r⟩ := B.ex
  exact ⟨x, y, z, e _ _ h, r⟩
theorem BoxAt.more {H : Hp} {b : Addr} {j k : Nat} (B : BoxAt H b j) (h : j ≤ k) : BoxAt H b k := by
  obtain ⟨x, y, z, e, h1, h2, h3, h4, h5⟩ := B.ex
  exact ⟨x, y, z, e, h1, h2, h3, h4, by omega⟩
theorem BoxAt.some {H : Hp} {b : Addr} {j : Nat} (B : BoxAt H b j) : ∃ xs, H b = some (.lst xs) := by
  obtain ⟨x, y, z, e, _⟩ := B.ex
  exact ⟨_, e⟩
/-- a TERM stands as the value v -/
inductive TmAt (H : Hp) : V → Tm → Prop where
  | v (n : Int) : TmAt H (.int n) (.v n)
  | z {a : Addr} (h : H a = some (.tup [.str "0"])) : TmAt H (.ref a) .z
  | s {a : Addr} {x : V} {t : Tm} (h : H a = some (.tup [.str "s", x])) (q : TmAt H x t) : TmAt H (.ref a) (.s t)
  | f {a : Addr} {x y : V} {l r : Tm} (h : H a = some (.tup [.str "f", x, y])) (q : TmAt H x l) (q' : TmAt H y r) : TmAt H (.ref a) (.f l r)
theorem TmAt.mono {H H' : Hp} (e : ∀ a xs, H a = some (.tup xs) → H' a = some (.tup xs)) {v : V} {t : Tm} (h : TmAt H v t) : TmAt H' v t := by
  induction h with
  | v n => exact .v n
  | z h => exact .z (e _ _ h)
  | s h _ ih => exact .s (e _ _ h) ih
  | f h _ _ ih ih' => exact .f (e _ _ h) ih ih'
theorem TmAt.same {H H' : Hp} (e : Same H H') {v : V} {t : Tm} (h : TmAt H v t) : TmAt H' v t := h.mono fun a xs q => e a _ q
theorem TmAt.but {H H' : Hp} {b : Addr} {ys : List V} (e : But b H H') (hb : H b = some (.lst ys)) {v : V} {t : Tm} (h : TmAt H v t) : TmAt H' v t :=
  h.mono fun a xs q => e a _ q (ne_of q hb (by intro z; cases z))
/-! ### what is alike, kind by kind (to a depth) -/
def Plain : V → Prop
  | .non => True
  | .bl _ => True
  | .int _ => True
  | .str _ => True
  | _ => False
def Alike (H : Hp) : Nat → V → V → Prop
  | 0, x, y => Plain x ∧ x = y
  | n + 1, x, y => (Plain x ∧ x = y) ∨ ∃ a b xs ys, x = .ref a ∧ y = .ref b ∧ ((H a = some (.lst xs) ∧ H b = some (.lst ys)) ∨ (H a = some (.tup xs) ∧ H b = some (.tup ys))) ∧
      xs.length = ys.length ∧ xs.length ≤ 1000000 ∧ ∀ (i : Nat) (u v : V), xs[i]? = some u → ys[i]? = some v → Alike H n u v
theorem Alike.mono {H H' : Hp} (e : Same H H') : ∀ (n : Nat) {x y : V}, Alike H n x y → Alike H' n x y
  | 0, _, _, h => by unfold Alike at h ⊢; exact h
  | n + 1, x, y, h => by
    unfold Alike at h ⊢
    rcases h with h | ⟨a, b, xs, ys, h1, h2, h3, h4, h5, h6⟩
    · exact .inl h
    · exact .inr ⟨a, b, xs, ys, h1, h2, h3.imp (fun q => ⟨e _ _ q.1, e _ _ q.2⟩) (fun q => ⟨e _ _ q.1, e _ _ q.2⟩), h4, h5, fun i u v p q => Alike.mono e n (h6 i u v p q)⟩
theorem alike_ints {H : Hp} {n : Nat} {a b : Addr} {ns : List Int} (ha : H a = some (.lst (ns.map V.int))) (hb : H b = some (.lst (ns.map V.int))) (hl : ns.length ≤ 1000000) : Alike H (n + 1) (.ref a) (.ref b) := by
  unfold Alike
  refine .inr ⟨a, b, _, _, rfl, rfl, .inl ⟨ha, hb⟩, rfl, by rw [List.length_map]; exact hl, fun i u v h1 h2 => ?_⟩
  have e : u = v := Option.some.inj (h1.symm.trans h2)
  subst e
  rw [List.getElem?_map] at h1
  cases q : ns[i]? with
  | none => rw [q] at h1; cases h1
  | some k =>
    rw [q] at h1
    cases h1
    cases n with
    | zero => unfold Alike; exact ⟨trivial, rfl⟩
    | succ n => unfold Alike; exact .inl ⟨trivial, rfl⟩
end Rp

/-! Defs whose body asks for the repr of lists and tuples: their promise is kept where no repr is at work (the around's guards are told to be none), and so where the law itself is called. -/
namespace Rp
open PySem PySem.Spec PyProof.Rows L2
structure GnOk (P : Program) (w : World) (K : PySem.W.Frag) (mg : Str → Option Value) (base : Heap) (k : Nat) (f : Addr) (fd : FuncData) (ps : List Str) (sp : Sp) : Prop where
  len : ∀ vs H Q E, sp vs H Q E → vs.length = ps.length
  run : ∀ (A : Around) (outer : List Env) (s : Shared) (H : Hp) (args : Args) (us : List Value) (vs : List V) (Q : VK) (E : XK), A.guards = some [] → Room k A → Env0 P w K mg base A outer s H → BindsTo s fd args (ps.zip us) → Vals vs us → sp vs H Q E →
    codeAny (model P w) A (.call (.ref f) args) (CR CX0 outer P w H s Q E) s
section
variable {P : Program} {w : World} {K : PySem.W.Frag} {mg : Str → Option Value} {base : Heap}
/-- a def by its body, the guards told -/
theorem gok {x qual : Str} {st : Stmt} {f : Addr} {fd : FuncData} {N ps : List Str} {k : Nat} {sp : Sp} (F : Fun K x qual st f fd) (S : FnScope N ps (defScope st)) (len : ∀ vs H Q E, sp vs H Q E → vs.length = ps.length)
    (walk : ∀ (cdv : Value) (A : Around) (outer : List Env) (s : Shared) (H : Hp) (vs : List V) (Q : VK) (E : XK), A.guards = some [] → Room k (A.deeper (envOfC qual (defScope st) s.heap.objs.size f cdv)) → sp vs H Q E →
      ∃ t, PSs (cxOf CX0 P w K mg base N qual (defScope st) f cdv A outer s H E).nox (defBody st) t ∧ t { nx := fun _ H' => Q .non H', rt := Q } (start N vs) H) : GnOk P w K mg base (k + 1) f fd ps sp := by
  obtain ⟨oc, od, kV, doc, pm, an, cdv, ct, osl, rfl, lk, hcd⟩ := F.ex
  refine ⟨len, fun A outer s H args us vs Q E hg hr e0 hb r hsp => ?_⟩
  have K0 : K.In s.heap := e0.mod.kin.keeps fun b o e => (e0.bs b o e).1
  have L0 : s.heap.NoLimit := e0.mod.nolimit.keeps fun b o e => (e0.bs b o e).1
  have each : ∀ y ∈ ps.zip us, (defScope st).names.lookup y.1 = some .local ∨ ((defScope st).names.lookup y.1 = some .cell ∧ ((cellsFrom (s.heap.objs.size + 1) (defScope st).names []).lookup y.1).isSome = true) := by
    rintro ⟨n, v⟩ hy
    exact (S.par n (List.of_mem_zip hy).1).imp id fun q => ⟨q, PySem.W.cellsFrom_some _ _ _ (.inl q)⟩
  refine codeAny_call_function hr.depth (K0 _ _ lk) rfl S.co S.gen rfl (PySem.W.codeRec_of K0 hcd) (hb _ _ _ _ (wpAny_newFunctionEnv_cells S.kind each fun env he s1 z => ?_))
  subst he
  refine ⟨L0.keeps z.toInCall.keep, codeAny_func ?_⟩
  obtain ⟨t, ht, hq⟩ := walk cdv A outer s H vs Q E hg (hr.deeper _) hsp
  have I : L2.Inv (cxOf CX0 P w K mg base N qual (defScope st) f cdv A outer s H E) [] (start N vs) H s1 := inv_start S hr.hd e0 (len _ _ _ _ hsp) r z
  refine wpAny_mono (ht.nox.run [] s1 (start N vs) H _ I hq) (fun fl s' hs => ?_) fun e s' hs => hs
  rcases fl with _ | _ | _ | u
  · obtain ⟨_, H', J, q⟩ := hs
    exact ⟨V.non, H', J.os, J.bare, J.base, J.hok, rfl, q⟩
  · exact hs.choose_spec.choose_spec.2.elim
  · exact hs.choose_spec.choose_spec.2.elim
  · obtain ⟨v, _, H', J, rv, q⟩ := hs
    exact ⟨v, H', J.os, J.bare, J.base, J.hok, rv, q⟩
end
section
variable {X : Cx} {k : Nat} {f : Addr} {fd : FuncData} {ps : List Str} {sp : Sp} {E : XK} {x : Str} {p pos : Pos} {e : Expr} {es : List Expr} {t : TA}
theorem pe_callG (F : GnOk X.prog X.w X.K X.mg X.base k f fd ps sp) (hgd : X.A.guards = some []) (hr : Room k X.A) (hg : Gl X x) (hm : X.mg x = some (.ref f)) (hk : PySem.W.keepIn X.K (.ref f) = true) (hb : Binds X.K fd ps []) (ha : PA X (e :: es) t)
    (hdb : (x == ("__debug__" : Str)) = false := by decide) (he : starEach (e :: es) X.env = (false, eval e X.env) :: starEach es X.env := by rfl) (hpl : (backTo pos (starEach es X.env)).any (·.1) = false := by rfl) :
    PE X (.Call (.Name x p) (e :: es) [] pos) (tCall sp [] E0 t) := by
  refine ⟨fun pins s σ H Q I h => wpAny_Call_Name_kw (ld_glob I hg hm ?_ hdb)⟩
  refine PySem.W.callWith_K (h₀ := X.base) I.ok.mod.kin hk (thn (ha.run pos pins s σ H _ I h) fun us s1 ⟨vs, H1, I1, r, q⟩ => ⟨I1.kIn, ?_⟩) he hpl
  have q : sp vs H1 Q E0 := by
    have z : sp (vs ++ []) H1 Q E0 := q
    rwa [List.append_nil] at z
  have hl : us.length = ps.length := r.length.symm.trans (F.len _ _ _ _ q)
  have hb' := hb s1 us I1.kIn (by rw [List.append_nil]; exact hl)
  rw [List.append_nil] at hb'
  refine wpAny_call (codeAny_mono (F.run X.A X.stack s1 H1 ⟨us, []⟩ us vs Q E0 hgd hr I1.env0 hb' r q) fun r' s' hq => ?_)
  rcases r' with e' | fl
  · exact hq.elim
  · rcases fl with _ | _ | _ | u
    · exact hq.elim
    · exact hq.elim
    · exact hq.elim
    · exact I1.after hq
/-- repr(v), v data at any depth -/
def rReprD (K : PySem.W.Frag) : List V → Hp → VK → Prop := fun vs H Q => ∃ (v : V) (d : PyData), vs = [v] ∧ Dp K H v d ∧ d.showable = true ∧ d.hasDict = false ∧ d.depth ≤ 64 ∧ d.shown.length ≤ sizeLine ∧ Q (.str d.shown) H
theorem cr_reprD (hgd : X.A.guards = some []) (hu : X.A.units + 66 < cLine) : CallR X (.builtin "repr") (rReprD X.K) := by
  intro pins s σ H vs us Q I r h
  obtain ⟨v, d, rfl, hd, sh, nd, dp, sz, q⟩ := h
  obtain ⟨u, rfl, ru⟩ := vals1 r
  obtain ⟨as, rd⟩ := Dp.reads I d v u hd ru
  cases hd with
  | non => cases ru; exact PySem.P.repr_of_none ⟨.str "None", H, I.tok _, ⟨_, rfl⟩, by simpa [PyData.shown] using q⟩
  | bl b => cases ru; exact PySem.P.repr_of_bool ⟨.str (if b then "True" else "False"), H, I.tok _, ⟨_, rfl⟩, by simpa [PyData.shown] using q⟩
  | int i =>
    obtain ⟨t, rfl⟩ := ru
    exact PySem.P.repr_of_int (by simpa [PyData.showable] using sh) ⟨.str (toString i), H, I.tok _, ⟨_, rfl⟩, by simpa [PyData.shown] using q⟩
  | str x =>
    obtain ⟨t, rfl⟩ := ru
    exact PySem.P.repr_of_str ⟨.str (reprText x), H, I.tok _, ⟨_, rfl⟩, by simpa [PyData.shown] using q⟩ (by simpa [PyData.shown] using sz)
  | lst a b =>
    cases ru
    exact PySem.repr_of_reads' rd sh (fun e => by rw [nd] at e; cases e) hgd (by omega) (fun _ _ e => e) (fun h' u tk k => ⟨.str _, H, I.kept (t' := tk) k, ⟨u, rfl⟩, q⟩) sz
  | tup a b =>
    cases ru
    exact PySem.repr_of_reads' rd sh (fun e => by rw [nd] at e; cases e) hgd (by omega) (fun _ _ e => e) (fun h' u tk k => ⟨.str _, H, I.kept (t' := tk) k, ⟨u, rfl⟩, q⟩) sz
end
/-- the law's own call, its promise with the guards told -/
theorem law_callG {P : Program} {w : World} {K : PySem.W.Frag} {mg mb : Str → Option Value} {k : Nat} {fa a : Addr} {fd : FuncData} {x : Str} {sp : Sp} {s₁ : Shared} {vs : List Value} {ns : List Int}
    (KX : K.In s₁.heap) (hns : s₁.heap.Ns mainGlobals mg) (hb : s₁.heap.Ns builtinsNs mb) (hbb : ∀ x : Str, x ≠ "__name__" → mb x = bootBuiltins x) (hlim : s₁.heap.NoLimit) (hg : s₁.gens = #[])
    (ha : s₁.heap.get? a = some { cls := .type "list", data := .seq vs.toArray }) (hi : IntsAre vs ns) (hl : ns.length ≤ sizeLine) (hr : Room k callerA)
    (F : ∀ base : Heap, K.In base → base.Ns mainGlobals mg → GnOk P w K mg base k fa fd [x] sp) (bind : ∀ (s : Shared) (u : Value), BindsTo s fd ⟨[u], []⟩ [(x, u)])
    (ask : ∀ H : Hp, Only H → SqL K H a (ns.map V.int) → sp [.ref a] H (fun v _ => v = .bl true) E0) :
    codeAny (model P w) callerA (.call (.ref fa) ⟨[.ref a], []⟩) (fun r s' => r = .ok (.ret (.bool true)) ∧ OldK s₁.heap s'.heap ∧ s'.os = s₁.os ∧ AllBare s'.gens) s₁ := by
  have rv := vals_ints hi
  have lenV := hi.length
  have from_ : ∀ H : Hp, Only H → SqL K H a (ns.map V.int) → HOk P w H s₁.heap → (∀ b, H b ≠ none → b = a ∧ K.lookup a = none) →
      codeAny (model P w) callerA (.call (.ref fa) ⟨[.ref a], []⟩) (fun r s' => r = .ok (.ret (.bool true)) ∧ OldK s₁.heap s'.heap ∧ s'.os = s₁.os ∧ AllBare s'.gens) s₁ := by
    intro H only hS hok hA
    have free : ∀ {b : Addr} {o : Obj}, s₁.heap.get? b = some o → (b = a → False) → H b = none := fun {b o} _ n => by
      cases q : H b with
      | none => rfl
      | some u => exact (n (hA b (by rw [q]; simp)).1).elim
    have low : ∀ {b : Addr} {o : Obj}, s₁.heap.get? b = some o → H b = none → (hidT s₁.heap H).get? b = some o := fun e n => hidT_get e n
    have names : ∀ {b : Addr} {m : Str → Option Value}, s₁.heap.Ns b m → (hidT s₁.heap H).Ns b m := fun {b m} ⟨o, es, ep, e, d, r⟩ =>
      ⟨o, es, ep, low e (free e fun z => by subst z; rw [ha] at e; cases e; cases d), d, r⟩
    have hK : K.In (hidT s₁.heap H) := fun b o e => low (KX b o e) (by
      cases q : H b with
      | none => rfl
      | some u =>
        obtain ⟨z, zk⟩ := hA b (by rw [q]; simp)
        subst z
        rw [zk] at e; cases e)
    have M : Mod K mg (hidT s₁.heap H) := ⟨hK, names hns, ⟨mb, names hb, hbb⟩, let ⟨mc, h1, h2⟩ := hlim; ⟨mc, names h1, h2⟩⟩
    have e0 : Env0 P w K mg (hidT s₁.heap H) callerA [] s₁ H := ⟨rfl, M, fun b o e => of_hidT e, Nat.le_of_eq (hidT_size _ _), trivial, fun b z => absurd (show b ∈ ([] : List Addr) from z) (by simp), hok, .of_eq hg⟩
    refine codeAny_mono ((F _ hK (names hns)).run callerA [] s₁ H ⟨[.ref a], []⟩ [.ref a] [.ref a] _ _ rfl hr e0 (bind s₁ (.ref a)) (.cons rfl .nil) (ask H only hS)) fun r s' h => ?_
    rcases r with e | fl
    · exact h.elim
    · rcases fl with _ | _ | _ | u
      · exact h.elim
      · exact h.elim
      · exact h.elim
      · obtain ⟨v, H', os, bare, un, hok', r', q⟩ := h
        obtain rfl : v = .bl true := q
        obtain rfl : u = Value.bool true := r'
        refine ⟨rfl, OldK.of_keep fun b o e => ?_, os, bare⟩
        cases q : H b with
        | none => exact un.keep b o e q (by intro z; exact absurd (show b ∈ ([] : List Addr) from z) (by simp)) (by simp)
        | some u =>
          rcases only b with z | ⟨ob, xs, z⟩
          · rw [q] at z; cases z
          · obtain ⟨e1, _⟩ := hok b _ z
            obtain ⟨e2, _⟩ := hok' b _ (un.frzs b ob _ z)
            rw [e] at e1; cases e1
            exact e2
  cases hk : K.lookup a with
  | some o =>
    have e := KX a o hk
    rw [ha] at e
    cases e
    exact from_ (fun _ => none) (fun _ => .inl rfl) (.inr ⟨_, vs.toArray, _, hk, rfl, rfl, rfl, by rw [List.size_toArray, lenV]; exact hl, by simpa using rv⟩) (fun b u z => nomatch (show (none : Option HO) = some u from z)) fun b z => absurd rfl z
  | none =>
    have at_ : ∀ b, (fun b => if b = a then some (HO.frz { cls := .type "list", data := .seq vs.toArray } (.lst (ns.map V.int))) else none) b ≠ none → b = a := fun b z => by
      by_cases hb : b = a
      · exact hb
      · exact absurd (if_neg hb) z
    refine from_ _ (fun b => ?_) (.inl (.inr ⟨_, if_pos rfl⟩)) (fun b u z => ?_) fun b z => ⟨at_ b z, hk⟩
    · by_cases hb : b = a
      · exact .inr ⟨_, _, if_pos hb⟩
      · exact .inl (if_neg hb)
    · have hb := at_ b (fun e => by have y := z.symm.trans e; cases y)
      subst hb
      have z' := (if_pos rfl).symm.trans z
      cases z'
      exact ⟨ha, by rw [List.length_map]; exact hl, vs, _, rv, ha⟩
theorem walk_ofG {l : PySem.W.OpenLaw} {n k : Nat} {q : Program} {loose : List Str} {XP : (Str → Option Value) → Heap → Prop} {YP : World → Heap → Prop} {d : DefRec} {K : Params → PySem.W.Frag} {sp : PySem.W.Frag → Sp} {x : Str}
    (hn : l.most = some n) (hn2 : n ≤ sizeLine) (hdf : d.params.defaults = []) (hr : Room k callerA) (hY : ∀ (w : World) (h : Heap), YP w h → (K w.params).In h)
    (F : ∀ (w : World) (mg : Str → Option Value) (fa : Addr) (h : Heap), (K w.params).In h → h.Ns mainGlobals mg → mg d.name = some (.ref fa) →
      ∃ fd : FuncData, (∀ (s : Shared) (u : Value), BindsTo s fd ⟨[u], []⟩ [(x, u)]) ∧ ∀ base : Heap, (K w.params).In base → base.Ns mainGlobals mg → GnOk l.prog w (K w.params) mg base k fa fd [x] (sp (K w.params)))
    (ask : ∀ (K : PySem.W.Frag) (H : Hp) (a : Addr) (ns : List Int), ns.length ≤ n → Only H → SqL K H a (ns.map V.int) → sp K [.ref a] H (fun v _ => v = .bl true) E0) :
    PySem.W.WalkO q loose XP YP l.row.toRowW d [] (fun f vs => PySem.call f vs) := by
  refine Att.attach_call hn hdf fun w s₀ s₁ mg mb fa o pm cd doc a vs ns G Y ho hd hcd hmg hobj hints hlen hg => ?_
  obtain ⟨fd, hb, hF⟩ := F w mg fa _ (hY w _ Y) G.T.g hmg
  exact law_callG (hY w _ Y) G.T.g G.T.b G.T.builtins G.T.nolimit hg hobj hints (Nat.le_trans hlen hn2) hr hF hb fun H hO hS => ask _ H a ns hlen hO hS
end Rp

/-! sorted(xs), sorted(d): tuples of d ints each in [0, B), however many. -/
namespace Rp
open PySem PySem.Spec PyProof.Rows L2
section
variable {prog : Program} {w : World} {A : Around} {E : Value → Shared → Prop} {s : Shared}
theorem swo_rank (r : Value → Int) : SrtO.Swo (fun v u => decide (r v < r u)) :=
  ⟨fun x y h => by have h := of_decide_eq_true h; exact decide_eq_false (by omega), fun x y z h1 h2 => by
    have h1 := of_decide_eq_false h1
    have h2 := of_decide_eq_false h2
    exact decide_eq_false (by omega)⟩
theorem tups_same {h : Heap} {v : Value} {ns ms : List Int} (x : TS.TupInts h v ns) (y : TS.TupInts h v ms) : ns = ms := x.ints.symm.trans y.ints
theorem tups_sortable {a : Addr} {vs : List Value} {d : Nat} {B : Int} (r : Value → Int) (hd : 1 ≤ d) (two : 2 ≤ vs.length) (x : TS.TupsOk s.heap d B vs) (hr : ∀ v ∈ vs, ∀ ns, TS.TupInts s.heap v ns → r v = TS.code B ns)
    (ha : ∀ o, s.heap.get? a = some o → o.cls ≠ .type "tuple") : SrtO.SortableO prog w A s a vs (fun v u => decide (r v < r u)) := by
  intro g keep
  have kp : ∀ b o, s.heap.get? b = some o → o.cls = .type "tuple" → g.get? b = some o := fun b o e c => keep b o (fun z => by subst z; exact ha o e c) e
  have x' : TS.TupsOk g d B vs := x.keeps kp
  have hr' : ∀ v ∈ vs, ∀ ns, TS.TupInts g v ns → r v = TS.code B ns := fun v hv ns t => by
    obtain ⟨ms, t0, _⟩ := x v hv
    rw [tups_same t (t0.keeps kp)]
    exact hr v hv ms t0
  refine ⟨tuples' true, fun Q E' hq => ?_, fun p q hp hq => ?_⟩
  · obtain ⟨fs, k, hl, hi⟩ := TS.firsts_of hd vs x'
    refine PySem.W.kat_kind (s := { s with heap := g }) (T := .type "int") k (by omega) (fun f hf => ?_) (by rfl) hq
    obtain ⟨n, t, rfl⟩ := hi f hf
    exact PySem.W.Looks.now
  · obtain ⟨ns, tp, lp, bp⟩ := x' _ hp
    obtain ⟨ms, tq, lq, bq⟩ := x' _ hq
    have e1 := hr' _ hp _ tp
    have e2 := hr' _ hq _ tq
    obtain ⟨a1, xs, f1, ⟨o1, g1, c1, n1, d1⟩, i1⟩ := tp
    obtain ⟨a2, ys, f2, ⟨o2, g2, c2, n2, d2⟩, i2⟩ := tq
    show wpAny (model prog w) A (keyLt' (tuples' true) p.1 q.1) (fun b s' => s' = { s with heap := g } ∧ b = decide (r p.1 < r q.1)) (fun _ _ => False) { s with heap := g }
    rw [e1, e2, f1, f2]
    refine PySem.W.kat_lt (s := { s with heap := g }) g1 d1 g2 d2 ?_
    have sz : decide (xs.size < ys.size) = false := by
      have l1 := i1.length
      have l2 := i2.length
      rw [Array.length_toList] at l1 l2
      exact decide_eq_false (by omega)
    rw [sz]
    exact TS.lex_ints 0 i1 i2 (by omega) bp bq ⟨rfl, rfl⟩
end
/-- sorted(xs), xs a list of tuples -/
def rSortTL (K : PySem.W.Frag) (d : Nat) (B : Int) : List V → Hp → VK → Prop := fun vs H Q => ∃ (a : Addr) (xs : List V), vs = [V.ref a] ∧ SqL K H a xs ∧ (∀ x ∈ xs, ∃ ns, TupI K H x ns ∧ ns.length = d ∧ TS.Bd B ns) ∧
  ∀ (ys : List V) (p : Addr), ys.Perm xs → ys.Pairwise (fun x y => ∀ n m, TupI K H x n → TupI K H y m → TS.code B n ≤ TS.code B m) → H p = none → Q (.ref p) (upd H p (.lst ys))
section
variable {X : Cx}
theorem ordered {H : Hp} {s : Shared} {pins : List (Addr × Obj)} {σ : L2.St} (I : Inv X pins σ H s) {B : Int} {out : List Value} (h : SrtO.Srtd (fun v u => decide (TS.code B (TS.intsOf s.heap v) < TS.code B (TS.intsOf s.heap u))) out) :
    (out.map bkV).Pairwise (fun x y => ∀ n m, TupI X.K H x n → TupI X.K H y m → TS.code B n ≤ TS.code B m) := by
  rw [List.pairwise_map]
  refine List.Pairwise.imp (fun {u v} huv n m hn hm => ?_) h
  have huv := of_decide_eq_false huv
  obtain ⟨t1, f1, k1⟩ := hn
  obtain ⟨t2, f2, k2⟩ := hm
  rw [bkV_ref f1, bkV_ref f2] at huv
  rw [(tupI_raw I k1).ints, (tupI_raw I k2).ints] at huv
  omega
theorem cr_sortTL {d : Nat} {B : Int} (hd : 1 ≤ d) : CallR X (.builtin "sorted") (rSortTL X.K d B) := by
  intro pins s σ H vs us Q I r told
  obtain ⟨a, xs, rfl, ha, all, go⟩ := told
  obtain ⟨its, rv, hl, hz⟩ := I.list ha
  rw [Vals.ref1 r]
  obtain ⟨same, refs⟩ := bkV_refs rv fun x m => let ⟨_, ⟨t, e, _⟩, _⟩ := all x m; ⟨t, e⟩
  have ok : TS.TupsOk s.heap d B its := fun v hv => by
    obtain ⟨t, rfl⟩ := refs v hv
    obtain ⟨ns, ⟨t', e, ht⟩, hn, hb⟩ := all (V.ref t) (by rw [same]; exact List.mem_map.mpr ⟨_, hv, rfl⟩)
    cases e
    exact ⟨ns, tupI_raw I ht, hn, hb⟩
  refine SrtO.sorted_ord (swo_rank fun v => TS.code B (TS.intsOf s.heap v)) hl.isList (by rw [← rv.length]; exact hz) (fun h2 g a' ga keep => ?_) fun out h1 h2 => ?_
  · have kp : ∀ b o, s.heap.get? b = some o → o.cls = .type "tuple" → g.get? b = some o := fun b o e _ => (keep b o e).2
    refine tups_sortable (s := { s with heap := g }) _ hd h2 (ok.keeps kp) (fun v hv ns t => ?_) fun o e c => ?_
    · obtain ⟨ms, t0, _⟩ := ok v hv
      show TS.code B (TS.intsOf s.heap v) = _
      rw [t0.ints, tups_same t (t0.keeps kp)]
    · obtain rfl : o = seqObj "list" its.toArray 0 := Option.some.inj (e.symm.trans ga)
      exact absurd (Value.type.inj c) (by decide)
  · obtain ⟨ep, there⟩ := PyProof.Rows.sortedAll_at s.heap its out.toArray
    have back : ∀ u ∈ out, ∃ a, u = Value.ref a := fun u hu => refs u (h2.perm.mem_iff.mp hu)
    have pm : (out.map bkV).Perm xs := by rw [same]; exact h2.perm.map bkV
    have fits : (out.map bkV).length ≤ sizeLine := by rw [pm.length_eq]; exact hz
    exact ⟨.ref _, upd H (s.heap.objs.size + 1) (.lst (out.map bkV)), I.laid (t' := s.toks) (fun _ _ => PyProof.Rows.sortedAll_old) (Nat.le_succ _) ⟨fits, out, ep, bkV_vals back, there⟩, rfl, go _ _ pm (ordered I h1) (I.hok.fresh (Nat.le_succ _))⟩
/-- sorted(d), d a dict whose keys are such tuples -/
def rSortTD (d : Nat) (B : Int) : List V → Hp → VK → Prop := fun vs H Q => ∃ (a : Addr) (kvs : List (List L2.Key × V)) (ks : List (List Int)), vs = [V.ref a] ∧ H a = some (.dT kvs) ∧ kvs.map (·.1) = ks.map (List.map Sum.inl) ∧ (∀ k ∈ ks, k.length = d ∧ TS.Bd B k) ∧
  ∀ (ys : List (Addr × List Int)) (p : Addr), (ys.map (·.2)).Perm ks → ys.Pairwise (fun x y => TS.code B x.2 ≤ TS.code B y.2) → (∀ y ∈ ys, H y.1 = some (.tup (y.2.map V.int))) → H p = none → Q (.ref p) (upd H p (.lst (ys.map fun y => V.ref y.1)))
theorem keyed {H : Hp} : ∀ {kvs : List (List L2.Key × V)} {xs : List (List L2.Key × Addr × Value)} {ks : List (List Int)}, KT H kvs xs → kvs.map (·.1) = ks.map (List.map Sum.inl) →
    ∃ zs : List (Addr × List Int), zs.map (·.2) = ks ∧ zs.map (·.1) = xs.map (·.2.1) ∧ ∀ z ∈ zs, H z.1 = some (.tup (z.2.map V.int))
  | [], [], [], _, _ => ⟨[], rfl, rfl, fun _ h => nomatch h⟩
  | kv :: kvs, x :: xs, k :: ks, .cons h t, e => by
    rw [List.map_cons, List.map_cons] at e
    obtain ⟨e1, e2⟩ := List.cons.inj e
    obtain ⟨zs, h1, h2, h3⟩ := keyed t e2
    refine ⟨(x.2.1, k) :: zs, by simp [h1], by simp [h2], fun z hz => ?_⟩
    rcases List.mem_cons.mp hz with rfl | hz
    · have q := h.2.1
      rw [e1, List.map_map] at q
      exact q
    · exact h3 z hz
  | kv :: kvs, x :: xs, [], .cons h t, e => nomatch e
theorem cr_sortTD (calm : X.calm = true) {d : Nat} {B : Int} (hd : 1 ≤ d) : CallR X (.builtin "sorted") (rSortTD d B) := by
  intro pins s σ H vs us Q I r told
  obtain ⟨a, kvs, ks, rfl, ha, keys, all, go⟩ := told
  rw [Vals.ref1 r]
  obtain ⟨z, lo, xs, rel, o, es, ep, ho, hx, hdt, he, hn⟩ := (show ObjOk X.prog X.w H s.heap a (.dT kvs) from I.hok a _ ha)
  have l1 : es.size = xs.length := size_of_entries he
  have l2 : kvs.length = xs.length := Paired.length rel
  obtain ⟨zs, z1, z2, z3⟩ := keyed rel keys
  have l3 : zs.length = xs.length := by have q := congrArg List.length z2; rwa [List.length_map, List.length_map] at q
  refine Calls.call_function_entry PyProof.Rows.kind_sorted PyProof.Rows.plain_sorted PyProof.Rows.entry_sorted (PyProof.Rows.args_sorted1 _) ?_; unfold Builtin.«sorted»
  refine wpAny_bind (m := checkCount "sorted" 1 1 _) (wpAny_pure (wpAny_bind (PySem.W.kdu_collect (A := X.A.in1) (kdl_raw lo hx hdt) (I.ok.hd calm) ho (by omega) fun g tk acc old got => ?_)))
  have vsAre : acc.toList = zs.map fun y => Value.ref y.1 := by
    have len : acc.toList.length = zs.length := by rw [Array.length_toList, got.1, l1, l3]
    refine List.ext_getElem? fun j => ?_
    cases hj : acc.toList[j]? with
    | none => rw [List.getElem?_eq_none (by rw [List.length_map, ← len]; exact List.getElem?_eq_none_iff.mp hj)]
    | some v =>
      obtain ⟨en, hen, hv⟩ := got.2 j v (by rw [← Array.getElem?_toList]; exact hj)
      have q := entry_at he j
      rw [hen] at q
      have lj : j < zs.length := by rw [← len]; exact (List.getElem?_eq_some_iff.mp hj).1
      have lx : j < xs.length := by rw [← l3]; exact lj
      rw [List.getElem?_eq_getElem lx] at q
      have e2 : en = _ := Option.some.inj q
      have w1 : (zs.map (·.1))[j]? = (xs.map (·.2.1))[j]? := by rw [z2]
      rw [List.getElem?_map, List.getElem?_map, List.getElem?_eq_getElem lj, List.getElem?_eq_getElem lx] at w1
      have w2 : zs[j].1 = xs[j].2.1 := Option.some.inj w1
      rw [List.getElem?_map, List.getElem?_eq_getElem lj, hv, e2]
      show some (Value.ref xs[j].2.1) = some (Value.ref zs[j].1)
      rw [w2]
  have J : Inv X pins σ H { s with heap := g, toks := tk } := I.kept old
  have ok : TS.TupsOk g d B acc.toList := fun v hv => by
    rw [vsAre] at hv
    obtain ⟨y, hy, rfl⟩ := List.mem_map.mp hv
    obtain ⟨h1, h2⟩ := all y.2 (by rw [← z1]; exact List.mem_map.mpr ⟨y, hy, rfl⟩)
    exact ⟨y.2, tupI_raw (s := { s with heap := g, toks := tk }) J (.inl (.inl (z3 y hy))), h1, h2⟩
  have fit : acc.toList.length ≤ sizeLine := by rw [Array.length_toList, got.1]; omega
  refine wpAny_bind (wpAny_newList ?_ fit)
  have made : (g.push (seqObj "list" acc.toList.toArray 0)).get? g.objs.size = some (seqObj "list" acc.toList.toArray 0) := Heap.get?_push_size _ rfl
  have kp : ∀ b o, g.get? b = some o → o.cls = .type "tuple" → (g.push (seqObj "list" acc.toList.toArray 0)).get? b = some o := fun b o e _ => Heap.get?_push_of_some _ e
  show wpAny _ _ _ _ _ { s with heap := g.push (seqObj "list" acc.toList.toArray 0), toks := tk }
  refine wpAny_bind (wpAny_holding (wpAny_call_entry PyProof.Rows.slot_list_sort ⟨_, made, rfl⟩ PyProof.Rows.entry_list_sort
    (SrtO.list_sort_ord (s := { s with heap := g.push (seqObj "list" acc.toList.toArray 0), toks := tk }) (swo_rank fun v => TS.code B (TS.intsOf g v)) made fit
      (fun h2 => tups_sortable (s := { s with heap := g.push (seqObj "list" acc.toList.toArray 0), toks := tk }) _ hd h2 (ok.keeps kp) (fun v hv ns t => by
        obtain ⟨ms, t0, _⟩ := ok v hv
        show TS.code B (TS.intsOf g v) = _
        rw [t0.ints, tups_same t (t0.keeps kp)]) fun o e c => by
          obtain rfl : o = seqObj "list" acc.toList.toArray 0 := Option.some.inj (e.symm.trans made)
          exact absurd (Value.type.inj c) (by decide)) fun out o1 o2 => ⟨_, rfl, ?_⟩) (PyProof.Rows.args_list_sort _)))
  obtain ⟨ep', there⟩ := PyProof.Rows.sortedHeap_at (vs := acc.toList) (out := out.toArray) made
  have back : ∀ u ∈ out, ∃ y ∈ zs, u = Value.ref y.1 := fun u hu => by
    have q := o2.perm.mem_iff.mp hu
    rw [vsAre] at q
    obtain ⟨y, hy, e⟩ := List.mem_map.mp q
    exact ⟨y, hy, e.symm⟩
  let ys : List (Addr × List Int) := out.map fun u => (match u with | .ref a => a | _ => 0, TS.intsOf g u)
  have intsZ : ∀ y ∈ zs, TS.intsOf g (.ref y.1) = y.2 := fun y hy => (tupI_raw (s := { s with heap := g, toks := tk }) J (.inl (.inl (z3 y hy)))).ints
  have y1 : ys.map (fun y => V.ref y.1) = out.map bkV := by
    show (out.map _).map _ = _
    rw [List.map_map]
    refine List.map_congr_left fun u hu => ?_
    obtain ⟨y, _, rfl⟩ := back u hu
    rfl
  have y2 : (ys.map (·.2)).Perm ks := by
    have q := o2.perm.map (TS.intsOf g)
    rw [vsAre, List.map_map] at q
    have e : zs.map (TS.intsOf g ∘ fun y => Value.ref y.1) = ks := by
      rw [← z1]
      exact List.map_congr_left fun y hy => intsZ y hy
    rw [e] at q
    show ((out.map _).map _).Perm _
    rw [List.map_map]
    exact q
  have y3 : ys.Pairwise (fun x y => TS.code B x.2 ≤ TS.code B y.2) := by
    show (out.map _).Pairwise _
    rw [List.pairwise_map]
    exact List.Pairwise.imp (fun {u v} h => by have h := of_decide_eq_false h; show TS.code B (TS.intsOf g u) ≤ TS.code B (TS.intsOf g v); omega) o1
  have y4 : ∀ y ∈ ys, H y.1 = some (.tup (y.2.map V.int)) := fun y hy => by
    obtain ⟨u, hu, rfl⟩ := List.mem_map.mp hy
    obtain ⟨z, hz, rfl⟩ := back u hu
    show H z.1 = some (.tup ((TS.intsOf g (.ref z.1)).map V.int))
    rw [intsZ z hz]
    exact z3 z hz
  have fits : (ys.map fun y => V.ref y.1).length ≤ sizeLine := by rw [y1, List.length_map, o2.perm.length_eq]; exact fit
  have vals : Vals (ys.map fun y => V.ref y.1) out := by rw [y1]; exact bkV_vals fun u hu => let ⟨y, _, e⟩ := back u hu; ⟨y.1, e⟩
  refine wpAny_pure ⟨_, rfl, .ref g.objs.size, upd H g.objs.size (.lst (ys.map fun y => V.ref y.1)), J.laid (t' := tk) (fun b u e => ?_) (Nat.le_refl _) ⟨fits, out, ep', vals, there⟩, rfl, go ys _ y2 y3 y4 (J.hok.fresh (Nat.le_refl _))⟩
  have lt := Heap.lt_size e
  rw [PyProof.Rows.sortedHeap_old (Nat.ne_of_lt lt) (by rw [size_push']; exact Nat.lt_succ_of_lt lt)]
  exact Heap.get?_push_of_some _ e
end
end Rp

/-! Dicts whose keys are tuples: a comprehension that makes one, its items walked; a walk over a list or a tuple. -/
namespace Rp
open PySem PySem.Spec PyProof.Rows L2
section
variable {X : Cx}
/-- what {(..): v for .. if ..} asks where all keys are tuples -/
def tDcT (wi : TI) (g : TG) (tt : TT) (tk tv : TE) (vs : List Nat) : TE := fun σ H Q => wi σ H fun J H1 => ∀ D, H1 D = none →
  ∃ W : Nat → Nat → Hp → Prop, (∃ m, W 0 m (upd H1 D (.dT []))) ∧ ∀ i m H, W i m H → (J.stop i H ∧ Q (.ref D) H) ∨
    (J.go i H ∧ ∃ Nx : Hp → Prop, (∀ H', Nx H' → ∃ m', m' < m ∧ W (i + 1) m' H') ∧ ∀ x H', J.yld i H x H' → g x (wipe σ vs) H' fun σ2 H2 => wipe σ2 vs = wipe σ vs ∧
      tt σ2 H2 fun b H3 => if b = true then tk σ2 H3 fun y H4 => tv σ2 H4 fun z H5 => ∃ (t : Addr) (k : List L2.Key) (kvs : List (List L2.Key × V)), y = .ref t ∧ H5 t = some (.tup (k.map kV)) ∧ H5 D = some (.dT kvs) ∧ kvs.length < sizeLine ∧
        Nx (upd H5 D (.dT (putK kvs k z))) else Nx H3)
theorem putT {pins : List (Addr × Obj)} {σ : L2.St} {H : Hp} {s : Shared} {E : Value → Shared → Prop} {D t : Addr} {k : List L2.Key} {kvs : List (List L2.Key × V)} {z : V} {u r : Value} {Q : Unit → Shared → Prop}
    (I : Inv X pins σ H s) (hu : X.A.units + 1 < cLine) (ht : H t = some (.tup (k.map kV))) (hD : H D = some (.dT kvs)) (few : kvs.length < sizeLine) (ru : RelV (.ref t) u) (rr : RelV z r)
    (go : ∀ s', Inv X pins σ (upd H D (.dT (putK kvs k z))) s' → Q () s') : wpAny (model X.prog X.w) X.A (dictSet D u r) Q E s := by
  obtain rfl : u = Value.ref t := ru
  obtain ⟨z1, lo, xs, rel, dd⟩ := dt_of I.hok hD
  have room : xs.length ≤ sizeLine := by rw [← Paired.length rel]; exact z1
  refine wpAny_dictSet_heap (hsz := room) (show X.A.units < cLine by omega) (key_of I.hok ht) dd fun g now only => go _ ?_
  obtain ⟨o, es, ep, e1, e2, e3, e4, _, e6⟩ := now
  refine d_write I (by rw [hD]; trivial) only ⟨o, e1⟩ ⟨?_, lo, _, KT.keeps (rel.put k ht rr) fun c ys ec => ?_, o, es, ep, e1, e2, e3, e4, e6⟩
  · have := length_putK kvs k z; omega
  · rw [upd_ne (ne_of ec hD (by intro z; cases z))]
    exact ec
theorem dcT_core {pins : List (Addr × Obj)} {s : Shared} {σ : L2.St} {H : Hp} {Q : VK} {kx vx tg iter : Expr} {ifs : List Expr} {scope : Scope} {own : List (PySem.Str × Nat)} {pos pos' : Pos} {wi : TI} {g : TG} {tt : TT} {tk tv : TE} {use : Option (Value → Sem Unit)} {Qf : Value → Shared → Prop}
    (hc : X.calm = true) (hu : X.A.units + 1 < cLine) (hN : X.N.Nodup) (I : Inv X pins σ H s) (hi : PI X tg iter wi) (ok : BlkOk X.N X.env.scope scope own)
    (hg : ∀ (s : Shared) (H : Hp) (C : Addr) (cl : List (PySem.Str × Addr)) (fp : List Addr), PG (X.blk s H scope (compEnvC scope cl C X.env) fp) tg g)
    (ht : ∀ (s : Shared) (H : Hp) (C : Addr) (cl : List (PySem.Str × Addr)) (fp : List Addr), PTs (X.blk s H scope (compEnvC scope cl C X.env) fp) ifs tt)
    (hk : ∀ (s : Shared) (H : Hp) (C : Addr) (cl : List (PySem.Str × Addr)) (fp : List Addr), PE (X.blk s H scope (compEnvC scope cl C X.env) fp) kx tk)
    (hv : ∀ (s : Shared) (H : Hp) (C : Addr) (cl : List (PySem.Str × Addr)) (fp : List Addr), PE (X.blk s H scope (compEnvC scope cl C X.env) fp) vx tv)
    (hs : ∀ x, foldedSetIterable iter X.env x = pure x) (h : tDcT wi g tt tk tv (own.map (·.2)) σ H Q)
    (last : ∀ D C s' m H', Inv X pins σ H' s' → Q (.ref D) H' → s'.heap.Ns C m → FpOk X pins H' C → compPost (model X.prog X.w) X.A X.xe use Qf (.ref D) C (.ok .next) s') :
    wpAny (model X.prog X.w) X.A (comprehension (.DictComp kx vx [⟨tg, iter, ifs, 0⟩] scope pos) scope X.env pos' newDict false (eval iter X.env) use) Qf X.xe s := by
  have caught : ∀ y ∈ scope.names, y.2 = .free → ∃ c, X.env.cells.lookup y.1 = some c := fun y hy e =>
    (ok.free y hy e).elim (fun k => I.ok.has _ (.inl k)) fun k => I.ok.has _ (.inr k)
  refine wpAny_comprehension_free (use := use) rfl hs (closure_ok caught) ok.kind (fun y hy e => (ok.uniq y hy).trans (by rw [e])) (thn (hi.run pins s σ H _ I h) fun xv s1 hx => thn hx fun itv s2 h2 => ?_)
  obtain ⟨it, fp, tn, J, H2, rfl, I2, T, st2, f2, q⟩ := h2
  refine wpAny_newObj_type (newEnv_comp ?_)
  -- the new dict's place
  obtain ⟨D, hD⟩ : ∃ D, s2.heap.objs.size = D := ⟨_, rfl⟩
  rw [hD]
  obtain ⟨W, ⟨m0, w0⟩, turn⟩ := q D (I2.hok.fresh (Nat.le_of_eq hD))
  obtain ⟨s3, hs3⟩ : ∃ s3 : Shared, { s2 with heap := s2.heap.push { cls := .type "dict", data := .dict #[] } } = s3 := ⟨_, rfl⟩
  have h3 : s3.heap = s2.heap.push { cls := .type "dict", data := .dict #[] } := by rw [← hs3]
  have I3 : Inv X pins σ (upd H2 D (.dT [])) s3 := by
    have z := I2.laid (a := D) (o := .dT []) (t' := s2.toks) (h' := s2.heap.push { cls := .type "dict", data := .dict #[] }) (fun b o e => Heap.get?_push_of_some _ e) (Nat.le_of_eq hD) (by rw [← hD]; exact dt_empty s2.heap I2.big)
    exact hs3 ▸ z
  have low : ∀ b ∈ fp, b < s2.heap.objs.size := fun b hb => let ⟨o, e, _⟩ := T.obj _ _ st2 b hb; Heap.lt_size e
  have f3 : ∀ b ∈ fp, FpOk X pins (upd H2 D (.dT [])) b ∧ b < s3.heap.objs.size := fun b hb =>
    ⟨⟨(upd_ne (by rw [← hD]; exact Nat.ne_of_lt (low b hb))).trans (f2 b hb).1, (f2 b hb).2⟩, by rw [h3, Heap.size_push]; exact Nat.lt_succ_of_lt (low b hb)⟩
  have st3 : tn 0 s3.heap := T.keep _ _ _ st2 fun b _ o e => h3 ▸ Heap.get?_push_of_some _ e
  have I4 := block_start I3 ok hN f3
  obtain ⟨H3, hH3⟩ : ∃ H3, upd H2 D (.dT []) = H3 := ⟨_, rfl⟩
  rw [hH3] at I3 f3 I4 w0
  obtain ⟨C, hC⟩ : ∃ C, s3.heap.objs.size = C := ⟨_, rfl⟩
  rw [hC] at I4
  have pg := hg s3 H3 C (cellsFrom (C + 1) scope.names (cloFrom X.env.cells scope.names [])) fp
  have pt := ht s3 H3 C (cellsFrom (C + 1) scope.names (cloFrom X.env.cells scope.names [])) fp
  have pk := hk s3 H3 C (cellsFrom (C + 1) scope.names (cloFrom X.env.cells scope.names [])) fp
  have pw := hv s3 H3 C (cellsFrom (C + 1) scope.names (cloFrom X.env.cells scope.names [])) fp
  subst hs3
  have hC' : (s2.heap.push { cls := .type "dict", data := .dict #[] }).objs.size = C := hC
  show codeAny _ _ (.compStart (.DictComp kx vx [⟨tg, iter, ifs, 0⟩] scope pos) 0 (.ref it) (.ref D) (compEnvC scope (cellsFrom ((s2.heap.push { cls := .type "dict", data := .dict #[] }).objs.size + 1) scope.names (cloFrom X.env.cells scope.names [])) (s2.heap.push { cls := .type "dict", data := .dict #[] }).objs.size X.env))
    (compPost (model X.prog X.w) X.A X.xe use Qf (.ref D) (s2.heap.push { cls := .type "dict", data := .dict #[] }).objs.size) { s2 with heap := pushCells ((s2.heap.push { cls := .type "dict", data := .dict #[] }).push { cls := .type "dict", data := .dict #[] }) scope.names }
  rw [hC']
  obtain ⟨ce, hce⟩ : ∃ ce, compEnvC scope (cellsFrom (C + 1) scope.names (cloFrom X.env.cells scope.names [])) C X.env = ce := ⟨_, rfl⟩
  rw [hce] at I4 pg pt pk pw ⊢
  have cL : ce.locals = C := by subst hce; rfl
  obtain ⟨s4, hs4⟩ : ∃ s4 : Shared, { s2 with heap := pushCells ((s2.heap.push { cls := .type "dict", data := .dict #[] }).push { cls := .type "dict", data := .dict #[] }) scope.names } = s4 := ⟨_, rfl⟩
  have I4 : Inv (X.blk _ H3 scope ce fp) [] (wipe σ (own.map (·.2))) H3 s4 := hs4 ▸ I4
  rw [hs4]
  have st4 : tn 0 s4.heap := T.keep _ _ _ st3 fun b _ o e => by rw [← hs4]; exact pushCells_keeps _ _ _ _ (Heap.get?_push_of_some _ e)
  obtain ⟨Y, hY⟩ : ∃ Y, X.blk { s2 with heap := s2.heap.push { cls := .type "dict", data := .dict #[] } } H3 scope ce fp = Y := ⟨_, rfl⟩
  have rest : ∀ {σ' : L2.St} {H' : Hp} {s' : Shared}, Inv Y [] σ' H' s' → (∀ b ∈ fp, H' b = none) → ∀ b ∈ fp, FpOk Y [] H' b := by
    subst hY
    intro σ' H' s' I' hn b hb
    exact ⟨hn b hb, (I'.ok.exf b hb).1, I'.ok.exfs b hb, .inl hb, fun x c e => (I'.ok.exf b hb).2 x c e, fun p hp => absurd (show p ∈ ([] : List (Addr × Obj)) ++ [] from hp) (by simp)⟩
  have round : codeAny (model X.prog X.w) X.A (.compLoop (.DictComp kx vx [⟨tg, iter, ifs, 0⟩] scope pos) 0 (.ref it) (.ref D) ce) (compPost (model X.prog X.w) X.A X.xe use Qf (.ref D) C) s4 := by
    refine compLoop_anyD (fun n s' => ∃ i H', Inv Y [] (wipe σ (own.map (·.2))) H' s' ∧ tn i s'.heap ∧ (∀ b ∈ fp, H' b = none) ∧ W i n H') ?_ m0 ⟨0, H3, hY ▸ I4, st4, fun b hb => (f3 b hb).1.1, w0⟩
    rintro n s5 ⟨i, H5, I5, st5, n5, w5⟩
    rcases turn i n H5 w5 with ⟨stop, qq⟩ | ⟨go, Nx, hNx, step⟩
    · subst hY
      refine thnF (T.done (X.blk _ H3 scope ce fp) rfl rfl rfl hc i [] s5 _ H5 (fun _ _ => False) I5 (rest I5 n5) st5 stop) fun r s6 ⟨hr, I6⟩ => ?_
      subst hr
      have I7 : Inv X pins σ H5 s6 := I3.call' (ch := fp) I6.os I6.base I6.hok I6.bare fun b hb => ⟨(f3 b hb).1.2.2.2.1, (f3 b hb).1.2.1, (f3 b hb).1.2.2.2.2.1, (f3 b hb).1.2.2.2.2.2⟩
      have nC : H5 C = none := cL ▸ (show H5 ce.locals = none from I6.free)
      obtain ⟨m, hn, _⟩ := I6.loc
      have hn : s6.heap.Ns C m := cL ▸ (show s6.heap.Ns ce.locals m from hn)
      exact last D C s6 m H5 I7 qq hn (I3.fpOk (Nat.le_of_eq hC) nC)
    · have ti := T.item Y (by subst hY; rfl) (by subst hY; rfl) (by subst hY; rfl) (by subst hY; exact hc) i [] s5 _ H5 (fun _ _ => False) I5 (rest I5 n5) st5 go
      subst hY
      refine thnF ti fun r s6 ⟨u, hr, h6⟩ => ?_
      subst hr
      refine thnF h6 fun _ s7 ⟨x, H7, I7, r7, y7, st7, n7⟩ => ?_
      refine thnF (pg.run _ s7 _ H7 x u _ (I7.pinned (rest I7 n7) (T.obj _ _ st7)) r7 (step x H7 y7)) fun _ s8 ⟨σ8, H8, I8, hw8, q8⟩ => ?_
      refine thnF (pt.run _ s8 σ8 H8 _ I8 q8) fun b s9 ⟨H9, I9, q9⟩ => ?_
      have turned : ∀ {s' : Shared} {H' : Hp}, Inv (X.blk { s2 with heap := s2.heap.push { cls := .type "dict", data := .dict #[] } } H3 scope ce fp) ([] ++ pinsAt fp s7.heap) σ8 H' s' → Nx H' → ∃ m, m < n ∧ ∃ i H', Inv (X.blk { s2 with heap := s2.heap.push { cls := .type "dict", data := .dict #[] } } H3 scope ce fp) [] (wipe σ (own.map (·.2))) H' s' ∧ tn i s'.heap ∧ (∀ b ∈ fp, H' b = none) ∧ W i m H' := by
        intro s' H' I' nx
        obtain ⟨m', hm, w'⟩ := hNx H' nx
        have pin : ∀ b ∈ fp, ∀ o, s7.heap.get? b = some o → s'.heap.get? b = some o ∧ H' b = none := fun b hb o e =>
          let z := I'.pin (b, o) (List.mem_append_right _ (List.mem_append_right _ (mem_pinsAt hb e))); ⟨z.1, z.2.1⟩
        refine ⟨m', hm, i + 1, H', (I'.unpinned (pins := [])).weak (by rw [← hw8, wipe_length]) (fun j v e => (wipe_some (by rw [hw8]; exact e)).1), T.keep _ _ _ st7 fun b hb o e => (pin b hb o e).1, fun b hb => ?_, w'⟩
        obtain ⟨o, e, _⟩ := T.obj _ _ st7 b hb
        exact (pin b hb o e).2
      cases b with
      | false => simp only [Bool.false_eq_true, if_false] at q9 ⊢; exact turned I9 q9
      | true =>
        simp only [if_true] at q9 ⊢
        refine thnF (pk.run _ s9 σ8 H9 _ I9 q9) fun z s10 ⟨yk, H10, I10, r10, q10⟩ => ?_
        refine thnF (pw.run _ s10 σ8 H10 _ I10 q10) fun z2 s11 ⟨yv, H11, I11, r11, t, k, kvs, ey, k1, k2, k3, nx⟩ => ?_
        subst ey
        exact putT (X := X.blk _ H3 scope ce fp) I11 hu k1 k2 k3 r10 r11 fun s12 I12 => turned I12 nx
  exact codeAny_compStart_dict round (T.self X.A 0 _ _ _ st4 round)
/-- as a value -/
theorem pe_dcT {kx vx tg iter : Expr} {ifs : List Expr} {scope : Scope} {own : List (PySem.Str × Nat)} {wi : TI} {g : TG} {tt : TT} {tk tv : TE} {pos : Pos} (hc : X.calm = true) (hu : X.A.units + 1 < cLine) (hN : X.N.Nodup) (hi : PI X tg iter wi) (ok : BlkOk X.N X.env.scope scope own)
    (hg : ∀ (s : Shared) (H : Hp) (C : Addr) (cl : List (PySem.Str × Addr)) (fp : List Addr), PG (X.blk s H scope (compEnvC scope cl C X.env) fp) tg g)
    (ht : ∀ (s : Shared) (H : Hp) (C : Addr) (cl : List (PySem.Str × Addr)) (fp : List Addr), PTs (X.blk s H scope (compEnvC scope cl C X.env) fp) ifs tt)
    (hk : ∀ (s : Shared) (H : Hp) (C : Addr) (cl : List (PySem.Str × Addr)) (fp : List Addr), PE (X.blk s H scope (compEnvC scope cl C X.env) fp) kx tk)
    (hv : ∀ (s : Shared) (H : Hp) (C : Addr) (cl : List (PySem.Str × Addr)) (fp : List Addr), PE (X.blk s H scope (compEnvC scope cl C X.env) fp) vx tv)
    (hs : ∀ x, foldedSetIterable iter X.env x = pure x := by intro _; rfl) :
    PE X (.DictComp kx vx [⟨tg, iter, ifs, 0⟩] scope pos) (tDcT wi g tt tk tv (own.map (·.2))) := by
  refine ⟨fun pins s σ H Q I h => ?_⟩
  rw [arm_eval_DictComp]
  exact dcT_core hc hu hN I hi ok hg ht hk hv hs h fun D C s' m H' I' q hn ⟨g0, g1, g2, g3, g4, g5⟩ =>
    ⟨m, hn, fun h'' sb => ⟨.ref D, H', I'.turned (t' := s'.toks) (fun b o hb e => (sb.2 b hb).trans e) g0 g1 g3 g4 g5, rfl, q⟩⟩
/-- given to a name -/
theorem ps_setDcT {kx vx tg iter : Expr} {ifs : List Expr} {scope : Scope} {own : List (PySem.Str × Nat)} {wi : TI} {g : TG} {tt : TT} {tk tv : TE} {i : Nat} {y : PySem.Str} {py pos spos : Pos} (hc : X.calm = true) (hu : X.A.units + 1 < cLine) (hN : X.N.Nodup) (hy : X.N[i]? = some y) (mine : X.env.scope.names.lookup y = some .local)
    (sw : swapsWith (.DictComp kx vx [⟨tg, iter, ifs, 0⟩] scope pos) (some (.Name y py)) spos.line X.env = pure true) (hi : PI X tg iter wi) (ok : BlkOk X.N X.env.scope scope own)
    (hg : ∀ (s : Shared) (H : Hp) (C : Addr) (cl : List (PySem.Str × Addr)) (fp : List Addr), PG (X.blk s H scope (compEnvC scope cl C X.env) fp) tg g)
    (ht : ∀ (s : Shared) (H : Hp) (C : Addr) (cl : List (PySem.Str × Addr)) (fp : List Addr), PTs (X.blk s H scope (compEnvC scope cl C X.env) fp) ifs tt)
    (hk : ∀ (s : Shared) (H : Hp) (C : Addr) (cl : List (PySem.Str × Addr)) (fp : List Addr), PE (X.blk s H scope (compEnvC scope cl C X.env) fp) kx tk)
    (hv : ∀ (s : Shared) (H : Hp) (C : Addr) (cl : List (PySem.Str × Addr)) (fp : List Addr), PE (X.blk s H scope (compEnvC scope cl C X.env) fp) vx tv)
    (hs : ∀ x, foldedSetIterable iter X.env x = pure x := by intro _; rfl) :
    PS X (.Assign [.Name y py] (.DictComp kx vx [⟨tg, iter, ifs, 0⟩] scope pos) spos) (tAsg (tDcT wi g tt tk tv (own.map (·.2))) (gName i)) := by
  refine ⟨fun pins s σ H D I h => ?_⟩
  have h : tDcT wi g tt tk tv (own.map (·.2)) σ H (fun x H1 => gName i x σ H1 D.nx) := h
  rw [exec_Assign_Name_used _ _ _ _ sw]
  refine wpAny_bind (wpAny_standAt (wpAny_bind ?_))
  show wpAny _ X.A (do let _ ← comprehension (.DictComp kx vx [⟨tg, iter, ifs, 0⟩] scope pos) scope X.env (firstIterPos [⟨tg, iter, ifs, 0⟩] pos) newDict false (eval iter X.env) (some (assign (.Name y py) X.env))) _ _ s
  refine wpAny_bind (thn (dcT_core (Qf := fun _ s' => SP X pins D .next s') hc hu hN I hi ok hg ht hk hv hs h fun L C s' m H' I' q hn f => ?_) fun _ s' hq => wpAny_pure (wpAny_pure hq))
  show wpAny _ _ (assign (.Name y py) X.env (.ref L)) _ _ _
  refine wpAny_assign_Name (store_ok2 (v := V.ref L) I' hN hy (.inl mine) rfl (fun s2 I2 ⟨a, sb, ha⟩ => ?_) (.inr mine))
  obtain ⟨f0, f1, f2, f3, f4, f5⟩ := f
  have apart : C ≠ a := ha.elim (fun z => by rw [z]; exact f1) fun z e => f4 y a z e.symm
  exact ⟨m, hn.sameBut sb apart, fun g3 sb3 => ⟨_, H', I2.turned (t' := s2.toks) (fun b o hb e => (sb3.2 b hb).trans e) f0 f1 f3 f4 f5, q⟩⟩
theorem swD_true {kx vx : Expr} {gs : List Comprehension} {scope : Scope} {pos py : Pos} {y : PySem.Str} {l : Nat} {env : Env} (hk : env.scope.kind = .function) (hy : env.scope.names.lookup y = some .local) (hl : (py.line == pos.line) = true)
    (ha : (scope.names.any fun (n, k) => n == y && (k == .local || k == .cell)) = false) : swapsWith (.DictComp kx vx gs scope pos) (some (.Name y py)) l env = pure true := by
  have ky : env.kindOf y = some .local := hy
  have hb : env.blockKind = .function := by unfold Env.blockKind; rw [hk]; rfl
  unfold swapsWith
  simp only [hb, ky, ha, Expr.pos, hl]
  rfl
/-- a walk in whose turns the dict grows -/
theorem dcT_it {J : It} {n : Nat} {G : Hp → Prop} {Y : Nat → Hp → V → Hp → Prop} (wk : Walk J n G Y) {g : TG} {tt : TT} {tk tv : TE} {vs : List Nat} {σ : L2.St} {H1 : Hp} {D : Addr} {Qd : Hp → Prop}
    (Pv : Nat → Hp → Prop) (h0 : Pv 0 (upd H1 D (.dT []))) (hG : ∀ i H, i ≤ n → Pv i H → G H)
    (hs : ∀ i x H H', i < n → Pv i H → Y i H x H' → g x (wipe σ vs) H' fun σ2 H2 => wipe σ2 vs = wipe σ vs ∧ tt σ2 H2 fun b H3 =>
      if b = true then tk σ2 H3 fun y H4 => tv σ2 H4 fun z H5 => ∃ (t : Addr) (k : List L2.Key) (kvs : List (List L2.Key × V)), y = .ref t ∧ H5 t = some (.tup (k.map kV)) ∧ H5 D = some (.dT kvs) ∧ kvs.length < sizeLine ∧
        Pv (i + 1) (upd H5 D (.dT (putK kvs k z))) else Pv (i + 1) H3) (hd : ∀ H, Pv n H → Qd H) :
    ∃ W : Nat → Nat → Hp → Prop, (∃ m, W 0 m (upd H1 D (.dT []))) ∧ ∀ i m H, W i m H → (J.stop i H ∧ Qd H) ∨
      (J.go i H ∧ ∃ Nx : Hp → Prop, (∀ H', Nx H' → ∃ m', m' < m ∧ W (i + 1) m' H') ∧ ∀ x H', J.yld i H x H' → g x (wipe σ vs) H' fun σ2 H2 => wipe σ2 vs = wipe σ vs ∧
        tt σ2 H2 fun b H3 => if b = true then tk σ2 H3 fun y H4 => tv σ2 H4 fun z H5 => ∃ (t : Addr) (k : List L2.Key) (kvs : List (List L2.Key × V)), y = .ref t ∧ H5 t = some (.tup (k.map kV)) ∧ H5 D = some (.dT kvs) ∧ kvs.length < sizeLine ∧
          Nx (upd H5 D (.dT (putK kvs k z))) else Nx H3) := by
  refine ⟨fun i m H => m + i = n ∧ Pv i H, ⟨n, by omega, h0⟩, fun i m H ⟨e, p⟩ => ?_⟩
  have here := hG i H (by omega) p
  rcases Nat.lt_or_ge i n with lt | ge
  · exact .inr ⟨wk.goes i H lt here, Pv (i + 1), fun H' p' => ⟨m - 1, by omega, by omega, p'⟩, fun x H' y => hs i x H H' lt p (wk.yields i H x H' lt here y)⟩
  · obtain rfl : i = n := by omega
    exact .inl ⟨wk.stops H here, hd H p⟩
/-! ### a walk over a list or a tuple -/
/-- as a list, or as a tuple -/
def AltI (K : PySem.W.Frag) (a : Addr) (H : Hp) (R : It → Hp → Prop) : Prop := ((∃ xs, SqL K H a xs) ∧ R (Itl K a) H) ∨ ((∃ xs, SqT K H a xs) ∧ R (Itt K a) H)
def iSeq (K : PySem.W.Frag) (tl : TE) : TI := fun σ H R => tl σ H fun x H1 => ∃ a, x = .ref a ∧ AltI K a H1 R
theorem pi_seq {tg l : Expr} {tl : TE} (hl : PE X l tl) : PI X tg l (iSeq X.K tl) := by
  refine ⟨fun pins s σ H R I h => thn (hl.run pins s σ H _ I h) fun v s1 ⟨x, H1, I1, r1, q1⟩ => ?_⟩
  obtain ⟨a, rfl, ⟨⟨xs, hq⟩, q⟩ | ⟨⟨xs, hq⟩, q⟩⟩ := q1
  · cases r1
    obtain ⟨its, rv, p, hz⟩ := I1.list hq
    exact wpAny_pyIter_list p.isList (pi_one (tk := s1.toks) I1 _ (turn_list a _) ⟨_, Heap.get?_push_size _ rfl, rfl, rfl⟩ q)
  · cases r1
    obtain ⟨its, rv, p, hz⟩ := I1.tuple hq
    exact wpAny_pyIter_tuple (show s1.heap.IsTuple a its.toArray from p) (pi_one (tk := s1.toks) I1 _ (turn_tuple a _) ⟨_, Heap.get?_push_size _ rfl, rfl, rfl⟩ q)
/-! ### d.items(), the keys being tuples -/
/-- each a new pair of the key's own tuple and the value -/
def ItiT (d : Addr) (o : Obj) (kvs : List (List L2.Key × V)) : It :=
  ⟨fun i H => H d = some (.frz o (.dT kvs)) ∧ i < kvs.length,
   fun i H x H' => ∃ (T q : Addr) (k : List L2.Key) (v : V), kvs[i]? = some (k, v) ∧ H q = some (.tup (k.map kV)) ∧ x = .ref T ∧ H T = none ∧ H' = upd H T (.tup [.ref q, v]),
   fun i H => H d = some (.frz o (.dT kvs)) ∧ kvs.length ≤ i⟩
theorem Inv.frzI {pins : List (Addr × Obj)} {σ : L2.St} {H : Hp} {s : Shared} {d : Addr} {o : Obj} {kvs : List (List L2.Key × V)} (I : Inv X pins σ H s) (h : H d = some (.frz o (.dT kvs))) :
    (d == sysModules) = false ∧ ∃ (es : Array DictEntry) (ep : Nat), o.data = .dict es ep ∧ s.heap.DictRaw d es ep ∧ es.size = kvs.length ∧
      ∀ (i : Nat) (k : List L2.Key) (v : V), kvs[i]? = some (k, v) → ∃ (en : DictEntry) (q : Addr), es[i]? = some en ∧ en.key = .ref q ∧ H q = some (.tup (k.map kV)) ∧ RelV v en.val := by
  obtain ⟨hd, z, lo, xs, pr, o', es, ep, ho, hx, hdt, he, _⟩ := I.hok d _ h
  obtain rfl : o = o' := Option.some.inj (hd.symm.trans ho)
  refine ⟨lo, es, ep, hdt, ⟨o, ho, hx, hdt⟩, ?_, fun i k v e => ?_⟩
  · have l1 : es.size = xs.length := size_of_entries he
    have l2 : kvs.length = xs.length := Paired.length pr
    omega
  · obtain ⟨b, hb, e1, e2, e3⟩ := paired_get pr e
    have q := entry_at he i
    rw [hb] at q
    exact ⟨_, b.2.1, q, rfl, e2, e3⟩
theorem turn_itemsT {P : Program} {w : World} {K : PySem.W.Frag} {d : Addr} {o : Obj} {es : Array DictEntry} {ep : Nat} {kvs : List (List L2.Key × V)} {elts : List Expr} {kk : Nat} {tpos : Pos} (it : Addr) (hod : o.data = .dict es ep) :
    Turn P w K (.Tuple elts kk tpos) (ItiT d o kvs) [it] it (fun i h => ∃ ok ov, IsItemIter h it d i kvs.length ep ok ov) where
  mem := List.mem_singleton.mpr rfl
  obj := fun i h ⟨ok, ov, e⟩ b hb => by
    obtain rfl := List.mem_singleton.mp hb
    exact ⟨_, e, fun v z => nomatch z⟩
  keep := fun i h h' ⟨ok, ov, e⟩ k => ⟨ok, ov, k it (List.mem_singleton.mpr rfl) _ e⟩
  item := by
    intro X hP hw hK hc i pins s σ H E I hf st hg
    subst hP hw hK
    obtain ⟨hd, hi⟩ := hg
    obtain ⟨lo, es', ep', hdt, raw, hsz, ent⟩ := Inv.frzI I hd
    obtain ⟨rfl, rfl⟩ := dict_ep hod hdt
    obtain ⟨⟨k, v⟩, hkv⟩ : ∃ p, kvs[i]? = some p := ⟨kvs[i], List.getElem?_eq_getElem hi⟩
    obtain ⟨en, q, hen, hkey, hq, ru⟩ := ent i k v hkv
    obtain ⟨ok, ov, he⟩ := st
    rw [← hsz] at he
    have lte : i < es'.size := by omega
    have een : es'[i] = en := by rw [Array.getElem?_eq_getElem lte] at hen; exact Option.some.inj hen
    have below : it < s.heap.objs.size := Heap.lt_size he
    refine wpAny_pyNext_items_item_raw he raw lte fun g ho hT hz old => ?_
    rw [een, hkey] at ho hT
    refine ⟨_, rfl, wpAny_letOwnedTupleGo_items (s := { s with heap := g }) ho fun g2 he' sb => ?_⟩
    have hT2 : g2.get? s.heap.objs.size = some { cls := .type "tuple", data := .seq #[Value.ref q, en.val] } := (sb.2 _ (Nat.ne_of_gt below)).trans hT
    have new : ObjOk X.prog X.w (upd H s.heap.objs.size (.tup [.ref q, v])) g2 s.heap.objs.size (.tup [.ref q, v]) :=
      ⟨(by decide : 2 ≤ sizeLine), [Value.ref q, en.val], .cons rfl (.cons ru .nil), ⟨_, hT2, rfl, _, rfl⟩⟩
    have I1 : Inv X pins σ (upd H s.heap.objs.size (.tup [.ref q, v])) { s with heap := g2 } :=
      I.turnedNew (t' := s.toks) (ch := [it]) (fun b ob hb e => (sb.2 b (by simpa using hb)).trans (old b ob (by simpa using hb) e)) hf (Nat.le_refl _) new
    refine ⟨.ref s.heap.objs.size, _, I1, rfl, ⟨_, q, k, v, hkv, hq, rfl, I.hok.fresh (Nat.le_refl _), rfl⟩, ⟨Value.ref q, en.val, ?_⟩, fun b hb => ?_⟩
    · rw [← hsz]; exact he'
    · obtain rfl := List.mem_singleton.mp hb
      rw [upd_ne (Nat.ne_of_lt below)]
      exact (hf _ (List.mem_singleton.mpr rfl)).1
  done := by
    intro X hP hw hK hc i pins s σ H E I hf st hg
    subst hP hw hK
    obtain ⟨hd, hi⟩ := hg
    obtain ⟨f0, f1, f2, f3, f4, f5⟩ := hf it (List.mem_singleton.mpr rfl)
    obtain ⟨lo, es', ep', hdt, raw, hsz, ent⟩ := Inv.frzI I hd
    obtain ⟨rfl, rfl⟩ := dict_ep hod hdt
    obtain ⟨ok, ov, he⟩ := st
    rw [← hsz] at he
    exact wpAny_pyNext_items_end_raw (I.ok.hd hc) he raw (by omega) fun g eb => ⟨rfl, I.turned (t' := s.toks) (fun b ob hb e => eb b ob hb e) f0 f1 f3 f4 f5⟩
  self := fun A i s Q E ⟨_, _, e⟩ h => PySem.W.kcp_self e h
def iItemsT (td : TE) : TI := fun σ H R => td σ H fun x H1 => ∃ d o kvs, x = .ref d ∧ H1 d = some (.frz o (.dT kvs)) ∧ R (ItiT d o kvs) H1
theorem pi_itemsT {e : Expr} {td : TE} {apos cpos : Pos} {elts : List Expr} {kk : Nat} {tpos : Pos} (he : PE X e td) (hbase : attributeBase e "items" X.env (eval e X.env) = eval e X.env := by rfl) (hline : (apos.endLine == cpos.line) = true := by rfl) :
    PI X (.Tuple elts kk tpos) (.Call (.Attribute e "items" apos) [] [] cpos) (iItemsT td) := by
  refine ⟨fun pins s σ H R I h => ?_⟩
  refine wpAny_Call_method (T := "dict") (id := "dict.items") hbase rfl hline F.plainAttrs_dict F.slot_dict_items F.type_dict_items (thn (he.run pins s σ H _ I h) fun u s1 ⟨x, H1, I1, rx, d, o, kvs, ex, hd, q⟩ => ?_)
  subst ex
  obtain rfl : u = Value.ref d := rx
  obtain ⟨lo, es, ep, hdt, raw, hsz, ent⟩ := Inv.frzI I1 hd
  refine ⟨raw.typeIs, fun b e => by cases e; obtain ⟨o, ho, hx, _⟩ := raw; exact ⟨o, ho, hx.2.1⟩, ?_⟩
  have I2 : Inv X pins σ H1 { s1 with heap := s1.heap.push { cls := .type "dict_items", data := .fields #[.ref d] } } := I1.kept (t' := s1.toks) fun b ob q => Heap.get?_push_of_some _ q
  have fin : wpAny (model X.prog X.w) X.A (pyIter (.ref s1.heap.objs.size)) (PIE X pins σ (.Tuple elts kk tpos) R) X.xe { s1 with heap := s1.heap.push { cls := .type "dict_items", data := .fields #[.ref d] } } := by
    refine wpAny_pyIter_items_raw (d := d) ⟨_, Heap.get?_push_size _ rfl, rfl, rfl⟩ (raw.at fun o e => Heap.get?_push_of_some _ e) (pi_one (tk := s1.toks) I2 _ (turn_itemsT _ hdt) ⟨.none, .none, ?_⟩ q)
    rw [hsz]
    exact Heap.get?_push_size _ rfl
  show wpAny _ _ (callWith cpos (.builtin "dict.items") [.ref d] [] []) _ X.xe s1
  exact method_meetsIn F.slot_dict_items F.entry_dict_items rfl (PySem.evalArgs_none ⟨rfl, raw.typeIs, F.args_dict_items_1 _, _, meets_dict_items_raw d lo, ⟨es, ep, raw⟩, fin⟩)
theorem walk_itemsT {d : Addr} {o : Obj} {kvs : List (List L2.Key × V)} : Walk (ItiT d o kvs) kvs.length (fun H => H d = some (.frz o (.dT kvs)))
    (fun i H x H' => ∃ (T q : Addr) (k : List L2.Key) (v : V), kvs[i]? = some (k, v) ∧ H q = some (.tup (k.map kV)) ∧ x = .ref T ∧ H T = none ∧ H' = upd H T (.tup [.ref q, v])) :=
  ⟨fun _ _ hi q => ⟨q, hi⟩, fun _ q => ⟨q, Nat.le_refl _⟩, fun _ _ _ _ _ _ y => y⟩
end
end Rp

/-! Links: rising lists of (place, other, falls), the greatest ones, ways of two parts. -/
namespace Rp
open PySem L2
structure Lk where
  p : Int
  q : Int
  f : Int
  deriving DecidableEq
namespace Lk
def vals (l : Lk) : List V := [.int l.p, .int l.q, .int l.f]
def il (l : Lk) : List Int := [l.p, l.q, l.f]
def pair (l : Lk) : List Int := [l.p, l.q]
def key (l : Lk) : Int := l.p * 64 + l.q
structure Bd (l : Lk) : Prop where
  p0 : 0 ≤ l.p
  p1 : l.p < 8
  q0 : 0 ≤ l.q
  q1 : l.q < 8
  f0 : 0 ≤ l.f
  f1 : l.f < 8
theorem ext' {l m : Lk} (h1 : l.p = m.p) (h2 : l.q = m.q) (h3 : l.f = m.f) : l = m := by
  cases l; cases m; simp_all
theorem key_inj {l m : Lk} (hl : l.Bd) (hm : m.Bd) (h : l.key = m.key) : l.p = m.p ∧ l.q = m.q := by
  obtain ⟨a1, a2, a3, a4, _, _⟩ := hl
  obtain ⟨b1, b2, b3, b4, _, _⟩ := hm
  unfold key at h
  constructor <;> omega
theorem key_of {l m : Lk} (h1 : l.p = m.p) (h2 : l.q = m.q) : l.key = m.key := by unfold key; rw [h1, h2]
theorem code3 (l : Lk) : TS.code 64 l.il = l.key * 64 + l.f := by
  unfold TS.code il key
  simp [TS.code]
  omega
theorem code2 (l : Lk) : TS.code 64 l.pair = l.key := by
  unfold pair key
  simp [TS.code]
theorem bd3 {l : Lk} (h : l.Bd) : TS.Bd 64 l.il := by
  obtain ⟨a1, a2, a3, a4, a5, a6⟩ := h
  intro m hm
  simp only [il, List.mem_cons, List.not_mem_nil, or_false] at hm
  rcases hm with rfl | rfl | rfl <;> constructor <;> omega
theorem bd2 {l : Lk} (h : l.Bd) : TS.Bd 64 l.pair := by
  obtain ⟨a1, a2, a3, a4, a5, a6⟩ := h
  intro m hm
  simp only [pair, List.mem_cons, List.not_mem_nil, or_false] at hm
  rcases hm with rfl | rfl <;> constructor <;> omega
end Lk
def Rise (ls : List Lk) : Prop := ls.Pairwise fun x y => x.key < y.key
def AllBd (ls : List Lk) : Prop := ∀ l ∈ ls, l.Bd
/-- the greatest of a relation -/
def Mx (R : Lk → Prop) (l : Lk) : Prop := R l ∧ ∀ m, R m → m.p = l.p → m.q = l.q → m.f ≤ l.f
/-- the greatest ones of some links, one for each pair of places -/
structure Gr (R : Lk → Prop) (ls : List Lk) : Prop where
  rise : Rise ls
  bd : AllBd ls
  iff : ∀ l, l ∈ ls ↔ Mx R l
theorem rise_one : ∀ {a b : List Lk}, Rise a → Rise b → (∀ k, k ∈ a ↔ k ∈ b) → a = b
  | [], [], _, _, _ => rfl
  | [], y :: b, _, _, h => by have := (h y).2 (by simp); simp at this
  | x :: a, [], _, _, h => by have := (h x).1 (by simp); simp at this
  | x :: a, y :: b, ha, hb, h => by
    unfold Rise at ha hb
    rw [List.pairwise_cons] at ha hb
    have exy : x = y := by
      rcases List.mem_cons.mp ((h x).1 (by simp)) with e | e
      · exact e
      · rcases List.mem_cons.mp ((h y).2 (by simp)) with e' | e'
        · exact e'.symm
        · have := hb.1 x e
          have := ha.1 y e'
          omega
    subst exy
    rw [rise_one ha.2 hb.2 fun k => ?_]
    constructor
    · intro hk
      rcases List.mem_cons.mp ((h k).1 (List.mem_cons_of_mem _ hk)) with e | e
      · subst e; have := ha.1 k hk; omega
      · exact e
    · intro hk
      rcases List.mem_cons.mp ((h k).2 (List.mem_cons_of_mem _ hk)) with e | e
      · subst e; have := hb.1 k hk; omega
      · exact e
theorem Gr.one {R S : Lk → Prop} {a b : List Lk} (ha : Gr R a) (hb : Gr S b) (h : ∀ l, Mx R l ↔ Mx S l) : a = b :=
  rise_one ha.rise hb.rise fun k => (ha.iff k).trans ((h k).trans (hb.iff k).symm)
theorem Gr.swap {R S : Lk → Prop} {a : List Lk} (ha : Gr R a) (h : ∀ l, Mx R l ↔ Mx S l) : Gr S a := ⟨ha.rise, ha.bd, fun k => (ha.iff k).trans (h k)⟩
theorem mx_congr {R S : Lk → Prop} (h : ∀ l, R l ↔ S l) (l : Lk) : Mx R l ↔ Mx S l := by
  unfold Mx
  rw [h l]
  exact ⟨fun z => ⟨z.1, fun m hm => z.2 m ((h m).2 hm)⟩, fun z => ⟨z.1, fun m hm => z.2 m ((h m).1 hm)⟩⟩
/-- R within S, and above each of S one of R -/
theorem mx_within {R S : Lk → Prop} (h1 : ∀ l, R l → S l) (h2 : ∀ l, S l → ∃ m, R m ∧ m.p = l.p ∧ m.q = l.q ∧ l.f ≤ m.f) (l : Lk) : Mx R l ↔ Mx S l := by
  constructor
  · rintro ⟨a, b⟩
    refine ⟨h1 l a, fun m hm e1 e2 => ?_⟩
    obtain ⟨n, rn, p1, p2, p3⟩ := h2 m hm
    have := b n rn (p1.trans e1) (p2.trans e2)
    omega
  · rintro ⟨a, b⟩
    obtain ⟨n, rn, p1, p2, p3⟩ := h2 l a
    have := b n (h1 n rn) p1 p2
    have e : n = l := Lk.ext' p1 p2 (by omega)
    subst e
    exact ⟨rn, fun m hm e1 e2 => b m (h1 m hm) e1 e2⟩
/-- a greatest one is there (falls below 8) -/
theorem mx_there {R : Lk → Prop} (hb : ∀ l, R l → l.f < 8) : ∀ (n : Nat) (l : Lk), R l → 8 - l.f ≤ (n : Int) → ∃ m, Mx R m ∧ m.p = l.p ∧ m.q = l.q ∧ l.f ≤ m.f
  | 0, l, r, h => by have := hb l r; omega
  | n + 1, l, r, h => by
    by_cases z : ∃ m, R m ∧ m.p = l.p ∧ m.q = l.q ∧ l.f < m.f
    · obtain ⟨m, rm, e1, e2, e3⟩ := z
      obtain ⟨k, hk, p1, p2, p3⟩ := mx_there hb n m rm (by omega)
      exact ⟨k, hk, p1.trans e1, p2.trans e2, by omega⟩
    · refine ⟨l, ⟨r, fun m hm e1 e2 => ?_⟩, rfl, rfl, Int.le_refl _⟩
      rcases Int.lt_or_le l.f m.f with q | q
      · exact absurd ⟨m, hm, e1, e2, q⟩ z
      · exact q
theorem mx_is {R : Lk → Prop} (hb : ∀ l, R l → l.f < 8) {l : Lk} (r : R l) : ∃ m, Mx R m ∧ m.p = l.p ∧ m.q = l.q ∧ l.f ≤ m.f :=
  mx_there hb (8 - l.f).toNat l r (by omega)
/-! ### ways of two parts -/
def Hop (a b : List Lk) (l : Lk) : Prop := ∃ x ∈ a, ∃ y ∈ b, y.p = x.q ∧ l = ⟨x.p, y.q, max x.f y.f⟩
def Hop3 (a b c : List Lk) (l : Lk) : Prop := ∃ x ∈ a, ∃ y ∈ b, ∃ z ∈ c, y.p = x.q ∧ z.p = y.q ∧ l = ⟨x.p, z.q, max x.f (max y.f z.f)⟩
theorem hop_bd {a b : List Lk} (ha : AllBd a) (hb : AllBd b) {l : Lk} (h : Hop a b l) : l.Bd := by
  obtain ⟨x, hx, y, hy, e, rfl⟩ := h
  obtain ⟨a1, a2, a3, a4, a5, a6⟩ := ha x hx
  obtain ⟨b1, b2, b3, b4, b5, b6⟩ := hb y hy
  exact ⟨a1, a2, b3, b4, by show 0 ≤ max x.f y.f; omega, by show max x.f y.f < 8; omega⟩
theorem together_left {a b c ab : List Lk} (ha : AllBd a) (hb : AllBd b) (hc : AllBd c) (h : Gr (Hop a b) ab) (l : Lk) : Mx (Hop ab c) l ↔ Mx (Hop3 a b c) l := by
  refine mx_within (fun l hl => ?_) (fun l hl => ?_) l
  · obtain ⟨g, hg, z, hz, e, rfl⟩ := hl
    obtain ⟨⟨x, hx, y, hy, e2, rfl⟩, _⟩ := (h.iff g).1 hg
    exact ⟨x, hx, y, hy, z, hz, e2, e, Lk.ext' rfl rfl (by show max (max x.f y.f) z.f = max x.f (max y.f z.f); omega)⟩
  · obtain ⟨x, hx, y, hy, z, hz, e1, e2, rfl⟩ := hl
    obtain ⟨g, hg, p1, p2, p3⟩ := mx_is (R := Hop a b) (fun l hl => (hop_bd ha hb hl).f1) ⟨x, hx, y, hy, e1, rfl⟩
    have p2 : g.q = y.q := p2
    have p3 : max x.f y.f ≤ g.f := p3
    refine ⟨_, ⟨g, (h.iff g).2 hg, z, hz, by rw [p2]; exact e2, rfl⟩, p1, rfl, ?_⟩
    show max x.f (max y.f z.f) ≤ max g.f z.f
    omega
theorem together_right {a b c bc : List Lk} (ha : AllBd a) (hb : AllBd b) (hc : AllBd c) (h : Gr (Hop b c) bc) (l : Lk) : Mx (Hop a bc) l ↔ Mx (Hop3 a b c) l := by
  refine mx_within (fun l hl => ?_) (fun l hl => ?_) l
  · obtain ⟨x, hx, g, hg, e, rfl⟩ := hl
    obtain ⟨⟨y, hy, z, hz, e2, rfl⟩, _⟩ := (h.iff g).1 hg
    exact ⟨x, hx, y, hy, z, hz, e, e2, rfl⟩
  · obtain ⟨x, hx, y, hy, z, hz, e1, e2, rfl⟩ := hl
    obtain ⟨g, hg, p1, p2, p3⟩ := mx_is (R := Hop b c) (fun l hl => (hop_bd hb hc hl).f1) ⟨y, hy, z, hz, e2, rfl⟩
    have p1 : g.p = y.p := p1
    have p3 : max y.f z.f ≤ g.f := p3
    refine ⟨_, ⟨x, hx, g, (h.iff g).2 hg, by rw [p1]; exact e1, rfl⟩, rfl, p2, ?_⟩
    show max x.f (max y.f z.f) ≤ max x.f g.f
    omega
theorem gr_self {ls : List Lk} (h : Rise ls) (hb : AllBd ls) : Gr (· ∈ ls) ls := by
  refine ⟨h, hb, fun l => ⟨fun hl => ⟨hl, fun m hm e1 e2 => ?_⟩, fun z => z.1⟩⟩
  have : m = l := by
    unfold Rise at h
    have q : m.key = l.key := Lk.key_of e1 e2
    obtain ⟨i, hi, rfl⟩ := List.mem_iff_getElem.mp hm
    obtain ⟨j, hj, rfl⟩ := List.mem_iff_getElem.mp hl
    rcases Nat.lt_trichotomy i j with k | k | k
    · have := List.pairwise_iff_getElem.mp h i j hi hj k; omega
    · subst k; rfl
    · have := List.pairwise_iff_getElem.mp h j i hj hi k; omega
  rw [this]
  exact Int.le_refl _
/-- each to itself -/
def stays (n : Nat) : List Lk := (List.range n).map fun k => ⟨(k : Nat), (k : Nat), 0⟩
theorem stays_mem {n : Nat} {l : Lk} : l ∈ stays n ↔ 0 ≤ l.p ∧ l.p < (n : Int) ∧ l.q = l.p ∧ l.f = 0 := by
  unfold stays
  rw [List.mem_map]
  constructor
  · rintro ⟨k, hk, rfl⟩
    rw [List.mem_range] at hk
    exact ⟨by show (0 : Int) ≤ (k : Nat); omega, by show ((k : Nat) : Int) < n; omega, rfl, rfl⟩
  · rintro ⟨h1, h2, h3, h4⟩
    refine ⟨l.p.toNat, by rw [List.mem_range]; omega, ?_⟩
    have e : ((l.p.toNat : Nat) : Int) = l.p := by omega
    exact Lk.ext' e (by rw [h3]; exact e) h4.symm
theorem stay_left {n : Nat} {a : List Lk} (hb : AllBd a) (hn : ∀ l ∈ a, l.p < (n : Int)) (l : Lk) : Hop (stays n) a l ↔ l ∈ a := by
  constructor
  · rintro ⟨x, hx, y, hy, e, rfl⟩
    obtain ⟨h1, h2, h3, h4⟩ := stays_mem.mp hx
    have := (hb y hy).f0
    have : (⟨x.p, y.q, max x.f y.f⟩ : Lk) = y := Lk.ext' (by show x.p = y.p; omega) rfl (by show max x.f y.f = y.f; omega)
    rw [this]
    exact hy
  · intro h
    have q := hb l h
    refine ⟨⟨l.p, l.p, 0⟩, stays_mem.mpr ⟨q.p0, hn l h, rfl, rfl⟩, l, h, rfl, Lk.ext' rfl rfl ?_⟩
    have := q.f0
    show l.f = max 0 l.f
    omega
theorem stay_right {n : Nat} {a : List Lk} (hb : AllBd a) (hn : ∀ l ∈ a, l.q < (n : Int)) (l : Lk) : Hop a (stays n) l ↔ l ∈ a := by
  constructor
  · rintro ⟨y, hy, x, hx, e, rfl⟩
    obtain ⟨h1, h2, h3, h4⟩ := stays_mem.mp hx
    have := (hb y hy).f0
    have : (⟨y.p, x.q, max y.f x.f⟩ : Lk) = y := Lk.ext' rfl (by show x.q = y.q; omega) (by show max y.f x.f = y.f; omega)
    rw [this]
    exact hy
  · intro h
    have q := hb l h
    refine ⟨l, h, ⟨l.q, l.q, 0⟩, stays_mem.mpr ⟨q.q0, hn l h, rfl, rfl⟩, rfl, Lk.ext' rfl rfl ?_⟩
    have := q.f0
    show l.f = max l.f 0
    omega
theorem gr_nil {R : Lk → Prop} {ls : List Lk} (h : Gr R ls) (no : ∀ l, ¬ R l) : ls = [] := by
  cases ls with
  | nil => rfl
  | cons x r => exact absurd ((h.iff x).1 (by simp)).1 (no x)
theorem few_below : ∀ (n : Nat) (l : List Nat), l.Nodup → (∀ k ∈ l, k < n) → l.length ≤ n
  | 0, [], _, _ => Nat.le_refl _
  | 0, k :: l, _, h => absurd (h k (by simp)) (Nat.not_lt_zero _)
  | n + 1, l, nd, h => by
    by_cases z : n ∈ l
    · have a := few_below n (l.erase n) (nd.erase n) fun k hk => by
        obtain ⟨h1, h2⟩ := (nd.mem_erase_iff).mp hk
        have := h k h2
        omega
      rw [List.length_erase_of_mem z] at a
      omega
    · have := few_below n l nd fun k hk => by
        have := h k hk
        have : k ≠ n := fun e => z (e ▸ hk)
        omega
      omega
/-- few -/
theorem rise_few {ls : List Lk} (h : Rise ls) (hb : AllBd ls) : ls.length ≤ 512 := by
  have nd : (ls.map fun l => l.key.toNat).Nodup := by
    unfold Rise at h
    rw [List.nodup_iff_pairwise_ne, List.pairwise_map]
    refine List.Pairwise.imp_of_mem (fun {x y} hx hy z => ?_) h
    obtain ⟨a1, a2, a3, a4, _, _⟩ := hb x hx
    obtain ⟨b1, b2, b3, b4, _, _⟩ := hb y hy
    unfold Lk.key at z ⊢
    omega
  have := few_below 512 _ nd fun k hk => by
    obtain ⟨l, hl, rfl⟩ := List.mem_map.mp hk
    obtain ⟨a1, a2, a3, a4, _, _⟩ := hb l hl
    unfold Lk.key
    omega
  simpa using this
/-! ### a dict of the greatest -/
def putLk (ks : List Lk) (l : Lk) : List Lk := if ks.any (fun k => decide (k.pair = l.pair)) = true then ks.map (fun k => if k.pair = l.pair then l else k) else ks ++ [l]
def kvsOf (ks : List Lk) : List (List L2.Key × V) := ks.map fun l => (l.pair.map Sum.inl, V.int l.f)
theorem pair_eq {l m : Lk} : l.pair = m.pair ↔ l.p = m.p ∧ l.q = m.q := by unfold Lk.pair; simp
theorem keyed_eq {l m : Lk} : (l.pair.map (Sum.inl (β := Str)) = m.pair.map Sum.inl) ↔ l.pair = m.pair := by unfold Lk.pair; simp
theorem put_kvs (ks : List Lk) (l : Lk) : putK (kvsOf ks) (l.pair.map Sum.inl) (.int l.f) = kvsOf (putLk ks l) := by
  unfold putK putLk kvsOf
  have e : ((ks.map fun l => (l.pair.map (Sum.inl (β := Str)), V.int l.f)).any fun kv => decide (kv.1 = l.pair.map Sum.inl)) = ks.any fun k => decide (k.pair = l.pair) := by
    rw [List.any_map]
    congr 1
    funext k
    exact decide_eq_decide.mpr keyed_eq
  rw [e]
  split
  · rw [List.map_map, List.map_map]
    refine List.map_congr_left fun k _ => ?_
    show (if (k.pair.map (Sum.inl (β := Str))) = l.pair.map Sum.inl then _ else _) = _
    by_cases z : k.pair = l.pair
    · rw [if_pos (keyed_eq.mpr z)]
      show (k.pair.map Sum.inl, _) = ((if k.pair = l.pair then l else k).pair.map Sum.inl, V.int (if k.pair = l.pair then l else k).f)
      rw [if_pos z, z]
    · rw [if_neg (fun w => z (keyed_eq.mp w))]
      show _ = ((if k.pair = l.pair then l else k).pair.map Sum.inl, V.int (if k.pair = l.pair then l else k).f)
      rw [if_neg z]
  · rw [List.map_append]; rfl
def UniqP (ks : List Lk) : Prop := ks.Pairwise fun x y => x.pair ≠ y.pair
/-- a dict so filled holds the greatest ones of what was seen -/
structure Seen (R : Lk → Prop) (ks : List Lk) : Prop where
  uniq : UniqP ks
  bd : AllBd ks
  iff : ∀ l, l ∈ ks ↔ Mx R l
theorem uniq_one {ks : List Lk} (h : UniqP ks) {x y : Lk} (hx : x ∈ ks) (hy : y ∈ ks) (e : x.pair = y.pair) : x = y := by
  obtain ⟨i, hi, rfl⟩ := List.mem_iff_getElem.mp hx
  obtain ⟨j, hj, rfl⟩ := List.mem_iff_getElem.mp hy
  rcases Nat.lt_trichotomy i j with k | k | k
  · exact absurd e (List.pairwise_iff_getElem.mp h i j hi hj k)
  · subst k; rfl
  · exact absurd e.symm (List.pairwise_iff_getElem.mp h j i hj hi k)
theorem put_uniq {ks : List Lk} (h : UniqP ks) (l : Lk) : UniqP (putLk ks l) := by
  unfold putLk
  split
  · unfold UniqP
    rw [List.pairwise_map]
    refine List.Pairwise.imp (fun {x y} z => ?_) h
    by_cases h1 : x.pair = l.pair
    · have h2 : ¬ y.pair = l.pair := fun w => z (h1.trans w.symm)
      rw [if_pos h1, if_neg h2]
      exact fun w => h2 w.symm
    · by_cases h2 : y.pair = l.pair
      · rw [if_neg h1, if_pos h2]
        exact h1
      · rw [if_neg h1, if_neg h2]
        exact z
  · rename_i no
    unfold UniqP
    rw [List.pairwise_append]
    refine ⟨h, List.pairwise_singleton _ _, fun x hx y hy => ?_⟩
    obtain rfl : y = l := by simpa using hy
    intro w
    exact no (List.any_eq_true.mpr ⟨x, hx, decide_eq_true w⟩)
theorem put_mem {ks : List Lk} {l m : Lk} : m ∈ putLk ks l ↔ m = l ∨ (m ∈ ks ∧ m.pair ≠ l.pair) := by
  unfold putLk
  split
  · rename_i yes
    obtain ⟨k, hk, e⟩ := List.any_eq_true.mp yes
    have e := of_decide_eq_true e
    rw [List.mem_map]
    constructor
    · rintro ⟨x, hx, rfl⟩
      by_cases z : x.pair = l.pair
      · rw [if_pos z]; exact .inl rfl
      · rw [if_neg z]; exact .inr ⟨hx, z⟩
    · rintro (rfl | ⟨h1, h2⟩)
      · exact ⟨k, hk, if_pos e⟩
      · exact ⟨m, h1, if_neg h2⟩
  · rename_i no
    rw [List.mem_append]
    constructor
    · rintro (h | h)
      · exact .inr ⟨h, fun w => no (List.any_eq_true.mpr ⟨m, h, decide_eq_true w⟩)⟩
      · exact .inl (by simpa using h)
    · rintro (rfl | ⟨h, _⟩)
      · exact .inr (by simp)
      · exact .inl h
theorem put_bd {ks : List Lk} (h : AllBd ks) {l : Lk} (hl : l.Bd) : AllBd (putLk ks l) := fun m hm => by
  rcases put_mem.mp hm with rfl | ⟨h1, _⟩
  · exact hl
  · exact h m h1
/-- what is put is at least what is there -/
theorem Seen.put {R S : Lk → Prop} {ks : List Lk} (h : Seen R ks) {l : Lk} (hl : l.Bd) (top : ∀ m, R m → m.pair = l.pair → m.f ≤ l.f) (hS : ∀ m, S m ↔ R m ∨ (m.pair = l.pair ∧ m.f ≤ l.f ∧ S m)) (own : S l) : Seen S (putLk ks l) := by
  refine ⟨put_uniq h.uniq l, put_bd h.bd hl, fun m => put_mem.trans ?_⟩
  have le : ∀ m, S m → m.pair = l.pair → m.f ≤ l.f := fun m hm e => by
    rcases (hS m).1 hm with r | r
    · exact top m r e
    · exact r.2.1
  constructor
  · rintro (rfl | ⟨h1, h2⟩)
    · exact ⟨own, fun k hk e1 e2 => le k hk (pair_eq.mpr ⟨e1, e2⟩)⟩
    · obtain ⟨r, g⟩ := (h.iff m).1 h1
      refine ⟨(hS m).2 (.inl r), fun k hk e1 e2 => ?_⟩
      rcases (hS k).1 hk with q | q
      · exact g k q e1 e2
      · exact absurd ((pair_eq.mpr ⟨e1, e2⟩).symm.trans q.1) h2
  · rintro ⟨s, g⟩
    by_cases z : m.pair = l.pair
    · obtain ⟨z1, z2⟩ := pair_eq.mp z
      have a := g l own z1.symm z2.symm
      have b := le m s z
      exact .inl (Lk.ext' z1 z2 (by omega))
    · refine .inr ⟨(h.iff m).2 ⟨?_, fun k hk e1 e2 => g k ((hS k).2 (.inl hk)) e1 e2⟩, z⟩
      rcases (hS m).1 s with q | q
      · exact q
      · exact absurd q.1 z
theorem seen_nil {R : Lk → Prop} (no : ∀ l, ¬ R l) : Seen R [] :=
  { uniq := List.Pairwise.nil, bd := (fun _ h => nomatch h), iff := fun l => ⟨(fun h => nomatch h), fun h => absurd h.1 (no l)⟩ }
theorem seen_few {R : Lk → Prop} {ks : List Lk} (h : Seen R ks) : ks.length ≤ 512 := by
  have nd : (ks.map fun l => l.key.toNat).Nodup := by
    rw [List.nodup_iff_pairwise_ne, List.pairwise_map]
    refine List.Pairwise.imp_of_mem (fun {x y} hx hy z w => ?_) h.uniq
    obtain ⟨a1, a2, a3, a4, _, _⟩ := h.bd x hx
    obtain ⟨b1, b2, b3, b4, _, _⟩ := h.bd y hy
    refine z (pair_eq.mpr ?_)
    unfold Lk.key at w
    constructor <;> omega
  have := few_below 512 _ nd fun k hk => by
    obtain ⟨l, hl, rfl⟩ := List.mem_map.mp hk
    obtain ⟨a1, a2, a3, a4, _, _⟩ := h.bd l hl
    unfold Lk.key
    omega
  simpa using this
end Rp

namespace Rp
open PySem L2
def top (i : Nat) : Stmt := PySem.Challenge.pw_ringproofs_k39_ways_put_together.main.body.getD i (.Pass ⟨0, 0, 0, 0⟩)
abbrev sGreatest : Stmt := top 1
abbrev sTogether : Stmt := top 3
abbrev sBox : Stmt := top 5
abbrev sTake : Stmt := top 6
abbrev sSame : Stmt := top 7
abbrev sJoined : Stmt := top 8
abbrev sSome : Stmt := top 9
abbrev sRight : Stmt := top 10
abbrev sLaw : Stmt := top 11
end Rp

namespace Rp
open PySem L2
/-! ### promises -/
def spBox (K : PySem.W.Frag) : Sp := fun vs H Q _ => ∃ (a : Addr) (ns : List Int) (k : Int), vs = [.ref a, .int k] ∧ SqL K H a (ns.map V.int) ∧ ns.length ≤ 63 ∧ 0 ≤ k ∧ k ≤ 63 ∧
  ∀ (b : Addr) (H' : Hp), H b = none → BoxAt H' b 0 → Same H H' → Q (.ref b) H'
def spTake : Sp := fun vs H Q _ => ∃ (b : Addr) (c : Int) (j : Nat), vs = [.ref b, .int c] ∧ BoxAt H b j ∧ j ≤ 1000000 ∧ 1 ≤ c ∧ c ≤ 1000000000 ∧
  ∀ (r : Int) (H' : Hp), 0 ≤ r → r < c → BoxAt H' b (j + 1) → But b H H' → Q (.int r) H'
def spPick : Sp := fun vs H Q _ => ∃ (b p : Addr) (xs : List V) (j : Nat), vs = [.ref b, .ref p] ∧ BoxAt H b j ∧ j ≤ 1000000 ∧ H p = some (.lst xs) ∧ p ≠ b ∧ 1 ≤ xs.length ∧ xs.length ≤ 1000000 ∧
  ∀ (v : V) (H' : Hp), v ∈ xs → BoxAt H' b (j + 1) → But b H H' → Q v H'
section
variable {P : Program} {w : World} {K : PySem.W.Frag} {mg : Str → Option Value} {base : Heap}
theorem fmod_pos {a c : Int} (h : 0 < c) : 0 ≤ a.fmod c ∧ a.fmod c < c := by
  rw [Int.fmod_eq_emod_of_nonneg a (Int.le_of_lt h)]
  exact ⟨Int.emod_nonneg a (by omega), Int.emod_lt_of_pos a h⟩
theorem fdiv_pos {a c : Int} (h : 0 < c) (ha : 0 ≤ a) : 0 ≤ a.fdiv c := by
  rw [Int.fdiv_eq_ediv_of_nonneg a (Int.le_of_lt h)]
  exact Int.ediv_nonneg ha (Int.le_of_lt h)
theorem scBox : FnScope ["_law_script", "_law_k", "_law_cell"] ["_law_script", "_law_k"] (defScope sBox) := ⟨rfl, rfl, rfl, by decide +kernel, rfl, by decide +kernel, by decide +kernel⟩
theorem ok_box {f : Addr} {fd : FuncData} (F : Fun K "_law_box" "_law_box" sBox f fd) (mLen : mg "len" = none) (mAbs : mg "abs" = none) (mInt : mg "int" = none) :
    FnOk P w K mg base CX0 1 f fd ["_law_script", "_law_k"] (spBox K) := by
  refine F.ok scBox (fun vs H Q E h => ?_) (fun cdv A outer s H vs Q E hr h => ?_)
  · obtain ⟨a, ns, k, rfl, _⟩ := h
    rfl
  obtain ⟨a, ns, k, rfl, hS, hl, h0, h1, q⟩ := h
  refine ⟨_, pss_cons (ps_set (i := 2) scBox.nd rfl (Or.inl rfl) pe_int)
    (pss_cons (ps_if (pt_cmpR op_lt (pv 1) (pe_callB call_len_seq (by rfl) mLen PySem.boot_len (pa_cons (pv 0) pa_nil)) (nomark _))
      (pss_one (ps_set (i := 2) scBox.nd rfl (Or.inl rfl) (pe_ix ix_list (pv 0) (pv 1) (fun _ _ => rfl)))) pss_nil)
    (pss_one (ps_ret (pe_lst (pa_cons
      (pe_op op_mul (pe_callB call_abs (by rfl) mAbs (by decide +kernel) (pa_cons (pv 2) pa_nil))
        (pe_callTy call_int1 (by rfl) mInt (by decide +kernel) (pa_cons (pe_cmpR op_ge (pe_callB call_abs (by rfl) mAbs (by decide +kernel) (pa_cons (pv 2) pa_nil)) (pe_op op_pow pe_int pe_int) (nomark _)) pa_nil)))
      (pa_cons (pe_op op_add (pe_op op_add (pe_op op_modN (pv 2) pe_int) (pe_op op_mul pe_int (pv 1))) pe_int) (pa_cons pe_int pa_nil))))))), ?_⟩
  refine ⟨_, rfl, _, rfl, a, _, rfl, .inl hS, _, _, rfl, rfl, _, rfl, ?_⟩
  have two : ∀ (b : Bool), -(2 ^ 64) < (if b = true then (1 : Int) else 0) ∧ (if b = true then (1 : Int) else 0) < 2 ^ 64 ∧ 0 ≤ (if b = true then (1 : Int) else 0) := by decide
  have pos : ∀ c : Int, 0 ≤ if c < 0 then -c else c := fun c => by split <;> omega
  have m := fun c : Int => fmod_pos (a := c) (c := 2147483629) (by decide)
  refine ite2 (fun c => ?_) (fun c => ?_)
  · have hk : k.toNat < ns.length := by
      have z : k < (((ns.map V.int).length : Nat) : Int) := of_decide_eq_true c
      rw [List.length_map] at z
      omega
    have it : atI (ns.map V.int) k = some (.int ns[k.toNat]) := at_of (j := k.toNat) (by omega) (by rw [List.getElem?_map, List.getElem?_eq_getElem hk]; rfl)
    refine ⟨_, rfl, _, rfl, a, _, _, _, rfl, rfl, hS, it, ?_⟩
    refine ⟨_, rfl, _, rfl, _, rfl, _, rfl, _, _, rfl, rfl, ⟨by decide, by decide, by decide⟩, _, _, rfl, rfl, .inr ⟨_, rfl, ?_⟩⟩
    refine ⟨_, _, rfl, rfl, .inr ⟨(two _).1, (two _).2.1⟩, _, rfl, _, _, rfl, rfl, (fun h => absurd h (by decide)), _, rfl, _, _, rfl, rfl, .inl ⟨by decide, by decide⟩, _, _, rfl, rfl, _, _, rfl, rfl, (by show 3 ≤ sizeLine; decide), fun b hb => ?_⟩
    have mm := m ns[k.toNat]
    exact q b _ hb ⟨_, _, _, upd_same, Int.mul_nonneg (pos _) (two _).2.2, by omega, by omega, by decide, by decide⟩ (same_new hb _)
  · refine ⟨_, rfl, _, rfl, _, rfl, _, rfl, _, _, rfl, rfl, ⟨by decide, by decide, by decide⟩, _, _, rfl, rfl, .inr ⟨_, rfl, ?_⟩⟩
    refine ⟨_, _, rfl, rfl, .inr ⟨(two _).1, (two _).2.1⟩, _, rfl, _, _, rfl, rfl, (fun h => absurd h (by decide)), _, rfl, _, _, rfl, rfl, .inl ⟨by decide, by decide⟩, _, _, rfl, rfl, _, _, rfl, rfl, (by show 3 ≤ sizeLine; decide), fun b hb => ?_⟩
    have mm := m 0
    exact q b _ hb ⟨_, _, _, upd_same, Int.mul_nonneg (pos _) (two _).2.2, by omega, by omega, by decide, by decide⟩ (same_new hb _)
theorem scTake : FnScope ["_law_box_here", "_law_reach", "_law_found", "_law_once"] ["_law_box_here", "_law_reach"] (defScope sTake) := ⟨rfl, rfl, rfl, by decide +kernel, rfl, by decide +kernel, by decide +kernel⟩
theorem ok_take {f : Addr} {fd : FuncData} (F : Fun K "_law_take" "_law_take" sTake f fd) : FnOk P w K mg base CX0 1 f fd ["_law_box_here", "_law_reach"] spTake := by
  refine F.ok scTake (fun vs H Q E h => ?_) (fun cdv A outer s H vs Q E hr h => ?_)
  · obtain ⟨b, c, j, rfl, _⟩ := h
    rfl
  obtain ⟨b, c, j, rfl, B, hj, h1, h2, q⟩ := h
  obtain ⟨x, y, z, hb, x0, y0, y1, z0, z1⟩ := id B
  have s0 : SqL K H b [.int x, .int y, .int z] := .inl (.inl hb)
  have a0 : ∀ u v t : Int, atI [V.int u, .int v, .int t] 0 = some (.int u) := fun u v t => at_of (j := 0) rfl rfl
  have a1 : ∀ u v t : Int, atI [V.int u, .int v, .int t] 1 = some (.int v) := fun u v t => at_of (j := 1) rfl rfl
  have a2 : ∀ u v t : Int, atI [V.int u, .int v, .int t] 2 = some (.int t) := fun u v t => at_of (j := 2) rfl rfl
  refine ⟨_, pss_cons (ps_if (pt_cmpR op_gt (pe_ix ix_list (pv 0) pe_int (fun _ _ => rfl)) pe_int (nomark _))
      (pss_cons (ps_set (i := 2) scTake.nd rfl (Or.inl rfl) (pe_op op_modN (pe_ix ix_list (pv 0) pe_int (fun _ _ => rfl)) (pv 1)))
      (pss_cons (ps_asg (pe_op op_fdivN (pe_ix ix_list (pv 0) pe_int (fun _ _ => rfl)) (pv 1)) (pg_sub (pv 0) pe_int set_list))
      (pss_one (ps_ret (pv 2))))) pss_nil)
    (pss_cons (ps_asg (pe_op op_add (pe_ix ix_list (pv 0) pe_int (fun _ _ => rfl)) pe_int) (pg_sub (pv 0) pe_int set_list))
    (pss_cons (ps_set (i := 3) scTake.nd rfl (Or.inl rfl) (pe_op op_modN (pe_op op_pow (pe_op op_add (pe_ix ix_list (pv 0) pe_int (fun _ _ => rfl)) (pe_op op_mul pe_int (pe_ix ix_list (pv 0) pe_int (fun _ _ => rfl)))) pe_int) pe_int))
    (pss_one (ps_ret (pe_op op_modN (pe_op op_fdivN (pe_op op_modN (pe_op op_add (pe_op op_mul (pv 3) (pe_op op_add (pe_op op_modN (pv 3) pe_int) pe_int)) (pe_op op_mul (pe_ix ix_list (pv 0) pe_int (fun _ _ => rfl)) pe_int)) pe_int) pe_int) (pv 1)))))), ?_⟩
  refine ⟨_, rfl, b, _, _, _, rfl, rfl, s0, a0 _ _ _, _, _, rfl, rfl, _, rfl, ?_⟩
  refine ite2 (fun d => ?_) (fun d => ?_)
  · refine ⟨_, rfl, b, _, _, _, rfl, rfl, s0, a0 _ _ _, _, rfl, _, _, rfl, rfl, (by omega), ?_⟩
    refine ⟨_, rfl, b, _, _, _, rfl, rfl, s0, a0 _ _ _, _, rfl, _, _, rfl, rfl, ⟨by omega, by omega⟩, ?_⟩
    refine ⟨_, rfl, b, _, _, 0, rfl, rfl, hb, rfl, ?_⟩
    have m := fmod_pos (a := x) (c := c) (by omega)
    exact ⟨_, rfl, q _ _ m.1 m.2 ⟨_, _, _, upd_same, fdiv_pos (by omega) x0, y0, y1, z0, by omega⟩ (but_upd _)⟩
  · refine ⟨_, rfl, b, _, _, _, rfl, rfl, s0, a2 _ _ _, _, _, rfl, rfl, ?_⟩
    refine ⟨_, rfl, b, _, _, 2, rfl, rfl, hb, rfl, ?_⟩
    have hb' : (upd H b (.lst [.int x, .int y, .int (z + 1)])) b = some (.lst [.int x, .int y, .int (z + 1)]) := upd_same
    have s1 : SqL K (upd H b (.lst [.int x, .int y, .int (z + 1)])) b [.int x, .int y, .int (z + 1)] := .inl (.inl hb')
    refine ⟨_, rfl, b, _, _, _, rfl, rfl, s1, a1 _ _ _, _, rfl, b, _, _, _, rfl, rfl, s1, a2 _ _ _, _, _, rfl, rfl, .inl ⟨by decide, by decide⟩, _, _, rfl, rfl, _, _, rfl, rfl, ⟨by decide, by decide, by omega⟩, _, _, rfl, rfl, (fun h => absurd h (by decide)), ?_⟩
    generalize (y + 39373 * (z + 1)) ^ Int.toNat 5 = g
    have m := fmod_pos (a := g) (c := 2147483647) (by decide)
    refine ⟨_, rfl, _, rfl, _, _, rfl, rfl, (fun h => absurd h (by decide)), _, _, rfl, rfl, _, _, rfl, rfl, .inl ⟨by omega, by omega⟩, _, rfl, b, _, _, _, rfl, rfl, s1, a2 _ _ _, _, _, rfl, rfl, .inl ⟨by omega, by omega⟩, _, _, rfl, rfl, _, _, rfl, rfl, (fun h => absurd h (by decide)), _, _, rfl, rfl, ⟨by decide, by decide⟩, _, rfl, _, _, rfl, rfl, (by omega), ?_⟩
    generalize Int.fdiv _ _ = e
    have m2 := fmod_pos (a := e) (c := c) (by omega)
    exact q _ _ m2.1 m2.2 ⟨_, _, _, upd_same, x0, y0, y1, by omega, by omega⟩ (but_upd _)
end
end Rp

namespace Rp
open PySem L2
section
variable {P : Program} {w : World} {K : PySem.W.Frag} {mg : Str → Option Value} {base : Heap}
theorem none_left {k : Nat} {f : Addr} {fd : FuncData} {ps : List Str} {sp : Sp} (no : ∀ vs H Q E, ¬ sp vs H Q E) : FnOk P w K mg base CX0 k f fd ps sp :=
  ⟨fun vs H Q E h => absurd h (no vs H Q E), fun A outer s H args us vs Q E _ _ _ _ h => absurd h (no vs H Q E)⟩
theorem v1_ne {x y : Int} (c : ¬ decide (V.int x = V.int y) = true) : x ≠ y := fun e => c (by rw [e]; simp)
theorem v1_eq {x y : Int} (c : decide (V.int x = V.int y) = true) : x = y := V.int.inj (of_decide_eq_true c)
theorem big1000 : (1000 : Nat) ≤ sizeLine := by decide
end
end Rp

namespace Rp
open PySem L2
/-- the value of a TERM is an int or a tuple that stands -/
theorem TmAt.ty {K : PySem.W.Frag} {H : Hp} {v : V} {t : Tm} (h : TmAt H v t) : (∃ n, v = .int n ∧ t = .v n) ∨ (∃ a xs, v = .ref a ∧ H a = some (.tup xs) ∧ TyX K H v (.type "tuple") ∧ (∀ n, t ≠ .v n)) := by
  cases h with
  | v n => exact .inl ⟨n, rfl, rfl⟩
  | z h => exact .inr ⟨_, _, rfl, h, .base (.tup h), fun n e => by cases e⟩
  | s h _ => exact .inr ⟨_, _, rfl, h, .base (.tup h), fun n e => by cases e⟩
  | f h _ _ => exact .inr ⟨_, _, rfl, h, .base (.tup h), fun n e => by cases e⟩
def signHead : Tm → Str
  | .v _ => "" | .z => "0" | .s _ => "s" | .f _ _ => "f"
/-- a TERM that is no variable: its tuple, its parts -/
theorem TmAt.tupled {H : Hp} {v : V} {t : Tm} (h : TmAt H v t) (no : ∀ n, t ≠ .v n) : ∃ a ks, v = .ref a ∧ H a = some (.tup (.str (signHead t) :: ks)) ∧ ks.length = t.kids.length ∧ ∀ (i : Nat) (x : V) (k : Tm), ks[i]? = some x → t.kids[i]? = some k → TmAt H x k := by
  cases h with
  | v n => exact absurd rfl (no n)
  | z h => exact ⟨_, [], rfl, h, rfl, fun i x k h => by simp at h⟩
  | @s a x t h q =>
    refine ⟨_, [x], rfl, h, rfl, fun i y k h1 h2 => ?_⟩
    cases i with
    | zero => simp [Tm.kids] at h1 h2; subst h1 h2; exact q
    | succ i => simp at h1
  | @f a x y l r h q q' =>
    refine ⟨_, [x, y], rfl, h, rfl, fun i u k h1 h2 => ?_⟩
    match i with
    | 0 => simp [Tm.kids] at h1 h2; subst h1 h2; exact q
    | 1 => simp [Tm.kids] at h1 h2; subst h1 h2; exact q'
    | i + 2 => simp at h1
theorem signs_kids : ∀ {t : Tm}, (∀ n, t ≠ .v n) → t.signs = .str (signHead t) :: t.kids.flatMap Tm.signs
  | .v n, h => absurd rfl (h n)
  | .z, _ => rfl
  | .s t, _ => by simp [Tm.signs, Tm.kids, signHead]
  | .f l r, _ => by simp [Tm.signs, Tm.kids, signHead]
theorem kid_deep {t k : Tm} (h : k ∈ t.kids) : k.deep < t.deep := by
  cases t with
  | v n => simp [Tm.kids] at h
  | z => simp [Tm.kids] at h
  | s t => simp [Tm.kids] at h; subst h; exact Nat.lt_succ_self _
  | f l r =>
    simp [Tm.kids] at h
    rcases h with h | h <;> subst h <;> (simp only [Tm.deep]; omega)
theorem kid_size {t k : Tm} (h : k ∈ t.kids) : k.size < t.size := by
  cases t with
  | v n => simp [Tm.kids] at h
  | z => simp [Tm.kids] at h
  | s t => simp [Tm.kids] at h; subst h; exact Nat.lt_succ_self _
  | f l r =>
    simp [Tm.kids] at h
    rcases h with h | h <;> subst h <;> (simp only [Tm.size]; omega)
theorem take_flat {t : Tm} (i : Nat) : ((t.kids.take i).flatMap Tm.signs).length ≤ t.size := by
  cases t with
  | v n => simp [Tm.kids]
  | z => simp [Tm.kids]
  | s t =>
    match i with
    | 0 => simp
    | i + 1 => simp [Tm.kids, Tm.signs_len, Tm.size]
  | f l r =>
    match i with
    | 0 => simp
    | 1 => simp [Tm.kids, Tm.signs_len, Tm.size]; try omega
    | i + 2 => simp [Tm.kids, Tm.signs_len, Tm.size]; try omega
theorem cut_tail (x : V) (ks : List V) : cutV (x :: ks) (some 1) none = ks := by
  have e : HT.sIx (x :: ks).length 0 (some 1) = 1 := by
    have := HT.sIx_nat (x :: ks).length 0 1
    rw [List.length_cons] at this ⊢
    rw [show (some 1 : Option Int) = some ((1 : Nat) : Int) from rfl, this]
    omega
  unfold cutV
  rw [e, HT.sIx_none, List.drop_one, List.tail_cons, List.take_of_length_le (by simp)]
theorem cut_part (x : V) (ks : List V) : ¬ (HT.sIx (x :: ks).length 0 (some 1) = 0 ∧ HT.sIx (x :: ks).length (x :: ks).length none = (x :: ks).length) := by
  have := HT.sIx_nat (x :: ks).length 0 1
  rw [List.length_cons] at this ⊢
  rw [show (some 1 : Option Int) = some ((1 : Nat) : Int) from rfl, this]
  omega
section
variable {P : Program} {w : World} {K : PySem.W.Frag} {mg : Str → Option Value} {base : Heap}
theorem kit_ii : PySem.W.kitOne K (.type "int") (.type "int") = some true := kit_ty (by decide +kernel)
theorem kit_ti : PySem.W.kitOne K (.type "tuple") (.type "int") = some false := kit_ty (by decide +kernel)
theorem kit_si : PySem.W.kitOne K (.type "str") (.type "int") = some false := kit_ty (by decide +kernel)
end
end Rp

namespace Rp
open PySem L2 RZ
/-- [.. for a, b in zip(xs, ys)], both lists or both tuples, as long -/
theorem lc_pairs {J : It} {xs ys : List V} {g : TG} {tt : TT} {te : TE} {vs : List Nat} {σ : L2.St} {H1 : Hp} {D : Addr} {Qd : Hp → Prop} (same : xs.length = ys.length) (Pv : Nat → Hp → Prop)
    (stops : ∀ H, Pv xs.length H → J.stop xs.length H) (goes : ∀ i H, i < xs.length → Pv i H → J.go i H)
    (gives : ∀ i H v H', Pv i H → J.yld i H v H' → ∃ T x y, v = .ref T ∧ xs[i]? = some x ∧ ys[i]? = some y ∧ H T = none ∧ H' = upd H T (.tup [x, y]))
    (h0 : Pv 0 (upd H1 D (.lst [])))
    (hs : ∀ (i : Nat) (x y : V) (T : Addr) (H : Hp), xs[i]? = some x → ys[i]? = some y → Pv i H → H T = none → g (.ref T) (wipe σ vs) (upd H T (.tup [x, y])) fun σ2 H2 => wipe σ2 vs = wipe σ vs ∧
      tt σ2 H2 fun b H3 => if b = true then te σ2 H3 fun y H4 => ∃ acc, H4 D = some (.lst acc) ∧ acc.length < sizeLine ∧ Pv (i + 1) (upd H4 D (.lst (acc ++ [y]))) else Pv (i + 1) H3)
    (hd : ∀ H, Pv xs.length H → Qd H) :
    ∃ W : Nat → Nat → Hp → Prop, (∃ m, W 0 m (upd H1 D (.lst []))) ∧ ∀ i m H, W i m H → (J.stop i H ∧ Qd H) ∨
      (J.go i H ∧ ∃ Nx : Hp → Prop, (∀ H', Nx H' → ∃ m', m' < m ∧ W (i + 1) m' H') ∧ ∀ x H', J.yld i H x H' → g x (wipe σ vs) H' fun σ2 H2 => wipe σ2 vs = wipe σ vs ∧
        tt σ2 H2 fun b H3 => if b = true then te σ2 H3 fun y H4 => ∃ acc, H4 D = some (.lst acc) ∧ acc.length < sizeLine ∧ Nx (upd H4 D (.lst (acc ++ [y]))) else Nx H3) := by
  refine ⟨fun i m H => m + i = xs.length ∧ Pv i H, ⟨xs.length, by simp, h0⟩, ?_⟩
  rintro i m H ⟨em, p⟩
  rcases Nat.lt_or_ge i xs.length with lt | ge
  · refine .inr ⟨goes i H lt p, Pv (i + 1), fun H' p' => ⟨m - 1, by omega, by omega, p'⟩, fun v H' y => ?_⟩
    obtain ⟨T, x, y', rfl, hx, hy, hT, rfl⟩ := gives i H v H' p y
    exact hs i x y' T H hx hy p hT
  · have e : i = xs.length := by omega
    subst e
    exact .inl ⟨stops H p, hd H p⟩
def spSame (n : Nat) : Sp := fun vs H Q _ => ∃ (x y : V) (m : Nat), vs = [x, y] ∧ n = m + 1 ∧ Alike H m x y ∧ ∀ H', Same H H' → Q (.bl true) H'
section
variable {P : Program} {w : World} {K : PySem.W.Frag} {mg : Str → Option Value} {base : Heap}
structure SameG (mg : Str → Option Value) : Prop where
  isi : mg "isinstance" = none
  list : mg "list" = none
  tuple : mg "tuple" = none
  len : mg "len" = none
  all : mg "all" = none
  zip : mg "zip" = none
  str : mg "str" = none
  int : mg "int" = none
  bool : mg "bool" = none
theorem scSame : FnScope ["_law_found", "_law_due", "_law_one", "_law_two"] ["_law_found", "_law_due"] (defScope sSame) := ⟨rfl, rfl, rfl, by decide +kernel, rfl, by decide +kernel, by decide +kernel⟩
theorem kitB_of {K : PySem.W.Frag} {a b : String} {r : Bool} (h : kitB a b = some r) : PySem.W.kitOne K (.type a) (.type b) = some r := h
theorem kit_lt {K : PySem.W.Frag} {a : String} {p r : Bool} (h1 : kitB a "list" = some p) (h2 : kitB a "tuple" = some r) : PySem.W.kitAny K (.type a) [.type "list", .type "tuple"] = some (p || r) := by
  refine kitAny_cons (kitB_of h1) (fun e => ?_) (fun e => by rw [e]; rfl)
  refine kitAny_cons (kitB_of h2) (fun e2 => by rw [e, e2]; exact kitAny_nil) (fun e2 => by rw [e, e2]; rfl)
theorem ok_same {n : Nat} {f : Addr} {fd : FuncData} (F : Fun K "_law_same" "_law_same" sSame f fd) (b2 : Binds K fd ["_law_found", "_law_due"] []) (mF : mg "_law_same" = some (.ref f)) (G : FnOk P w K mg base CX0 n f fd ["_law_found", "_law_due"] (spSame n)) (M : SameG mg) :
    FnOk P w K mg base CX0 (n + 1) f fd ["_law_found", "_law_due"] (spSame (n + 1)) := by
  refine F.ok scSame (fun vs H Q E h => ?_) (fun cdv A outer s H vs Q E hr h => ?_)
  · obtain ⟨x, y, m, rfl, _⟩ := h
    rfl
  obtain ⟨x, y, m, rfl, em, hA, q⟩ := h
  have em : n = m := by omega
  subst em
  refine ⟨_, pss_cons (ps_if (pt_val (pe_callB (id := "isinstance") call_isiT (by rfl) M.isi (by decide +kernel) (pa_cons (pv 1) (pa_cons (pe_tup (pa_cons (pe_bltn (v := .ty "list") (by rfl) M.list (by decide +kernel) rfl) (pa_cons (pe_bltn (v := .ty "tuple") (by rfl) M.tuple (by decide +kernel) rfl) pa_nil))) pa_nil))))
      (pss_cons (ps_if (PW.pt (pw_or (pt_cmpR op_ne
            (pe_callB (id := "isinstance") call_isi (by rfl) M.isi (by decide +kernel) (pa_cons (pv 0) (pa_cons (pe_bltn (v := .ty "list") (by rfl) M.list (by decide +kernel) rfl) pa_nil)))
            (pe_callB (id := "isinstance") call_isi (by rfl) M.isi (by decide +kernel) (pa_cons (pv 1) (pa_cons (pe_bltn (v := .ty "list") (by rfl) M.list (by decide +kernel) rfl) pa_nil))) (nomark _))
          (pw_or1 (pt_cmpR op_ne
            (pe_callB (id := "isinstance") call_isi (by rfl) M.isi (by decide +kernel) (pa_cons (pv 0) (pa_cons (pe_bltn (v := .ty "tuple") (by rfl) M.tuple (by decide +kernel) rfl) pa_nil)))
            (pe_callB (id := "isinstance") call_isi (by rfl) M.isi (by decide +kernel) (pa_cons (pv 1) (pa_cons (pe_bltn (v := .ty "tuple") (by rfl) M.tuple (by decide +kernel) rfl) pa_nil))) (nomark _))))) (pss_one (ps_ret pe_bl)) pss_nil)
      (pss_cons (ps_if (pt_cmpR op_ne (pe_callB call_len_seq (by rfl) M.len PySem.boot_len (pa_cons (pv 0) pa_nil)) (pe_callB call_len_seq (by rfl) M.len PySem.boot_len (pa_cons (pv 1) pa_nil)) (nomark _)) (pss_one (ps_ret pe_bl)) pss_nil)
      (pss_one (ps_ret (pe_callB (cr_all rfl) (by rfl) M.all (by decide +kernel) (pa_cons (pe_lc (own := [("_law_one", 2), ("_law_two", 3)]) (g := gTup K 2 (gCons (gName 2) (gCons (gName 3) gNil))) (tt := tYes) (te := tCall (spSame n) [] E0 (tCons (tVar 2) (tCons (tVar 3) tNil))) rfl scSame.nd
        (pi_zipA (by rfl) M.zip (pa_cons (pv 0) (pa_cons (pv 1) pa_nil))) (blkOk_by (N := ["_law_found", "_law_due", "_law_one", "_law_two"]) (sc := defScope sSame) (by decide +kernel))
        (fun _ _ _ _ _ => pg_tup (by rfl) (pgs_cons (pg_name (i := 2) scSame.nd rfl (Or.inl rfl)) (pgs_cons (pg_name (i := 3) scSame.nd rfl (Or.inl rfl)) pgs_nil)))
        (fun _ _ _ _ _ => pts_nil) (fun _ _ _ _ _ => pe_call G hr (by rfl) mF F.kp b2 .nil pass0 (pa_cons (pv 2) (pa_cons (pv 3) pa_nil)))) pa_nil)))))) pss_nil)
    (pss_cons (ps_if (PW.pt (pw_or (pt_cmpR op_isN (pv 1) pe_non (nomark _)) (pw_or1 (pt_val (pe_callB (id := "isinstance") call_isi (by rfl) M.isi (by decide +kernel) (pa_cons (pv 1) (pa_cons (pe_bltn (v := .ty "str") (by rfl) M.str (by decide +kernel) rfl) pa_nil)))))))
      (pss_one (ps_ret (pe_and (pe_cmpR op_eq (pv 0) (pv 1) (nomark _)) (pe_one (pe_cmpR op_eq
            (pe_callB (id := "isinstance") call_isi (by rfl) M.isi (by decide +kernel) (pa_cons (pv 0) (pa_cons (pe_bltn (v := .ty "str") (by rfl) M.str (by decide +kernel) rfl) pa_nil)))
            (pe_callB (id := "isinstance") call_isi (by rfl) M.isi (by decide +kernel) (pa_cons (pv 1) (pa_cons (pe_bltn (v := .ty "str") (by rfl) M.str (by decide +kernel) rfl) pa_nil))) (nomark _)))))) pss_nil)
    (pss_one (ps_ret (pe_and (pe_callB (id := "isinstance") call_isi (by rfl) M.isi (by decide +kernel) (pa_cons (pv 0) (pa_cons (pe_bltn (v := .ty "int") (by rfl) M.int (by decide +kernel) rfl) pa_nil)))
      (pe_and (pe_cmpR op_eq
            (pe_callB (id := "isinstance") call_isi (by rfl) M.isi (by decide +kernel) (pa_cons (pv 0) (pa_cons (pe_bltn (v := .ty "bool") (by rfl) M.bool (by decide +kernel) rfl) pa_nil)))
            (pe_callB (id := "isinstance") call_isi (by rfl) M.isi (by decide +kernel) (pa_cons (pv 1) (pa_cons (pe_bltn (v := .ty "bool") (by rfl) M.bool (by decide +kernel) rfl) pa_nil))) (nomark _))
        (pe_one (pe_cmpR op_eq (pv 0) (pv 1) (nomark _)))))))), ?_⟩
  refine ⟨_, rfl, (by show 2 ≤ sizeLine; decide), fun p hp => ?_⟩
  have s1 := same_new hp (.tup [V.ty "list", V.ty "tuple"])
  have plain : Plain x ∧ x = y ∨ ∃ m a b xs ys, n = m + 1 ∧ x = .ref a ∧ y = .ref b ∧ ((H a = some (.lst xs) ∧ H b = some (.lst ys)) ∨ (H a = some (.tup xs) ∧ H b = some (.tup ys))) ∧
      xs.length = ys.length ∧ xs.length ≤ 1000000 ∧ ∀ (i : Nat) (u v : V), xs[i]? = some u → ys[i]? = some v → Alike H m u v := by
    cases n with
    | zero => unfold Alike at hA; exact .inl hA
    | succ m =>
      unfold Alike at hA
      rcases hA with h | ⟨a, b, xs, ys, h⟩
      · exact .inl h
      · exact .inr ⟨m, a, b, xs, ys, rfl, h⟩
  rcases plain with ⟨px, rfl⟩ | ⟨m, a, b, xs, ys, rfl, rfl, rfl, kinds, hl, hz, each⟩
  · cases x with
    | int i =>
      refine ⟨_, p, _, _, [.type "list", .type "tuple"], false, rfl, upd_same, .cons (.ty _) (.cons (.ty _) .nil), .base (.int i), kit_lt (p := false) (r := false) (by decide +kernel) (by decide +kernel), false, rfl, iteF ?_⟩
      refine ⟨_, rfl, rfl, false, congrArg V.bl (decide_eq_false (fun z => nomatch z)), iteF ?_⟩
      refine ⟨_, rfl, _, _, _, _, false, rfl, .ty "str", .base (.int i), kitB_of (by decide +kernel), false, rfl, iteF ?_⟩
      refine ⟨_, rfl, _, _, _, _, true, rfl, .ty "int", .base (.int i), kitB_of (by decide +kernel), true, rfl, iteT ?_⟩
      refine ⟨_, rfl, _, _, _, _, false, rfl, .ty "bool", .base (.int i), kitB_of (by decide +kernel), _, rfl, _, _, _, _, false, rfl, .ty "bool", .base (.int i), kitB_of (by decide +kernel), rfl, true, congrArg V.bl (decide_eq_true rfl), iteT ?_⟩
      refine ⟨_, rfl, _, rfl, rfl, ?_⟩
      have e : decide (V.int i = V.int i) = true := decide_eq_true rfl
      rw [e]
      exact q _ s1
    | bl i =>
      refine ⟨_, p, _, _, [.type "list", .type "tuple"], false, rfl, upd_same, .cons (.ty _) (.cons (.ty _) .nil), .base (.bl i), kit_lt (p := false) (r := false) (by decide +kernel) (by decide +kernel), false, rfl, iteF ?_⟩
      refine ⟨_, rfl, rfl, false, congrArg V.bl (decide_eq_false (fun z => nomatch z)), iteF ?_⟩
      refine ⟨_, rfl, _, _, _, _, false, rfl, .ty "str", .base (.bl i), kitB_of (by decide +kernel), false, rfl, iteF ?_⟩
      refine ⟨_, rfl, _, _, _, _, true, rfl, .ty "int", .base (.bl i), kitB_of (by decide +kernel), true, rfl, iteT ?_⟩
      refine ⟨_, rfl, _, _, _, _, true, rfl, .ty "bool", .base (.bl i), kitB_of (by decide +kernel), _, rfl, _, _, _, _, true, rfl, .ty "bool", .base (.bl i), kitB_of (by decide +kernel), rfl, true, congrArg V.bl (decide_eq_true rfl), iteT ?_⟩
      refine ⟨_, rfl, _, rfl, rfl, ?_⟩
      have e : decide (V.bl i = V.bl i) = true := decide_eq_true rfl
      rw [e]
      exact q _ s1
    | str i =>
      refine ⟨_, p, _, _, [.type "list", .type "tuple"], false, rfl, upd_same, .cons (.ty _) (.cons (.ty _) .nil), .base (.str i), kit_lt (p := false) (r := false) (by decide +kernel) (by decide +kernel), false, rfl, iteF ?_⟩
      refine ⟨_, rfl, rfl, false, congrArg V.bl (decide_eq_false (fun z => nomatch z)), iteF ?_⟩
      refine ⟨_, rfl, _, _, _, _, true, rfl, .ty "str", .base (.str i), kitB_of (by decide +kernel), true, rfl, iteT ?_⟩
      refine ⟨_, rfl, _, rfl, rfl, true, congrArg V.bl (decide_eq_true rfl), iteT ?_⟩
      refine ⟨_, rfl, _, _, _, _, true, rfl, .ty "str", .base (.str i), kitB_of (by decide +kernel), _, rfl, _, _, _, _, true, rfl, .ty "str", .base (.str i), kitB_of (by decide +kernel), rfl, ?_⟩
      have e : decide (V.bl true = V.bl true) = true := decide_eq_true rfl
      rw [e]
      exact q _ s1
    | non =>
      refine ⟨_, p, _, _, [.type "list", .type "tuple"], false, rfl, upd_same, .cons (.ty _) (.cons (.ty _) .nil), .base .non, kit_lt (p := false) (r := false) (by decide +kernel) (by decide +kernel), false, rfl, iteF ?_⟩
      refine ⟨_, rfl, rfl, true, congrArg V.bl (decide_eq_true rfl), iteT ?_⟩
      refine iteT ?_
      refine ⟨_, rfl, _, rfl, rfl, true, congrArg V.bl (decide_eq_true rfl), iteT ?_⟩
      refine ⟨_, rfl, _, _, _, _, false, rfl, .ty "str", .base .non, kitB_of (by decide +kernel), _, rfl, _, _, _, _, false, rfl, .ty "str", .base .non, kitB_of (by decide +kernel), rfl, ?_⟩
      have e : decide (V.bl false = V.bl false) = true := decide_eq_true rfl
      rw [e]
      exact q _ s1
    | _ => exact px.elim
  · rcases kinds with ⟨ha, hb⟩ | ⟨ha, hb⟩
    · have ha1 := s1 _ _ ha
      have hb1 := s1 _ _ hb
      refine ⟨_, p, _, _, [.type "list", .type "tuple"], true, rfl, upd_same, .cons (.ty _) (.cons (.ty _) .nil), .base (.lst hb1), kit_lt (p := true) (r := false) (by decide +kernel) (by decide +kernel), true, rfl, iteT ?_⟩
      refine ⟨_, rfl, _, _, _, _, true, rfl, .ty "list", .base (.lst ha1), kitB_of (by decide +kernel), _, rfl, _, _, _, _, true, rfl, .ty "list", .base (.lst hb1), kitB_of (by decide +kernel), rfl, false, congrArg (fun z => V.bl (!z)) (decide_eq_true rfl), iteF ?_⟩
      refine ⟨_, rfl, _, _, _, _, false, rfl, .ty "tuple", .base (.lst ha1), kitB_of (by decide +kernel), _, rfl, _, _, _, _, false, rfl, .ty "tuple", .base (.lst hb1), kitB_of (by decide +kernel), rfl, false, congrArg (fun z => V.bl (!z)) (decide_eq_true rfl), iteF ?_⟩
      refine ⟨_, rfl, a, _, rfl, .inl (.inl (.inl ha1)), _, rfl, b, _, rfl, .inl (.inl (.inl hb1)), rfl, false, congrArg (fun z => V.bl (!z)) (decide_eq_true (by rw [hl])), iteF ?_⟩
      refine ⟨_, rfl, _, rfl, a, b, xs, ys, rfl, .inl ⟨.inl (.inl ha1), .inl (.inl hb1), fun D hD => ?_⟩⟩
      refine lc_pairs (J := Itz K a b) (xs := xs) (ys := ys) hl (fun i H2 => H2 D = some (.lst (List.replicate i (V.bl true))) ∧ Same _ H2)
        (fun H2 h => ⟨xs, ys, .inl (.inl (h.2 _ _ ha1)), .inl (.inl (h.2 _ _ hb1)), .inl (Nat.le_refl _)⟩)
        (fun i H2 lt h => ⟨xs, ys, xs[i], ys[i]'(by omega), .inl (.inl (h.2 _ _ ha1)), .inl (.inl (h.2 _ _ hb1)), List.getElem?_eq_getElem lt, List.getElem?_eq_getElem (by omega)⟩)
        (fun i H2 v H3 h ⟨T, u, v', e1, hT, e2, f1, f2⟩ => ⟨T, u, v', e1, f1 xs (.inl (.inl (h.2 _ _ ha1))), f2 ys (.inl (.inl (h.2 _ _ hb1))), hT, e2⟩)
        ⟨upd_same, same_new hD _⟩ (fun i u v T H2 hu hv h hT => ?_) (fun H2 h => ⟨D, List.replicate xs.length true, rfl, .inl (.inl (by rw [List.map_replicate]; exact h.1)), ?_⟩)
      · have sT := same_new hT (.tup [u, v])
        refine ⟨T, _, rfl, .inl (.inl upd_same), rfl, _, _, rfl, _, _, rfl, rfl, rfl, ?_⟩
        have lt : i < xs.length := (List.getElem?_eq_some_iff.mp hu).1
        refine ⟨_, rfl, _, rfl, u, v, m, rfl, rfl, Alike.mono (s1.trans (h.2.trans sT)) m (each i u v hu hv), fun H4 s4 => ⟨_, s4 _ _ (sT _ _ h.1), ?_, ?_, ?_⟩⟩
        · rw [List.length_replicate]; exact Nat.lt_of_lt_of_le (by omega : i < 1000000) (by decide)
        · rw [upd_same, List.replicate_succ']
        · intro c o z
          have nD : c ≠ D := fun e => by subst e; rw [hD] at z; cases z
          rw [upd_ne nD]
          exact s4 _ _ (sT _ _ (h.2 _ _ z))
      · have e : (List.replicate xs.length true).all id = true := by rw [List.all_eq_true]; intro x hx; rw [List.eq_of_mem_replicate hx]; rfl
        rw [e]
        exact q _ (s1.trans h.2)
    · have ha1 := s1 _ _ ha
      have hb1 := s1 _ _ hb
      refine ⟨_, p, _, _, [.type "list", .type "tuple"], true, rfl, upd_same, .cons (.ty _) (.cons (.ty _) .nil), .base (.tup hb1), kit_lt (p := false) (r := true) (by decide +kernel) (by decide +kernel), true, rfl, iteT ?_⟩
      refine ⟨_, rfl, _, _, _, _, false, rfl, .ty "list", .base (.tup ha1), kitB_of (by decide +kernel), _, rfl, _, _, _, _, false, rfl, .ty "list", .base (.tup hb1), kitB_of (by decide +kernel), rfl, false, congrArg (fun z => V.bl (!z)) (decide_eq_true rfl), iteF ?_⟩
      refine ⟨_, rfl, _, _, _, _, true, rfl, .ty "tuple", .base (.tup ha1), kitB_of (by decide +kernel), _, rfl, _, _, _, _, true, rfl, .ty "tuple", .base (.tup hb1), kitB_of (by decide +kernel), rfl, false, congrArg (fun z => V.bl (!z)) (decide_eq_true rfl), iteF ?_⟩
      refine ⟨_, rfl, a, _, rfl, .inr (.inl (.inl ha1)), _, rfl, b, _, rfl, .inr (.inl (.inl hb1)), rfl, false, congrArg (fun z => V.bl (!z)) (decide_eq_true (by rw [hl])), iteF ?_⟩
      refine ⟨_, rfl, _, rfl, a, b, xs, ys, rfl, .inr ⟨.inl (.inl ha1), .inl (.inl hb1), fun D hD => ?_⟩⟩
      refine lc_pairs (J := ItzT K a b) (xs := xs) (ys := ys) hl (fun i H2 => H2 D = some (.lst (List.replicate i (V.bl true))) ∧ Same _ H2)
        (fun H2 h => ⟨xs, ys, .inl (.inl (h.2 _ _ ha1)), .inl (.inl (h.2 _ _ hb1)), .inl (Nat.le_refl _)⟩)
        (fun i H2 lt h => ⟨xs, ys, xs[i], ys[i]'(by omega), .inl (.inl (h.2 _ _ ha1)), .inl (.inl (h.2 _ _ hb1)), List.getElem?_eq_getElem lt, List.getElem?_eq_getElem (by omega)⟩)
        (fun i H2 v H3 h ⟨T, u, v', e1, hT, e2, f1, f2⟩ => ⟨T, u, v', e1, f1 xs (.inl (.inl (h.2 _ _ ha1))), f2 ys (.inl (.inl (h.2 _ _ hb1))), hT, e2⟩)
        ⟨upd_same, same_new hD _⟩ (fun i u v T H2 hu hv h hT => ?_) (fun H2 h => ⟨D, List.replicate xs.length true, rfl, .inl (.inl (by rw [List.map_replicate]; exact h.1)), ?_⟩)
      · have sT := same_new hT (.tup [u, v])
        refine ⟨T, _, rfl, .inl (.inl upd_same), rfl, _, _, rfl, _, _, rfl, rfl, rfl, ?_⟩
        have lt : i < xs.length := (List.getElem?_eq_some_iff.mp hu).1
        refine ⟨_, rfl, _, rfl, u, v, m, rfl, rfl, Alike.mono (s1.trans (h.2.trans sT)) m (each i u v hu hv), fun H4 s4 => ⟨_, s4 _ _ (sT _ _ h.1), ?_, ?_, ?_⟩⟩
        · rw [List.length_replicate]; exact Nat.lt_of_lt_of_le (by omega : i < 1000000) (by decide)
        · rw [upd_same, List.replicate_succ']
        · intro c o z
          have nD : c ≠ D := fun e => by subst e; rw [hD] at z; cases z
          rw [upd_ne nD]
          exact s4 _ _ (sT _ _ (h.2 _ _ z))
      · have e : (List.replicate xs.length true).all id = true := by rw [List.all_eq_true]; intro x hx; rw [List.eq_of_mem_replicate hx]; rfl
        rw [e]
        exact q _ (s1.trans h.2)
theorem same_ok {f : Addr} {fd : FuncData} (F : Fun K "_law_same" "_law_same" sSame f fd) (b2 : Binds K fd ["_law_found", "_law_due"] []) (mF : mg "_law_same" = some (.ref f)) (M : SameG mg) :
    ∀ n : Nat, FnOk P w K mg base CX0 n f fd ["_law_found", "_law_due"] (spSame n)
  | 0 => none_left fun vs H Q E h => by
    obtain ⟨x, y, m, _, e, _⟩ := h
    omega
  | n + 1 => ok_same F b2 mF (same_ok F b2 mF M n) M
end
end Rp

namespace Rp
open PySem L2
/-- a link stands as a tuple -/
def LkAt (H : Hp) (x : V) (l : Lk) : Prop := ∃ t, x = .ref t ∧ H t = some (.tup l.vals)
def LksAt (H : Hp) : List V → List Lk → Prop
  | [], [] => True
  | x :: xs, l :: ls => LkAt H x l ∧ LksAt H xs ls
  | _, _ => False
theorem LkAt.mono {H H' : Hp} (e : ∀ a xs, H a = some (.tup xs) → H' a = some (.tup xs)) {x : V} {l : Lk} (h : LkAt H x l) : LkAt H' x l := let ⟨t, e1, e2⟩ := h; ⟨t, e1, e _ _ e2⟩
theorem LksAt.mono {H H' : Hp} (e : ∀ a xs, H a = some (.tup xs) → H' a = some (.tup xs)) : ∀ {xs : List V} {ls : List Lk}, LksAt H xs ls → LksAt H' xs ls
  | [], [], _ => trivial
  | _ :: _, _ :: _, h => ⟨h.1.mono e, LksAt.mono e h.2⟩
theorem LksAt.same {H H' : Hp} (e : Same H H') {xs : List V} {ls : List Lk} (h : LksAt H xs ls) : LksAt H' xs ls := h.mono fun a xs z => e _ _ z
theorem LksAt.len {H : Hp} : ∀ {xs : List V} {ls : List Lk}, LksAt H xs ls → xs.length = ls.length
  | [], [], _ => rfl
  | _ :: _, _ :: _, h => congrArg (· + 1) (LksAt.len h.2)
theorem LksAt.snoc {H : Hp} {x : V} {l : Lk} (hx : LkAt H x l) : ∀ {xs : List V} {ls : List Lk}, LksAt H xs ls → LksAt H (xs ++ [x]) (ls ++ [l])
  | [], [], _ => ⟨hx, trivial⟩
  | _ :: _, _ :: _, h => ⟨h.1, LksAt.snoc hx h.2⟩
theorem LksAt.append {H : Hp} : ∀ {xs ys : List V} {ls ms : List Lk}, LksAt H xs ls → LksAt H ys ms → LksAt H (xs ++ ys) (ls ++ ms)
  | [], _, [], _, _, h => h
  | _ :: _, _, _ :: _, _, h, h' => ⟨h.1, LksAt.append h.2 h'⟩
theorem LksAt.get {H : Hp} : ∀ {xs : List V} {ls : List Lk} {i : Nat} {x : V}, LksAt H xs ls → xs[i]? = some x → ∃ l, ls[i]? = some l ∧ LkAt H x l
  | x :: xs, l :: ls, 0, y, h, e => by simp at e; subst e; exact ⟨l, rfl, h.1⟩
  | x :: xs, l :: ls, i + 1, y, h, e => by simpa using LksAt.get h.2 (by simpa using e)
theorem LksAt.mem {H : Hp} {xs : List V} {ls : List Lk} (h : LksAt H xs ls) {x : V} (hx : x ∈ xs) : ∃ l ∈ ls, LkAt H x l := by
  obtain ⟨i, hi, e⟩ := List.mem_iff_getElem.mp hx
  obtain ⟨l, h1, h2⟩ := h.get (i := i) (x := x) (by rw [List.getElem?_eq_getElem hi, e])
  exact ⟨l, List.mem_of_getElem? h1, h2⟩
theorem LksAt.perm {H : Hp} {xs ys : List V} (p : xs.Perm ys) : ∀ {ls : List Lk}, LksAt H xs ls → ∃ ms, LksAt H ys ms ∧ ls.Perm ms := by
  induction p with
  | nil => intro ls h; exact ⟨ls, h, List.Perm.refl _⟩
  | cons x p ih =>
    intro ls h
    match ls, h with
    | l :: ls, h =>
      obtain ⟨ms, h1, h2⟩ := ih h.2
      exact ⟨l :: ms, ⟨h.1, h1⟩, h2.cons l⟩
  | swap x y r =>
    intro ls h
    match ls, h with
    | l :: m :: ls, h => exact ⟨m :: l :: ls, ⟨h.2.1, h.1, h.2.2⟩, List.Perm.swap m l ls⟩
  | trans p q ih1 ih2 =>
    intro ls h
    obtain ⟨ms, h1, h2⟩ := ih1 h
    obtain ⟨ns, h3, h4⟩ := ih2 h1
    exact ⟨ns, h3, h2.trans h4⟩
theorem vals_il (l : Lk) : l.vals = l.il.map V.int := rfl
theorem LkAt.tup {K : PySem.W.Frag} {H : Hp} {x : V} {l : Lk} (h : LkAt H x l) : TupI K H x l.il := let ⟨t, e1, e2⟩ := h; ⟨t, e1, .inl (.inl e2)⟩
/-- sorted by their codes -/
def Sorted (zs : List Lk) : Prop := zs.Pairwise fun x y => x.key * 64 + x.f ≤ y.key * 64 + y.f
theorem sorted_of {K : PySem.W.Frag} {H : Hp} : ∀ {ys : List V} {zs : List Lk}, LksAt H ys zs → ys.Pairwise (fun x y => ∀ n m, TupI K H x n → TupI K H y m → TS.code 64 n ≤ TS.code 64 m) → Sorted zs
  | [], [], _, _ => List.Pairwise.nil
  | y :: ys, z :: zs, h, p => by
    rw [List.pairwise_cons] at p
    unfold Sorted
    rw [List.pairwise_cons]
    refine ⟨fun w hw => ?_, sorted_of h.2 p.2⟩
    obtain ⟨i, hi, rfl⟩ := List.mem_iff_getElem.mp hw
    have hy : i < ys.length := by rw [h.2.len]; exact hi
    obtain ⟨l, e, hl⟩ := h.2.get (i := i) (List.getElem?_eq_getElem hy)
    rw [List.getElem?_eq_getElem hi] at e
    obtain rfl := Option.some.inj e
    have q := p.1 ys[i] (List.getElem_mem hy) z.il _ h.1.tup hl.tup
    rw [Lk.code3, Lk.code3] at q
    exact q
theorem rise_put {ks : List Lk} (h : Rise ks) (hb : AllBd ks) {l : Lk} (hl : l.Bd) (top : ∀ k ∈ ks, k.key ≤ l.key) : Rise (putLk ks l) := by
  unfold putLk
  split
  · unfold Rise
    rw [List.pairwise_map]
    have e : ∀ k : Lk, (if k.pair = l.pair then l else k).key = k.key := fun k => by
      split
      · rename_i z
        exact (Lk.key_of (pair_eq.mp z).1 (pair_eq.mp z).2).symm
      · rfl
    exact List.Pairwise.imp (fun {x y} z => by rw [e x, e y]; exact z) h
  · rename_i no
    unfold Rise
    rw [List.pairwise_append]
    refine ⟨h, List.pairwise_singleton _ _, fun x hx y hy => ?_⟩
    obtain rfl : y = l := by simpa using hy
    have a := top x hx
    rcases Int.lt_or_eq_of_le a with q | q
    · exact q
    · obtain ⟨e1, e2⟩ := Lk.key_inj (hb x hx) hl q
      exact absurd (List.any_eq_true.mpr ⟨x, hx, decide_eq_true (pair_eq.mpr ⟨e1, e2⟩)⟩) no
/-- one turn of greatest -/
theorem seen_next {zs ks : List Lk} {i : Nat} {l : Lk} (hz : Sorted zs) (bz : AllBd zs) (hi : zs[i]? = some l) (h : Seen (· ∈ zs.take i) ks) (r : Rise ks) : Seen (· ∈ zs.take (i + 1)) (putLk ks l) ∧ Rise (putLk ks l) := by
  have li : i < zs.length := (List.getElem?_eq_some_iff.mp hi).1
  have el : zs[i] = l := by rw [List.getElem?_eq_getElem li] at hi; exact Option.some.inj hi
  have tk : zs.take (i + 1) = zs.take i ++ [l] := by rw [List.take_succ, hi]; rfl
  have lb : l.Bd := bz l (List.mem_of_getElem? hi)
  have le : ∀ m ∈ zs.take i, m.key * 64 + m.f ≤ l.key * 64 + l.f := fun m hm => by
    obtain ⟨j, hj, rfl⟩ := List.mem_iff_getElem.mp hm
    rw [List.length_take] at hj
    rw [List.getElem_take, ← el]
    exact List.pairwise_iff_getElem.mp hz j i (by omega) li (by omega)
  constructor
  · refine h.put lb (fun m hm e => ?_) (fun m => ?_) (by show l ∈ zs.take (i + 1); rw [tk]; simp)
    · have a := le m hm
      rw [Lk.key_of (pair_eq.mp e).1 (pair_eq.mp e).2] at a
      omega
    · show m ∈ zs.take (i + 1) ↔ m ∈ zs.take i ∨ (m.pair = l.pair ∧ m.f ≤ l.f ∧ m ∈ zs.take (i + 1))
      constructor
      · intro hm
        rw [tk] at hm
        rcases List.mem_append.mp hm with hm | hm
        · exact .inl hm
        · obtain rfl : m = l := by simpa using hm
          exact .inr ⟨rfl, Int.le_refl _, by rw [tk]; simp⟩
      · rintro (hm | ⟨_, _, hm⟩)
        · rw [tk]; exact List.mem_append_left _ hm
        · exact hm
  · refine rise_put r h.bd lb fun k hk => ?_
    have a := le k ((h.iff k).1 hk).1
    have b := h.bd k hk
    have := b.f0
    have := lb.f1
    omega
def spGreatest : Sp := fun vs H Q _ => ∃ (p : Addr) (xs : List V) (ls : List Lk), vs = [.ref p] ∧ H p = some (.lst xs) ∧ LksAt H xs ls ∧ AllBd ls ∧
  ∀ (r : Addr) (ys : List V) (gs : List Lk) (H' : Hp), H r = none → H' r = some (.lst ys) → LksAt H' ys gs → Gr (· ∈ ls) gs → Same H H' → Q (.ref r) H'
section
variable {P : Program} {w : World} {K : PySem.W.Frag} {mg : Str → Option Value} {base : Heap}
theorem scGreatest : FnScope ["links", "found", "place", "other", "falls"] ["links"] (defScope sGreatest) := ⟨rfl, rfl, rfl, by decide +kernel, rfl, by decide +kernel, by decide +kernel⟩
theorem ok_greatest {f : Addr} {fd : FuncData} (F : Fun K "greatest" "greatest" sGreatest f fd) (mSorted : mg "sorted" = none) : FnOk P w K mg base CX0 1 f fd ["links"] spGreatest := by
  refine F.ok scGreatest (fun vs H Q E h => ?_) (fun cdv A outer s H vs Q E hr h => ?_)
  · obtain ⟨p, xs, ls, rfl, _⟩ := h
    rfl
  obtain ⟨p, xs, ls, rfl, hp, hx, bd, q⟩ := h
  have hu := hu_of hr
  refine ⟨_, pss_cons (ps_setDcT (i := 1) (own := [("place", 2), ("other", 3), ("falls", 4)]) (g := gTup K 3 (gCons (gName 2) (gCons (gName 3) (gCons (gName 4) gNil)))) (tt := tYes) (tk := tTup (tCons (tVar 2) (tCons (tVar 3) tNil))) (tv := tVar 4)
      rfl hu scGreatest.nd rfl rfl (swD_true rfl rfl rfl (by decide +kernel)) (pi_list (pe_callB (cr_sortTL (d := 3) (B := 64) (by decide)) (by rfl) mSorted (by decide +kernel) (pa_cons (pv 0) pa_nil)))
      (blkOk_by (N := ["links", "found", "place", "other", "falls"]) (sc := defScope sGreatest) (by decide +kernel))
      (fun _ _ _ _ _ => pg_tup (by rfl) (pgs_cons (pg_name (i := 2) scGreatest.nd rfl (Or.inl rfl)) (pgs_cons (pg_name (i := 3) scGreatest.nd rfl (Or.inl rfl)) (pgs_cons (pg_name (i := 4) scGreatest.nd rfl (Or.inl rfl)) pgs_nil))))
      (fun _ _ _ _ _ => pts_nil) (fun _ _ _ _ _ => pe_tup (pa_cons (pv 2) (pa_cons (pv 3) pa_nil))) (fun _ _ _ _ _ => pv 4))
    (pss_one (ps_ret (pe_lock (pe_lc (own := [("place", 2), ("other", 3), ("falls", 4)]) (g := gTup K 2 (gCons (gTup K 2 (gCons (gName 2) (gCons (gName 3) gNil))) (gCons (gName 4) gNil))) (tt := tYes) (te := tTup (tCons (tVar 2) (tCons (tVar 3) (tCons (tVar 4) tNil))))
      rfl scGreatest.nd (pi_itemsT (pv 1)) (blkOk_by (N := ["links", "found", "place", "other", "falls"]) (sc := defScope sGreatest) (by decide +kernel))
      (fun _ _ _ _ _ => pg_tup (by rfl) (pgs_cons (pg_tup (by rfl) (pgs_cons (pg_name (i := 2) scGreatest.nd rfl (Or.inl rfl)) (pgs_cons (pg_name (i := 3) scGreatest.nd rfl (Or.inl rfl)) pgs_nil))) (pgs_cons (pg_name (i := 4) scGreatest.nd rfl (Or.inl rfl)) pgs_nil)))
      (fun _ _ _ _ _ => pts_nil) (fun _ _ _ _ _ => pe_tup (pa_cons (pv 2) (pa_cons (pv 3) (pa_cons (pv 4) pa_nil)))))))), ?_⟩
  refine ⟨_, rfl, p, xs, rfl, .inl (.inl hp), fun x hx' => ?_, fun ys r pm pw hr0 => ?_⟩
  · obtain ⟨l, hl, hat⟩ := hx.mem hx'
    exact ⟨l.il, hat.tup, rfl, Lk.bd3 (bd l hl)⟩
  obtain ⟨zs, az, pz⟩ := LksAt.perm pm.symm hx
  have sz : Sorted zs := sorted_of az pw
  have bz : AllBd zs := fun l hl => bd l (pz.mem_iff.mpr hl)
  have s1 := same_new hr0 (.lst ys)
  refine ⟨r, rfl, ⟨_, .inl (.inl upd_same)⟩, fun D hD => ?_⟩
  have two : (2 : Nat) ≤ sizeLine := by decide
  have three : (3 : Nat) ≤ sizeLine := by decide
  have big : (600 : Nat) < sizeLine := by decide
  refine dcT_it walk_list (fun i H2 => ∃ ks, H2 D = some (.dT (kvsOf ks)) ∧ Seen (· ∈ zs.take i) ks ∧ Rise ks ∧ Same (upd H r (.lst ys)) H2)
    ⟨[], upd_same, seen_nil (fun l h => by simp at h), List.Pairwise.nil, same_new hD _⟩ (fun i H2 _ ⟨_, _, _, _, h⟩ => .inl (.inl (h _ _ upd_same))) ?_ ?_
  · rintro i x H0 H2 li ⟨ks, hD2, sn, ri, s2⟩ ⟨rfl, hi⟩
    obtain ⟨l, hl, t, rfl, ht⟩ := az.get hi
    have ht2 : H2 t = some (.tup l.vals) := s2 _ _ (s1 _ _ ht)
    refine ⟨t, _, rfl, .inl (.inl ht2), rfl, _, _, rfl, _, _, rfl, _, _, rfl, rfl, rfl, ?_⟩
    refine ⟨_, rfl, _, rfl, two, fun c hc => ⟨_, rfl, c, l.pair.map Sum.inl, kvsOf ks, rfl, upd_same, ?_, ?_, putLk ks l, ?_, ?_⟩⟩
    · rw [upd_ne (ne_of_none hD2 hc)]
      exact hD2
    · have := seen_few sn
      unfold kvsOf
      rw [List.length_map]
      omega
    · rw [upd_same]
      exact congrArg (fun z => some (HO.dT z)) (put_kvs ks l)
    · obtain ⟨n1, n2⟩ := seen_next sz bz hl sn ri
      refine ⟨n1, n2, fun a o z => ?_⟩
      have z2 := s2 a o z
      have aD : a ≠ D := ne_of_none z hD
      rw [upd_ne aD, upd_ne (ne_of_none z2 hc)]
      exact z2
  · rintro H2 ⟨ks, hD2, sn, ri, s2⟩
    have yl : ys.length = zs.length := az.len
    rw [yl, List.take_length] at sn
    have gr : Gr (· ∈ ls) ks := ⟨ri, sn.bd, fun l => (sn.iff l).trans (mx_congr (fun m => pz.mem_iff.symm) l)⟩
    have sH2 : Same H H2 := s1.trans s2
    refine ⟨D, _, hD2, trivial, fun od => ?_⟩
    refine ⟨_, rfl, D, od, kvsOf ks, rfl, upd_same, fun L hL => ?_⟩
    have LD : L ≠ D := by rintro rfl; rw [upd_same] at hL; cases hL
    rw [upd_ne LD] at hL
    refine lc_it walk_itemsT (fun i H3 => ∃ us, H3 L = some (.lst us) ∧ LksAt H3 us (ks.take i) ∧ H3 D = some (.frz od (.dT (kvsOf ks))) ∧ ∀ a o, a ≠ D → H2 a = some o → H3 a = some o)
      ⟨[], upd_same, trivial, by rw [upd_ne LD.symm]; exact upd_same, fun a o ne z => by rw [upd_ne (ne_of_none z hL), upd_ne ne]; exact z⟩ (fun i H3 _ ⟨_, _, _, h, _⟩ => h) ?_ ?_
    · rintro i x H3 H4 li ⟨us, h3, a3, f3, k3⟩ ⟨T, c, k, v, hkv, hc, rfl, hT, rfl⟩
      unfold kvsOf at hkv li
      rw [List.length_map] at li
      rw [List.getElem?_map, List.getElem?_eq_getElem li] at hkv
      obtain ⟨rfl, rfl⟩ : ks[i].pair.map Sum.inl = k ∧ V.int ks[i].f = v := by
        have := Option.some.inj hkv
        exact ⟨congrArg Prod.fst this, congrArg Prod.snd this⟩
      have cT : c ≠ T := ne_of_none hc hT
      refine ⟨T, _, rfl, .inl (.inl upd_same), rfl, _, _, rfl, ⟨c, [V.int ks[i].p, V.int ks[i].q], rfl, .inl (.inl (by rw [upd_ne cT]; exact hc)), rfl, _, _, rfl, _, _, rfl, rfl, _, _, rfl, rfl, rfl, ?_⟩⟩
      refine ⟨_, rfl, _, rfl, _, rfl, three, fun n hn => ?_⟩
      have sT := same_new hT (.tup [V.ref c, V.int ks[i].f])
      have sn' := same_new hn (.tup [V.int ks[i].p, V.int ks[i].q, V.int ks[i].f])
      have s5 := sT.trans sn'
      have nL : n ≠ L := (ne_of_none (sT _ _ h3) hn).symm
      have few := seen_few sn
      have ul : us.length ≤ ks.length := by rw [a3.len, List.length_take]; omega
      refine ⟨us, s5 _ _ h3, by omega, us ++ [V.ref n], upd_same, ?_, ?_, ?_⟩
      · rw [List.take_succ, List.getElem?_eq_getElem li]
        have keep : ∀ a zs, H3 a = some (.tup zs) → (upd (upd (upd H3 T (.tup [V.ref c, V.int ks[i].f])) n (.tup [V.int ks[i].p, V.int ks[i].q, V.int ks[i].f])) L (.lst (us ++ [V.ref n]))) a = some (.tup zs) := fun a zs z => by
          rw [upd_ne (ne_of z h3 (by intro e; cases e))]
          exact s5 _ _ z
        exact LksAt.snoc ⟨n, rfl, by rw [upd_ne nL]; exact upd_same⟩ (a3.mono keep)
      · rw [upd_ne LD.symm]
        exact s5 _ _ f3
      · intro a o ne z
        rw [upd_ne (ne_of_none z hL)]
        exact s5 _ _ (k3 a o ne z)
    · rintro H3 ⟨us, h3, a3, f3, k3⟩
      unfold kvsOf at a3
      rw [List.length_map, List.take_length] at a3
      refine ⟨f3, ?_⟩
      have keep : ∀ a o, a ≠ D → H3 a = some o → (upd H3 D (.dT (kvsOf ks))) a = some o := fun a o ne z => by rw [upd_ne ne]; exact z
      refine q L us ks _ (sH2.free hL) (by rw [upd_ne LD]; exact h3) (a3.mono fun a zs z => keep _ _ (ne_of z f3 (by intro e; cases e)) z) gr fun a o z => ?_
      have z2 := sH2 a o z
      have aD : a ≠ D := by
        rintro rfl
        have : (upd H r (.lst ys)) a = none := hD
        rw [s1 _ _ z] at this
        cases this
      rw [upd_ne aD]
      exact k3 a o aD z2
end
end Rp

namespace Rp
open PySem L2
/-- links in a list or a tuple -/
def LinksAt (H : Hp) (v : V) (ls : List Lk) : Prop := ∃ (a : Addr) (xs : List V) (o : HO), v = .ref a ∧ (o = .lst xs ∨ o = .tup xs) ∧ H a = some o ∧ LksAt H xs ls
theorem LinksAt.same {H H' : Hp} (e : Same H H') {v : V} {ls : List Lk} (h : LinksAt H v ls) : LinksAt H' v ls := by
  obtain ⟨a, xs, o, h1, h2, h3, h4⟩ := h
  exact ⟨a, xs, o, h1, h2, e _ _ h3, h4.same e⟩
theorem iSeq_of {K : PySem.W.Frag} {H : Hp} {a : Addr} {xs : List V} {o : HO} {R : It → Hp → Prop} (ho : o = .lst xs ∨ o = .tup xs) (h : H a = some o) (go : ∀ J, Walk J xs.length (fun H => H a = some o) (YAt xs) → R J H) : AltI K a H R := by
  rcases ho with rfl | rfl
  · exact .inl ⟨⟨xs, .inl (.inl h)⟩, go _ (walk_list.mono (fun H z => .inl (.inl z)) fun _ _ _ _ _ _ y => y)⟩
  · exact .inr ⟨⟨xs, .inl (.inl h)⟩, go _ (walk_tup.mono (fun H z => .inl (.inl z)) fun _ _ _ _ _ _ y => y)⟩
def rMx2 : List V → Hp → VK → Prop := fun xs H Q => ∃ i j : Int, xs = [.int i, .int j] ∧ Q (.int (max i j)) H
theorem cr_mx2 {X : Cx} (hc : X.calm = true) : CallR X (.builtin "max") rMx2 := by
  intro pins s σ H xs us Q I r h
  obtain ⟨i, j, e, q⟩ := h
  refine call_max2 hc pins s σ H xs us Q I r ⟨i, j, e, ?_⟩
  have z : (if j > i then j else i) = max i j := by split <;> omega
  rw [z]
  exact q
def hopsFrom (x : Lk) (b : List Lk) : List Lk := (b.filter fun y => decide (y.p = x.q)).map fun y => ⟨x.p, y.q, max x.f y.f⟩
def hops (a b : List Lk) : List Lk := a.flatMap fun x => hopsFrom x b
theorem mem_hops {a b : List Lk} {l : Lk} : l ∈ hops a b ↔ Hop a b l := by
  unfold hops hopsFrom Hop
  simp only [List.mem_flatMap, List.mem_map, List.mem_filter, decide_eq_true_eq]
  constructor
  · rintro ⟨x, hx, y, ⟨hy, e⟩, rfl⟩
    exact ⟨x, hx, y, hy, e, rfl⟩
  · rintro ⟨x, hx, y, hy, e, rfl⟩
    exact ⟨x, hx, y, ⟨hy, e⟩, rfl⟩
theorem hopsFrom_len (x : Lk) (b : List Lk) : (hopsFrom x b).length ≤ b.length := by
  unfold hopsFrom
  rw [List.length_map]
  exact List.length_filter_le _ _
theorem hops_len : ∀ (a b : List Lk), (hops a b).length ≤ a.length * b.length
  | [], b => by simp [hops]
  | x :: a, b => by
    have h1 := hopsFrom_len x b
    have h2 := hops_len a b
    have e : hops (x :: a) b = hopsFrom x b ++ hops a b := rfl
    rw [e, List.length_append, List.length_cons, Nat.add_mul]
    omega
theorem hops_next {a b : List Lk} {i : Nat} {x : Lk} (h : a[i]? = some x) : hops (a.take (i + 1)) b = hops (a.take i) b ++ hopsFrom x b := by
  unfold hops
  rw [List.take_succ, h, List.flatMap_append]
  simp
theorem hopsFrom_next {x : Lk} {b : List Lk} {j : Nat} {y : Lk} (h : b[j]? = some y) : hopsFrom x (b.take (j + 1)) = hopsFrom x (b.take j) ++ (if y.p = x.q then [⟨x.p, y.q, max x.f y.f⟩] else []) := by
  unfold hopsFrom
  rw [List.take_succ, h, List.filter_append, List.map_append]
  congr 1
  by_cases z : y.p = x.q
  · simp [z]
  · simp [z]
def spTogether : Sp := fun vs H Q _ => ∃ (va vb : V) (a b : List Lk), vs = [va, vb] ∧ LinksAt H va a ∧ LinksAt H vb b ∧ AllBd a ∧ AllBd b ∧ a.length ≤ 512 ∧ b.length ≤ 512 ∧
  ∀ (r : Addr) (ys : List V) (gs : List Lk) (H' : Hp), H r = none → H' r = some (.lst ys) → LksAt H' ys gs → Gr (Hop a b) gs → Same H H' → Q (.ref r) H'
def teHop : TE := tTup (tCons (tVar 3) (tCons (tVar 7) (tCons (tCB rMx2 (tCons (tVar 5) (tCons (tVar 8) tNil))) tNil)))
def ttHop : TT := tTest (tOp rEq (tVar 6) (tVar 4))
section
variable {P : Program} {w : World} {K : PySem.W.Frag} {mg : Str → Option Value} {base : Heap}
theorem scTogether : FnScope ["links", "others", "found", "place", "middle", "falls", "start", "other", "more"] ["links", "others"] (defScope sTogether) := ⟨rfl, rfl, rfl, by decide +kernel, rfl, by decide +kernel, by decide +kernel⟩
theorem ok_together {f fG : Addr} {fd fdG : FuncData} (F : Fun K "together" "together" sTogether f fd) (GG : FnOk P w K mg base CX0 1 fG fdG ["links"] spGreatest) (kG : PySem.W.keepIn K (.ref fG) = true) (bG : Binds K fdG ["links"] []) (mG : mg "greatest" = some (.ref fG)) (mMax : mg "max" = none) :
    FnOk P w K mg base CX0 2 f fd ["links", "others"] spTogether := by
  refine F.ok scTogether (fun vs H Q E h => ?_) (fun cdv A outer s H vs Q E hr h => ?_)
  · obtain ⟨va, vb, a, b, rfl, _⟩ := h
    rfl
  obtain ⟨va, vb, a, b, rfl, ⟨pa, xa, oa, rfl, ka, ha, aa⟩, ⟨pb, xb, ob, rfl, kb, hb, ab⟩, bda, bdb, la, lb, q⟩ := h
  refine ⟨_, pss_cons (ps_set (i := 2) scTogether.nd rfl (Or.inl rfl) (pe_lst pa_nil))
    (pss_cons (ps_for PassesOwn.never rfl (pi_seq (pv 0)) (pg_tup (by rfl) (pgs_cons (pg_name (i := 3) scTogether.nd rfl (Or.inr rfl)) (pgs_cons (pg_name (i := 4) scTogether.nd rfl (Or.inr rfl)) (pgs_cons (pg_name (i := 5) scTogether.nd rfl (Or.inr rfl)) pgs_nil))))
      (pss_one (ps_expr (pe_bm PySem.F.plainAttrs_list PySem.F.slot_list_extend PySem.F.type_list_extend mt_extend (pv 2) (pa_cons
        (pe_lc (own := [("start", 6), ("other", 7), ("more", 8)]) (g := gTup K 3 (gCons (gName 6) (gCons (gName 7) (gCons (gName 8) gNil)))) (tt := ttHop) (te := teHop) rfl scTogether.nd (pi_seq (pv 1))
          (blkOk_by (N := ["links", "others", "found", "place", "middle", "falls", "start", "other", "more"]) (sc := defScope sTogether) (by decide +kernel))
          (fun _ _ _ _ _ => pg_tup (by rfl) (pgs_cons (pg_name (i := 6) scTogether.nd rfl (Or.inl rfl)) (pgs_cons (pg_name (i := 7) scTogether.nd rfl (Or.inl rfl)) (pgs_cons (pg_name (i := 8) scTogether.nd rfl (Or.inl rfl)) pgs_nil))))
          (fun _ _ _ _ _ => pts_one (pt_cmpR op_eq (pv 6) (pv 4) (nomark _)))
          (fun _ _ _ _ _ => pe_tup (pa_cons (pv 3) (pa_cons (pv 7) (pa_cons (pe_callB (cr_mx2 rfl) (by rfl) mMax (by decide +kernel) (pa_cons (pv 5) (pa_cons (pv 8) pa_nil))) pa_nil))))) pa_nil)))))
    (pss_one (ps_ret (pe_call GG hr (by rfl) mG kG bG .nil pass0 (pa_cons (pv 2) pa_nil))))), ?_⟩
  refine ⟨(by show 0 ≤ sizeLine; decide), fun D hD => ?_⟩
  have s1 := same_new hD (.lst [])
  have big : (600000 : Nat) ≤ sizeLine := by decide
  have three : (3 : Nat) ≤ sizeLine := by decide
  have tot : a.length * b.length ≤ 512 * 512 := Nat.mul_le_mul la lb
  refine ⟨_, rfl, pa, rfl, iSeq_of ka (s1 _ _ ha) fun J wk => ?_⟩
  refine for_it wk (fun i σ H2 => ∃ (us : List V) (c3 c4 c5 : Option V), σ = [some (.ref pa), some (.ref pb), some (.ref D), c3, c4, c5, none, none, none] ∧ H2 D = some (.lst us) ∧ LksAt H2 us (hops (a.take i) b) ∧ Same H H2)
    ⟨[], none, none, none, rfl, upd_same, trivial, s1⟩ (fun i σ H2 _ ⟨_, _, _, _, _, _, _, h⟩ => h _ _ ha) ?_ ?_
  · rintro i x σ H0 H2 li ⟨us, c3, c4, c5, rfl, hD2, au, s2⟩ ⟨rfl, hi⟩
    obtain ⟨l, hl, t, rfl, ht⟩ := aa.get hi
    have ht2 : H2 t = some (.tup l.vals) := s2 _ _ ht
    refine ⟨t, _, rfl, .inl (.inl ht2), rfl, _, _, rfl, _, _, rfl, _, _, rfl, rfl, ?_⟩
    refine ⟨_, rfl, .inl ⟨rfl, us, .inl (.inl hD2)⟩, ?_⟩
    refine ⟨_, rfl, pb, rfl, iSeq_of kb (s2 _ _ hb) fun J2 wk2 => fun L hL => ?_⟩
    refine lc_it wk2 (fun j H3 => ∃ ws, H3 L = some (.lst ws) ∧ LksAt H3 ws (hopsFrom l (b.take j)) ∧ Same H2 H3)
      ⟨[], upd_same, trivial, same_new hL _⟩ (fun j H3 _ ⟨_, _, _, h⟩ => h _ _ (s2 _ _ hb)) ?_ ?_
    · rintro j y H4 H3 lj ⟨ws, hL3, aw, s3⟩ ⟨rfl, hj⟩
      obtain ⟨m, hm, u, rfl, hu⟩ := ab.get hj
      have hu3 : H3 u = some (.tup m.vals) := s3 _ _ (s2 _ _ hu)
      refine ⟨u, _, rfl, .inl (.inl hu3), rfl, _, _, rfl, _, _, rfl, _, _, rfl, rfl, rfl, ?_⟩
      refine ⟨_, rfl, _, rfl, rfl, _, rfl, ?_⟩
      have nx := hopsFrom_next (x := l) hm
      refine ite2 (fun c => ?_) (fun c => ?_)
      · have c := v1_eq c
        rw [if_pos c] at nx
        refine ⟨_, rfl, _, rfl, _, rfl, _, rfl, l.f, m.f, rfl, three, fun n hn => ?_⟩
        have sn := same_new hn (.tup [V.int l.p, V.int m.q, V.int (max l.f m.f)])
        have nL : n ≠ L := (ne_of_none hL3 hn).symm
        have few := aw.len
        have few2 := hopsFrom_len l (b.take j)
        rw [List.length_take] at few2
        refine ⟨ws, sn _ _ hL3, by omega, ws ++ [V.ref n], upd_same, ?_, ?_⟩
        · rw [nx]
          have keep : ∀ a zs, H3 a = some (.tup zs) → (upd (upd H3 n (.tup [V.int l.p, V.int m.q, V.int (max l.f m.f)])) L (.lst (ws ++ [V.ref n]))) a = some (.tup zs) := fun a zs z => by
            rw [upd_ne (ne_of z hL3 (by intro e; cases e))]
            exact sn _ _ z
          exact LksAt.snoc ⟨n, rfl, by rw [upd_ne nL]; exact upd_same⟩ (aw.mono keep)
        · intro c o z
          rw [upd_ne (ne_of_none z hL)]
          exact sn _ _ (s3 _ _ z)
      · have c := v1_ne c
        rw [if_neg c, List.append_nil] at nx
        exact ⟨ws, hL3, by rw [nx]; exact aw, s3⟩
    · rintro H3 ⟨ws, hL3, aw, s3⟩
      rw [← ab.len.symm, List.take_length] at aw
      have hD3 := s3 _ _ hD2
      have nx := hops_next (b := b) hl
      have f1 := au.len
      have f2 := hops_len (a.take i) b
      have f3 := aw.len
      have f4 := hopsFrom_len l b
      have f5 : (a.take i).length * b.length ≤ a.length * b.length := Nat.mul_le_mul_right _ (by rw [List.length_take]; omega)
      refine ⟨D, L, us, ws, rfl, rfl, hD3, hL3, by omega, ?_⟩
      have keep : ∀ a zs, H3 a = some (.tup zs) → (upd H3 D (.lst (us ++ ws))) a = some (.tup zs) := fun a zs z => by
        rw [upd_ne (ne_of z hD3 (by intro e; cases e))]
        exact z
      refine ⟨us ++ ws, _, _, _, rfl, upd_same, ?_, fun c o z => ?_⟩
      · rw [nx]
        exact ((au.same s3).mono keep).append (aw.mono keep)
      · rw [upd_ne (ne_of_none z hD)]
        exact s3 _ _ (s2 _ _ z)
  · rintro σ H2 ⟨us, c3, c4, c5, rfl, hD2, au, s2⟩
    rw [← aa.len.symm, List.take_length] at au
    refine ⟨_, rfl, D, us, hops a b, rfl, hD2, au, fun l hl => hop_bd bda bdb (mem_hops.mp hl), fun r ys gs H3 hr3 h3 a3 g3 s3 => ?_⟩
    exact q r ys gs H3 (s2.free hr3) h3 a3 (g3.swap (mx_congr fun l => mem_hops)) (s2.trans s3)
end
end Rp

namespace Rp
open PySem L2
def rMx3 : List V → Hp → VK → Prop := fun xs H Q => ∃ i j k : Int, xs = [.int i, .int j, .int k] ∧ Q (.int (max (max i j) k)) H
theorem cr_mx3 {X : Cx} (hc : X.calm = true) : CallR X (.builtin "max") rMx3 := by
  intro pins s σ H xs us Q I r h
  obtain ⟨i, j, k, e, q⟩ := h
  have m2 : ∀ i j : Int, nuMax2 (.int i) (.int j) = some (.int (max i j)) := fun i j => by
    show (some (decide (i < j))).map _ = _
    by_cases z : i < j
    · rw [decide_eq_true z]
      show some (V.int j) = _
      rw [show max i j = j by omega]
    · rw [decide_eq_false z]
      show some (V.int i) = _
      rw [show max i j = i by omega]
  refine call_max3Nu hc pins s σ H xs us Q I r ⟨_, _, _, _, e, ?_, q⟩
  show (nuMax2 (.int i) (.int j)).bind (fun m => nuMax2 m (.int k)) = _
  rw [m2]
  exact m2 _ _
theorem val_kvs {ks : List Lk} (h : UniqP ks) (m : Lk) : (∃ k ∈ ks, k.pair = m.pair ∧ valV (kvsOf ks) (m.pair.map Sum.inl) = some (.int k.f)) ∨ ((∀ k ∈ ks, k.pair ≠ m.pair) ∧ valV (kvsOf ks) (m.pair.map Sum.inl) = none) := by
  induction ks with
  | nil => exact .inr ⟨(fun k h => nomatch h), rfl⟩
  | cons x ks ih =>
    have e : kvsOf (x :: ks) = (x.pair.map Sum.inl, V.int x.f) :: kvsOf ks := rfl
    rw [e]
    by_cases z : x.pair = m.pair
    · exact .inl ⟨x, by simp, z, by rw [valV_pos (keyed_eq.mpr z)]⟩
    · unfold UniqP at h
      rw [List.pairwise_cons] at h
      have v : valV ((x.pair.map Sum.inl, V.int x.f) :: kvsOf ks) (m.pair.map Sum.inl) = valV (kvsOf ks) (m.pair.map Sum.inl) := valV_neg (fun w => z (keyed_eq.mp w))
      rw [v]
      rcases ih h.2 with ⟨k, hk, e1, e2⟩ | ⟨n1, n2⟩
      · exact .inl ⟨k, by simp [hk], e1, e2⟩
      · refine .inr ⟨fun k hk => ?_, n2⟩
        rcases List.mem_cons.mp hk with rfl | hk
        · exact z
        · exact n1 k hk
/-- what the law puts there -/
theorem seen_more {L : List Lk} {ks : List Lk} (h : Seen (· ∈ L) ks) (hL : AllBd L) {x y : Lk} (hx : x.Bd) (hy : y.Bd) (g : Int)
    (hg : (∃ k ∈ ks, k.pair = [x.p, y.q] ∧ g = k.f) ∨ ((∀ k ∈ ks, k.pair ≠ [x.p, y.q]) ∧ g = 0)) : Seen (· ∈ L ++ [⟨x.p, y.q, max x.f y.f⟩]) (putLk ks ⟨x.p, y.q, max (max g x.f) y.f⟩) := by
  have a0 := hx.f0
  have b0 := hy.f0
  have gb : 0 ≤ g ∧ g < 8 := by
    rcases hg with ⟨k, hk, _, rfl⟩ | ⟨_, rfl⟩
    · exact ⟨(h.bd k hk).f0, (h.bd k hk).f1⟩
    · decide
  have a1 := hx.f1
  have b1 := hy.f1
  refine h.put ⟨hx.p0, hx.p1, hy.q0, hy.q1, by show 0 ≤ max (max g x.f) y.f; omega, by show max (max g x.f) y.f < 8; omega⟩ (fun m hm e => ?_) (fun m => ?_) ?_
  · obtain ⟨k, hk, e1, e2, e3⟩ := mx_is (R := (· ∈ L)) (fun l hl => (hL l hl).f1) hm
    rcases hg with ⟨k', hk', p', rfl⟩ | ⟨no, _⟩
    · have q := ((h.iff k').1 hk').2 m hm
      have pe : m.pair = k'.pair := e.trans p'.symm
      obtain ⟨z1, z2⟩ := pair_eq.mp pe
      have := q z1 z2
      show m.f ≤ max (max k'.f x.f) y.f
      omega
    · exact absurd ((pair_eq.mpr ⟨e1, e2⟩).trans e) (no k ((h.iff k).2 hk))
  · show m ∈ L ++ [⟨x.p, y.q, max x.f y.f⟩] ↔ m ∈ L ∨ _
    constructor
    · intro hm
      rcases List.mem_append.mp hm with hm | hm
      · exact .inl hm
      · obtain rfl : m = ⟨x.p, y.q, max x.f y.f⟩ := by simpa using hm
        exact .inr ⟨rfl, by show max x.f y.f ≤ max (max g x.f) y.f; omega, by show _ ∈ L ++ _; simp⟩
    · rintro (hm | ⟨_, _, hm⟩)
      · exact List.mem_append_left _ hm
      · exact hm
  · show (⟨x.p, y.q, max (max g x.f) y.f⟩ : Lk) ∈ L ++ [⟨x.p, y.q, max x.f y.f⟩]
    rcases hg with ⟨k, hk, p', rfl⟩ | ⟨_, rfl⟩
    · have r := ((h.iff k).1 hk).1
      have z : k.p = x.p ∧ k.q = y.q := by unfold Lk.pair at p'; simpa using p'
      by_cases w : k.f ≤ max x.f y.f
      · rw [show max (max k.f x.f) y.f = max x.f y.f by omega]
        simp
      · rw [show max (max k.f x.f) y.f = k.f by omega]
        have : (⟨x.p, y.q, k.f⟩ : Lk) = k := Lk.ext' z.1.symm z.2.symm rfl
        rw [this]
        exact List.mem_append_left _ r
    · rw [show max (max 0 x.f) y.f = max x.f y.f by omega]
      simp
end Rp

namespace Rp
open PySem L2
/-- the link of a pair -/
def lkOf (ks : List Lk) (pr : List Int) : Lk := (ks.find? fun k => decide (k.pair = pr)).getD ⟨0, 0, 0⟩
theorem lkOf_own {ks : List Lk} (h : UniqP ks) {k : Lk} (hk : k ∈ ks) : lkOf ks k.pair = k := by
  unfold lkOf
  cases e : ks.find? fun m => decide (m.pair = k.pair) with
  | none =>
    have := List.find?_eq_none.mp e k hk
    simp at this
  | some m =>
    have a := List.find?_some e
    have b := List.mem_of_find?_eq_some e
    exact uniq_one h b hk (of_decide_eq_true a)
theorem uniq_perm {ks zs : List Lk} (p : zs.Perm ks) (h : UniqP ks) : UniqP zs :=
  (p.symm.pairwise_iff (fun {x y} z => z.symm)).mp h
/-- the dict's links in the order of their sorted pairs -/
theorem in_order {ks : List Lk} (hu : UniqP ks) (hb : AllBd ks) {ps : List (List Int)} (pm : ps.Perm (ks.map Lk.pair)) (st : ps.Pairwise fun x y => TS.code 64 x ≤ TS.code 64 y) :
    ∃ zs : List Lk, zs.map Lk.pair = ps ∧ zs.Perm ks ∧ Rise zs := by
  have own : (ks.map Lk.pair).map (lkOf ks) = ks := by
    rw [List.map_map]
    have : ks.map (lkOf ks ∘ Lk.pair) = ks.map id := List.map_congr_left fun k hk => lkOf_own hu hk
    rw [this, List.map_id]
  have zk : (ps.map (lkOf ks)).Perm ks := by
    have q := pm.map (lkOf ks)
    rw [own] at q
    exact q
  have back : (ps.map (lkOf ks)).map Lk.pair = ps := by
    rw [List.map_map]
    have : ps.map (Lk.pair ∘ lkOf ks) = ps.map id := List.map_congr_left fun pr hpr => by
      obtain ⟨k, hk, rfl⟩ := List.mem_map.mp (pm.mem_iff.mp hpr)
      show (lkOf ks k.pair).pair = k.pair
      rw [lkOf_own hu hk]
    rw [this, List.map_id]
  refine ⟨ps.map (lkOf ks), back, zk, ?_⟩
  have uz := uniq_perm zk hu
  have sz : (ps.map (lkOf ks)).Pairwise fun x y => x.key ≤ y.key := by
    rw [← back, List.pairwise_map] at st
    exact List.Pairwise.imp (fun {x y} h => by rw [Lk.code2, Lk.code2] at h; exact h) st
  refine List.Pairwise.imp_of_mem (R := fun x y => x.key ≤ y.key ∧ x.pair ≠ y.pair) (fun {x y} hx hy h => ?_) (sz.and uz)
  rcases Int.lt_or_eq_of_le h.1 with q | q
  · exact q
  · obtain ⟨e1, e2⟩ := Lk.key_inj (hb x (zk.mem_iff.mp hx)) (hb y (zk.mem_iff.mp hy)) q
    exact absurd (pair_eq.mpr ⟨e1, e2⟩) h.2
def spJoined : Sp := fun vs H Q _ => ∃ (pa pb : Addr) (xa xb : List V) (a b : List Lk), vs = [.ref pa, .ref pb] ∧ H pa = some (.lst xa) ∧ LksAt H xa a ∧ H pb = some (.lst xb) ∧ LksAt H xb b ∧ AllBd a ∧ AllBd b ∧
  ∀ (r : Addr) (ys : List V) (gs : List Lk) (H' : Hp), H r = none → H' r = some (.lst ys) → LksAt H' ys gs → Gr (Hop a b) gs → Same H H' → Q (.ref r) H'
section
variable {P : Program} {w : World} {K : PySem.W.Frag} {mg : Str → Option Value} {base : Heap}
theorem scJoined : FnScope ["_law_links", "_law_others", "_law_found", "_law_place", "_law_middle", "_law_falls", "_law_begin", "_law_other", "_law_more", "_law_pair"] ["_law_links", "_law_others"] (defScope sJoined) := ⟨rfl, rfl, rfl, by decide +kernel, rfl, by decide +kernel, by decide +kernel⟩
def teJn (K : PySem.W.Frag) : TE := tOp (rCatT K) (tVar 9) (tTup (tCons (tDGet (tVar 2) (tVar 9)) tNil))
theorem ok_joined {f : Addr} {fd : FuncData} (F : Fun K "_law_joined" "_law_joined" sJoined f fd) (mMax : mg "max" = none) (mSorted : mg "sorted" = none) : FnOk P w K mg base CX0 1 f fd ["_law_links", "_law_others"] spJoined := by
  refine F.ok scJoined (fun vs H Q E h => ?_) (fun cdv A outer s H vs Q E hr h => ?_)
  · obtain ⟨pa, pb, xa, xb, a, b, rfl, _⟩ := h
    rfl
  obtain ⟨pa, pb, xa, xb, a, b, rfl, ha, aa, hb, ab, bda, bdb, q⟩ := h
  have hu := hu_of hr
  refine ⟨_, pss_cons (ps_set (i := 2) scJoined.nd rfl (Or.inr rfl) pe_dnewT)
    (pss_cons (ps_for PassesOwn.never rfl (pi_list (pv 0)) (pg_tup (by rfl) (pgs_cons (pg_name (i := 3) scJoined.nd rfl (Or.inl rfl)) (pgs_cons (pg_name (i := 4) scJoined.nd rfl (Or.inl rfl)) (pgs_cons (pg_name (i := 5) scJoined.nd rfl (Or.inl rfl)) pgs_nil))))
      (pss_one (ps_for PassesOwn.never rfl (pi_list (pv 1)) (pg_tup (by rfl) (pgs_cons (pg_name (i := 6) scJoined.nd rfl (Or.inl rfl)) (pgs_cons (pg_name (i := 7) scJoined.nd rfl (Or.inl rfl)) (pgs_cons (pg_name (i := 8) scJoined.nd rfl (Or.inl rfl)) pgs_nil))))
        (pss_one (ps_if (pt_cmpR op_eq (pv 6) (pv 4) (nomark _))
          (pss_one (ps_dput hu (pv 2) (pe_tup (pa_cons (pv 3) (pa_cons (pv 7) pa_nil)))
            (pe_callB (cr_mx3 rfl) (by rfl) mMax (by decide +kernel) (pa_cons (pe_dget2 hu (pv 2) (pe_tup (pa_cons (pv 3) (pa_cons (pv 7) pa_nil))) pe_int ⟨rfl, rfl, rfl, rfl⟩) (pa_cons (pv 5) (pa_cons (pv 8) pa_nil)))) rfl)) pss_nil)))))
    (pss_one (ps_ret (pe_lc (own := [("_law_pair", 9)]) (g := gName 9) (tt := tYes) (te := teJn K) rfl scJoined.nd (pi_list (pe_callB (cr_sortTD rfl (d := 2) (B := 64) (by decide)) (by rfl) mSorted (by decide +kernel) (pa_cons (pv 2) pa_nil)))
      (blkOk_by (N := ["_law_links", "_law_others", "_law_found", "_law_place", "_law_middle", "_law_falls", "_law_begin", "_law_other", "_law_more", "_law_pair"]) (sc := defScope sJoined) (by decide +kernel))
      (fun _ _ _ _ _ => pg_name (i := 9) scJoined.nd rfl (Or.inl rfl)) (fun _ _ _ _ _ => pts_nil)
      (fun _ _ _ _ _ => pe_op op_catT (pv 9) (pe_tup (pa_cons (pe_dget hu (pv 2) (pv 9) (fun _ _ => rfl)) pa_nil))))))), ?_⟩
  refine fun D hD => ?_
  have s1 := same_new hD (.dT [])
  have big : (600000 : Nat) ≤ sizeLine := by decide
  have one : (1 : Nat) ≤ sizeLine := by decide
  have two : (2 : Nat) ≤ sizeLine := by decide
  refine ⟨_, rfl, pa, rfl, ⟨_, .inl (.inl (s1 _ _ ha))⟩, ?_⟩
  refine for_it (walk_list (xs := xa)) (fun i σ H2 => ∃ (ks : List Lk) (c3 c4 c5 c6 c7 c8 : Option V), σ = [some (.ref pa), some (.ref pb), some (.ref D), c3, c4, c5, c6, c7, c8, none] ∧ H2 D = some (.dT (kvsOf ks)) ∧ Seen (· ∈ hops (a.take i) b) ks ∧ Same H H2)
    ⟨[], none, none, none, none, none, none, rfl, upd_same, seen_nil (fun l h => by simp [hops] at h), s1⟩ (fun i σ H2 _ ⟨_, _, _, _, _, _, _, _, _, _, h⟩ => .inl (.inl (h _ _ ha))) ?_ ?_
  · rintro i x σ H0 H2 li ⟨ks, c3, c4, c5, c6, c7, c8, rfl, hD2, sn, s2⟩ ⟨rfl, hi⟩
    obtain ⟨l, hl, t, rfl, ht⟩ := aa.get hi
    have lb := bda l (List.mem_of_getElem? hl)
    refine ⟨t, _, rfl, .inl (.inl (s2 _ _ ht)), rfl, _, _, rfl, _, _, rfl, _, _, rfl, rfl, ?_⟩
    refine ⟨_, rfl, pb, rfl, ⟨_, .inl (.inl (s2 _ _ hb))⟩, ?_⟩
    refine for_it (walk_list (xs := xb)) (fun j σ H3 => ∃ (ks : List Lk) (c6 c7 c8 : Option V), σ = [some (.ref pa), some (.ref pb), some (.ref D), some (.int l.p), some (.int l.q), some (.int l.f), c6, c7, c8, none] ∧ H3 D = some (.dT (kvsOf ks)) ∧ Seen (· ∈ hops (a.take i) b ++ hopsFrom l (b.take j)) ks ∧ Same H H3)
      ⟨ks, c6, c7, c8, rfl, hD2, by simpa [hopsFrom] using sn, s2⟩ (fun j σ H3 _ ⟨_, _, _, _, _, _, _, h⟩ => .inl (.inl (h _ _ hb))) ?_ ?_
    · rintro j y σ H4 H3 lj ⟨ks, c6, c7, c8, rfl, hD3, sn, s3⟩ ⟨rfl, hj⟩
      obtain ⟨m, hm, u, rfl, hu'⟩ := ab.get hj
      have mb := bdb m (List.mem_of_getElem? hm)
      refine ⟨u, _, rfl, .inl (.inl (s3 _ _ hu')), rfl, _, _, rfl, _, _, rfl, _, _, rfl, rfl, ?_⟩
      refine ⟨_, rfl, _, rfl, rfl, _, rfl, ?_⟩
      have nx := hopsFrom_next (x := l) hm
      refine ite2 (fun c => ?_) (fun c => ?_)
      · have c := v1_eq c
        rw [if_pos c] at nx
        have tot : AllBd (hops (a.take i) b ++ hopsFrom l (b.take j)) := fun z hz => by
          rcases List.mem_append.mp hz with hz | hz
          · exact hop_bd (fun k hk => bda k (List.mem_of_mem_take hk)) bdb (mem_hops.mp hz)
          · unfold hopsFrom at hz
            obtain ⟨w, hw, rfl⟩ := List.mem_map.mp hz
            have wb := bdb w (List.mem_of_mem_take (List.mem_filter.mp hw).1)
            have f1 := lb.f0
            have f2 := wb.f0
            have f3 := lb.f1
            have f4 := wb.f1
            exact ⟨lb.p0, lb.p1, wb.q0, wb.q1, by show 0 ≤ max l.f w.f; omega, by show max l.f w.f < 8; omega⟩
        have few := seen_few sn
        refine ⟨_, rfl, D, rfl, .inr ⟨_, .inl hD3⟩, _, rfl, _, rfl, two, fun k1 hk1 => ?_⟩
        have t1 := same_new hk1 (.tup [V.int l.p, V.int m.q])
        have pr := val_kvs sn.uniq ⟨l.p, m.q, 0⟩
        refine ⟨_, DGet.t (k := [Sum.inl l.p, Sum.inl m.q]) (t1 _ _ hD3) upd_same, ?_⟩
        have got : ∃ g : Int, ((valV (kvsOf ks) [Sum.inl l.p, Sum.inl m.q]).getD (V.int 0)) = .int g ∧ ((∃ k ∈ ks, k.pair = [l.p, m.q] ∧ g = k.f) ∨ ((∀ k ∈ ks, k.pair ≠ [l.p, m.q]) ∧ g = 0)) := by
          rcases pr with ⟨k, hk, e1, e2⟩ | ⟨n1, n2⟩
          · exact ⟨k.f, by rw [show [Sum.inl l.p, Sum.inl m.q] = (Lk.pair ⟨l.p, m.q, 0⟩).map (Sum.inl (β := Str)) from rfl, e2]; rfl, .inl ⟨k, hk, e1, rfl⟩⟩
          · exact ⟨0, by rw [show [Sum.inl l.p, Sum.inl m.q] = (Lk.pair ⟨l.p, m.q, 0⟩).map (Sum.inl (β := Str)) from rfl, n2]; rfl, .inr ⟨n1, rfl⟩⟩
        obtain ⟨g, eg, cg⟩ := got
        refine ⟨_, rfl, _, rfl, g, l.f, m.f, by rw [eg], ?_⟩
        refine ⟨_, rfl, _, rfl, _, rfl, two, fun k2 hk2 => ?_⟩
        have t2 := t1.trans (same_new hk2 (.tup [V.int l.p, V.int m.q]))
        refine ⟨D, _, rfl, DPut.t (k := [Sum.inl l.p, Sum.inl m.q]) (t2 _ _ hD3) upd_same (by unfold kvsOf; rw [List.length_map]; omega), ?_⟩
        refine ⟨putLk ks ⟨l.p, m.q, max (max g l.f) m.f⟩, _, _, _, rfl, ?_, ?_, fun c o z => ?_⟩
        · rw [upd_same]
          exact congrArg (fun z => some (HO.dT z)) (put_kvs ks ⟨l.p, m.q, max (max g l.f) m.f⟩)
        · rw [nx, ← List.append_assoc]
          exact seen_more sn tot lb mb g cg
        · rw [upd_ne (ne_of_none z hD)]
          exact t2 _ _ (s3 _ _ z)
      · have c := v1_ne c
        rw [if_neg c, List.append_nil] at nx
        exact ⟨ks, _, _, _, rfl, hD3, by rw [nx]; exact sn, s3⟩
    · rintro σ H3 ⟨ks, c6, c7, c8, rfl, hD3, sn, s3⟩
      rw [← ab.len.symm, List.take_length] at sn
      exact ⟨ks, _, _, _, _, _, _, rfl, hD3, by rw [hops_next hl]; exact sn, s3⟩
  · rintro σ H2 ⟨ks, c3, c4, c5, c6, c7, c8, rfl, hD2, sn, s2⟩
    rw [← aa.len.symm, List.take_length] at sn
    refine ⟨_, rfl, D, kvsOf ks, ks.map Lk.pair, rfl, hD2, ?_, fun k hk => ?_, fun ys r pm st yk hr2 => ?_⟩
    · unfold kvsOf
      rw [List.map_map, List.map_map]
      rfl
    · obtain ⟨l, hl, rfl⟩ := List.mem_map.mp hk
      exact ⟨rfl, Lk.bd2 (sn.bd l hl)⟩
    obtain ⟨zs, z1, z2, z3⟩ := in_order sn.uniq sn.bd pm (by rw [List.pairwise_map]; exact st)
    have gr : Gr (Hop a b) zs := ⟨z3, fun l hl => sn.bd l (z2.mem_iff.mp hl), fun l => (z2.mem_iff).trans ((sn.iff l).trans (mx_congr (fun m => mem_hops) l))⟩
    have s3 := same_new hr2 (.lst (ys.map fun y => V.ref y.1))
    refine ⟨r, rfl, ⟨_, .inl (.inl upd_same)⟩, fun L hL => ?_⟩
    have zl : zs.length = ys.length := by have := congrArg List.length z1; rwa [List.length_map, List.length_map] at this
    refine lc_it (walk_list (xs := ys.map fun y => V.ref y.1)) (fun i H3 => ∃ us, H3 L = some (.lst us) ∧ LksAt H3 us (zs.take i) ∧ Same (upd H2 r (.lst (ys.map fun y => V.ref y.1))) H3)
      ⟨[], upd_same, trivial, same_new hL _⟩ (fun i H3 _ ⟨_, _, _, h⟩ => .inl (.inl (h _ _ upd_same))) ?_ ?_
    · rintro i x H0 H3 li ⟨us, h3, a3, s4⟩ ⟨rfl, hi⟩
      rw [List.length_map] at li
      rw [List.getElem?_map, List.getElem?_eq_getElem li] at hi
      obtain rfl : V.ref ys[i].1 = x := Option.some.inj hi
      have liz : i < zs.length := by omega
      have e2 : ys[i].2 = zs[i].pair := by
        have : (zs.map Lk.pair)[i]? = (ys.map (·.2))[i]? := by rw [z1]
        rw [List.getElem?_map, List.getElem?_map, List.getElem?_eq_getElem li, List.getElem?_eq_getElem liz] at this
        exact (Option.some.inj this).symm
      have hk0 : H2 ys[i].1 = some (.tup [V.int zs[i].p, V.int zs[i].q]) := by
        have := yk ys[i] (List.getElem_mem li)
        rw [e2] at this
        exact this
      have hk3 := s4 _ _ (s3 _ _ hk0)
      have hD3 := s4 _ _ (s3 _ _ hD2)
      have mem : zs[i] ∈ ks := z2.mem_iff.mp (List.getElem_mem liz)
      have val : valV (kvsOf ks) [Sum.inl zs[i].p, Sum.inl zs[i].q] = some (.int zs[i].f) := by
        rcases val_kvs sn.uniq zs[i] with ⟨k, hk, e1, e3⟩ | ⟨n1, _⟩
        · rw [uniq_one sn.uniq hk mem e1] at e3
          exact e3
        · exact absurd rfl (n1 _ mem)
      refine ⟨rfl, ?_⟩
      unfold teJn
      refine ⟨_, rfl, _, rfl, _, rfl, D, V.int zs[i].f, rfl, ?_, one, fun c hc => ?_⟩
      · rw [← val]
        exact DGet.t (k := [Sum.inl zs[i].p, Sum.inl zs[i].q]) hD3 hk3
      have sc := same_new hc (.tup [V.int zs[i].f])
      refine ⟨_, c, _, _, rfl, rfl, .inl (.inl (sc _ _ hk3)), .inl (.inl upd_same), by simp, (by decide : 3 ≤ sizeLine), fun no => absurd no (by simp), fun _ n hn => ?_⟩
      have sn' := sc.trans (same_new hn (.tup ([V.int zs[i].p, V.int zs[i].q] ++ [V.int zs[i].f])))
      have nL : n ≠ L := (ne_of_none (sc _ _ h3) hn).symm
      have few := seen_few sn
      have ul : us.length ≤ zs.length := by rw [a3.len, List.length_take]; omega
      have kl := z2.length_eq
      refine ⟨us, sn' _ _ h3, by omega, us ++ [V.ref n], upd_same, ?_, fun c o z => ?_⟩
      · rw [List.take_succ, List.getElem?_eq_getElem liz]
        have keep : ∀ a zs', H3 a = some (.tup zs') → (upd (upd (upd H3 c (.tup [V.int zs[i].f])) n (.tup ([V.int zs[i].p, V.int zs[i].q] ++ [V.int zs[i].f]))) L (.lst (us ++ [V.ref n]))) a = some (.tup zs') := fun a zs' z => by
          rw [upd_ne (ne_of z h3 (by intro e; cases e))]
          exact sn' _ _ z
        exact LksAt.snoc ⟨n, rfl, by rw [upd_ne nL]; exact upd_same⟩ (a3.mono keep)
      · rw [upd_ne (ne_of_none z hL)]
        exact sn' _ _ (s4 _ _ z)
    · rintro H3 ⟨us, h3, a3, s4⟩
      rw [List.length_map, ← zl, List.take_length] at a3
      exact q L us zs H3 (s2.free (s3.free hL)) h3 a3 gr (s2.trans (s3.trans s4))
end
end Rp

namespace Rp
open PySem L2
structure Drawn (n i k : Int) (ls : List Lk) : Prop where
  rise : Rise ls
  bd : AllBd ls
  below : ∀ l ∈ ls, l.p < n ∧ l.q < n ∧ (l.p < i ∨ (l.p = i ∧ l.q < k))
theorem Drawn.row {n i : Int} {ls : List Lk} (h : Drawn n i n ls) : Drawn n (i + 1) 0 ls := ⟨h.rise, h.bd, fun l hl => by obtain ⟨h1, h2, h3⟩ := h.below l hl; exact ⟨h1, h2, by omega⟩⟩
theorem Drawn.skip {n i k : Int} {ls : List Lk} (h : Drawn n i k ls) : Drawn n i (k + 1) ls := ⟨h.rise, h.bd, fun l hl => by obtain ⟨h1, h2, h3⟩ := h.below l hl; exact ⟨h1, h2, by omega⟩⟩
theorem Drawn.add {n i k : Int} {ls : List Lk} (h : Drawn n i k ls) (hn : n ≤ 6) (i0 : 0 ≤ i) (i1 : i < n) (k0 : 0 ≤ k) (k1 : k < n) {f : Int} (f0 : 0 ≤ f) (f1 : f < 2) : Drawn n i (k + 1) (ls ++ [⟨i, k, f⟩]) := by
  refine ⟨?_, fun l hl => ?_, fun l hl => ?_⟩
  · unfold Rise
    rw [List.pairwise_append]
    refine ⟨h.rise, List.pairwise_singleton _ _, fun x hx y hy => ?_⟩
    obtain rfl : y = ⟨i, k, f⟩ := by simpa using hy
    obtain ⟨h1, h2, h3⟩ := h.below x hx
    have b := h.bd x hx
    have := b.q0
    show x.p * 64 + x.q < i * 64 + k
    omega
  · rcases List.mem_append.mp hl with hl | hl
    · exact h.bd l hl
    · obtain rfl : l = ⟨i, k, f⟩ := by simpa using hl
      exact ⟨i0, by show i < 8; omega, k0, by show k < 8; omega, f0, by show f < 8; omega⟩
  · rcases List.mem_append.mp hl with hl | hl
    · obtain ⟨h1, h2, h3⟩ := h.below l hl
      exact ⟨h1, h2, by omega⟩
    · obtain rfl : l = ⟨i, k, f⟩ := by simpa using hl
      exact ⟨i1, k1, .inr ⟨rfl, by show k < k + 1; omega⟩⟩
def spSome : Sp := fun vs H Q _ => ∃ (b : Addr) (n : Int) (j : Nat), vs = [.ref b, .int n] ∧ BoxAt H b j ∧ 0 ≤ n ∧ n ≤ 6 ∧ j + 80 ≤ 1000000 ∧
  ∀ (r : Addr) (xs : List V) (ls : List Lk) (H' : Hp), H r = none → H' r = some (.lst xs) → LksAt H' xs ls → Rise ls → AllBd ls → (∀ l ∈ ls, l.p < n ∧ l.q < n) → BoxAt H' b (j + 80) → But b H H' → Q (.ref r) H'
section
variable {P : Program} {w : World} {K : PySem.W.Frag} {mg : Str → Option Value} {base : Heap}
theorem scSome : FnScope ["_law_box_here", "_law_places", "_law_found", "_law_odds", "_law_place", "_law_other"] ["_law_box_here", "_law_places"] (defScope sSome) := ⟨rfl, rfl, rfl, by decide +kernel, rfl, by decide +kernel, by decide +kernel⟩
theorem BoxAt.upd {H : Hp} {b c : Addr} {j : Nat} (B : BoxAt H b j) (n : c ≠ b) (o : HO) : BoxAt (upd H c o) b j := by
  obtain ⟨x, y, z, h, r⟩ := B.ex
  exact ⟨x, y, z, by rw [upd_ne n.symm]; exact h, r⟩
theorem LksAt.but {H H' : Hp} {b : Addr} {j : Nat} (e : But b H H') (B : BoxAt H b j) {xs : List V} {ls : List Lk} (h : LksAt H xs ls) : LksAt H' xs ls := by
  obtain ⟨y, hb⟩ := B.some
  exact h.mono fun a zs z => e a _ z (ne_of z hb (by intro q; cases q))
theorem but_free {H H' : Hp} {b c : Addr} {j : Nat} (e : But b H H') (B : BoxAt H' b j) (h : H' c = none) : H c = none := by
  obtain ⟨y, hb⟩ := B.some
  cases q : H c with
  | none => rfl
  | some o =>
    by_cases z : c = b
    · subst z; rw [hb] at h; cases h
    · rw [e c o q z] at h; cases h
theorem ok_some {f fT : Addr} {fd fdT : FuncData} (F : Fun K "_law_some_links" "_law_some_links" sSome f fd) (GT : FnOk P w K mg base CX0 1 fT fdT ["_law_box_here", "_law_reach"] spTake) (kT : PySem.W.keepIn K (.ref fT) = true) (bT : Binds K fdT ["_law_box_here", "_law_reach"] []) (mT : mg "_law_take" = some (.ref fT))
    (mRange : mg "range" = none) : FnOk P w K mg base CX0 2 f fd ["_law_box_here", "_law_places"] spSome := by
  refine F.ok scSome (fun vs H Q E h => ?_) (fun cdv A outer s H vs Q E hr h => ?_)
  · obtain ⟨b, n, j, rfl, _⟩ := h
    rfl
  obtain ⟨b, n, j, rfl, B, n0, n6, hj, q⟩ := h
  refine ⟨_, pss_cons (ps_par (i := 2) (j := 3) rfl scSome.nd rfl rfl (by decide) rfl rfl (pa_cons (pe_lst pa_nil) (pa_cons (pe_op op_add pe_int (pe_call GT hr (by rfl) mT kT bT .nil pass0 (pa_cons (pv 0) (pa_cons pe_int pa_nil)))) pa_nil)) (by rfl))
    (pss_cons (ps_for PassesOwn.never rfl (pi_range1 (by rfl) mRange (pa_cons (pv 1) pa_nil)) (pg_name (i := 4) scSome.nd rfl (Or.inl rfl))
      (pss_one (ps_for PassesOwn.never rfl (pi_range1 (by rfl) mRange (pa_cons (pv 1) pa_nil)) (pg_name (i := 5) scSome.nd rfl (Or.inl rfl))
        (pss_one (ps_if (pt_cmpR op_eq (pe_call GT hr (by rfl) mT kT bT .nil pass0 (pa_cons (pv 0) (pa_cons (pe_op op_add (pv 3) pe_int) pa_nil))) pe_int (nomark _))
          (pss_one (ps_expr (pe_bm PySem.F.plainAttrs_list PySem.F.slot_list_append PySem.F.type_list_append mt_append (pv 2) (pa_cons (pe_tup (pa_cons (pv 4) (pa_cons (pv 5) (pa_cons (pe_call GT hr (by rfl) mT kT bT .nil pass0 (pa_cons (pv 0) (pa_cons pe_int pa_nil))) pa_nil)))) pa_nil)))) pss_nil)))))
    (pss_one (ps_ret (pv 2)))), ?_⟩
  obtain ⟨y0, hb0⟩ := B.some
  have three : (3 : Nat) ≤ sizeLine := by decide
  have big : (600 : Nat) ≤ sizeLine := by decide
  refine ⟨(by show 0 ≤ sizeLine; decide), fun D hD => ?_⟩
  have s1 := same_new hD (.lst [])
  have Db : D ≠ b := (ne_of_none hb0 hD).symm
  refine ⟨_, rfl, b, _, j, rfl, B.same s1, by omega, by decide, by decide, fun o H3 o0 o4 B3 e3 => ?_⟩
  have hD3 := e3 _ _ upd_same Db
  refine ⟨_, _, rfl, rfl, _, _, rfl, ?_⟩
  have nn : ((n.toNat : Nat) : Int) = n := by omega
  refine ⟨_, rfl, n, rfl, by omega, by omega, for_it walk_range (fun i σ H2 => ∃ (us : List V) (ls : List Lk) (c4 c5 : Option V), σ = [some (.ref b), some (.int n), some (.ref D), some (.int (1 + o)), c4, c5] ∧ H2 D = some (.lst us) ∧ LksAt H2 us ls ∧ Drawn n i 0 ls ∧ BoxAt H2 b (j + 1 + 12 * i) ∧ But b H H2)
    ⟨[], [], none, none, rfl, hD3, trivial, ⟨List.Pairwise.nil, (fun l h => nomatch h), (fun l h => nomatch h)⟩, B3, (but_of s1).trans e3⟩ (fun _ _ _ _ _ => trivial) ?_ ?_⟩
  · rintro i x σ H0 H2 li ⟨us, ls, c4, c5, rfl, hD2, a2, d2, B2, e2⟩ ⟨rfl, ex⟩
    obtain rfl : x = V.int (i : Nat) := ex.trans (congrArg V.int (Int.zero_add _))
    refine ⟨_, rfl, n, rfl, by omega, by omega, for_it walk_range (fun k σ H4 => ∃ (us : List V) (ls : List Lk) (c5 : Option V), σ = [some (.ref b), some (.int n), some (.ref D), some (.int (1 + o)), some (.int (i : Nat)), c5] ∧ H4 D = some (.lst us) ∧ LksAt H4 us ls ∧ Drawn n i k ls ∧ BoxAt H4 b (j + 1 + 12 * i + 2 * k) ∧ But b H H4)
      ⟨us, ls, c5, rfl, hD2, a2, d2, B2, e2⟩ (fun _ _ _ _ _ => trivial) ?_ ?_⟩
    · rintro k x σ H0 H4 lk ⟨us, ls, c5, rfl, hD4, a4, d4, B4, e4⟩ ⟨rfl, ex⟩
      obtain rfl : x = V.int (k : Nat) := ex.trans (congrArg V.int (Int.zero_add _))
      refine ⟨_, rfl, _, rfl, _, _, rfl, rfl, b, _, _, rfl, B4, by omega, by omega, by omega, fun z H5 z0 z1 B5 e5 => ?_⟩
      have a5 := a4.but e5 B4
      have hD5 := e5 _ _ hD4 Db
      refine ⟨rfl, _, rfl, ?_⟩
      refine ite2 (fun c => ?_) (fun c => ?_)
      · refine ⟨_, rfl, .inl ⟨rfl, us, .inl (.inl hD5)⟩, ?_⟩
        refine ⟨_, rfl, _, rfl, _, rfl, b, _, _, rfl, B5, by omega, by decide, by decide, fun f H6 f0 f2 B6 e6 => ?_⟩
        have a6 := a5.but e6 B5
        have hD6 := e6 _ _ hD5 Db
        refine ⟨three, fun t ht => ?_⟩
        have st := same_new ht (.tup [V.int (i : Nat), V.int (k : Nat), V.int f])
        have d6 := d4.add n6 (by omega) (by omega) (by omega) (by omega) f0 f2
        have few := rise_few d4.rise d4.bd
        have al := a6.len
        have tD : t ≠ D := (ne_of_none hD6 ht).symm
        refine ⟨D, us, _, rfl, rfl, st _ _ hD6, by omega, us ++ [.ref t], _, _, rfl, upd_same, ?_, d6, ?_, ?_⟩
        · refine LksAt.snoc ⟨t, rfl, by rw [upd_ne tD]; exact upd_same⟩ (a6.mono fun a zs z => ?_)
          rw [upd_ne (ne_of z hD6 (by intro e; cases e))]
          exact st _ _ z
        · exact ((B6.same st).upd Db _).more (by omega)
        · intro c o z nb
          rw [upd_ne (ne_of_none z hD)]
          exact st _ _ (e6 _ _ (e5 _ _ (e4 _ _ z nb) nb) nb)
      · exact ⟨us, ls, _, rfl, hD5, a5, d4.skip, B5.more (by omega), e4.trans e5⟩
    · rintro σ H4 ⟨us, ls, c5, rfl, hD4, a4, d4, B4, e4⟩
      rw [nn] at d4
      have row := d4.row
      exact ⟨us, ls, _, _, rfl, hD4, a4, by have e : ((i + 1 : Nat) : Int) = (i : Int) + 1 := by omega
                                            rw [e]; exact row, B4.more (by omega), e4⟩
  · rintro σ H2 ⟨us, ls, c4, c5, rfl, hD2, a2, d2, B2, e2⟩
    refine ⟨_, rfl, q D us ls H2 hD hD2 a2 d2.rise d2.bd (fun l hl => ⟨(d2.below l hl).1, (d2.below l hl).2.1⟩) (B2.more (by omega)) e2⟩
end
end Rp

/-! Data that repr shows: how large it is. -/
namespace Rp
open PySem PySem.Spec PyProof.Rows L2
structure Gd (n k : Nat) (d : PyData) : Prop where
  lay : d.canLay0 = true
  sh : d.showable = true
  is : d.intsShort 13 = true
  nd : d.hasDict = false
  wt : d.weight + 1 ≤ n
  dp : d.depth ≤ k
structure GdA (n k : Nat) (d : List PyData) : Prop where
  lay : PyData.canLayAll0 d = true
  sh : PyData.showableAll d = true
  is : PyData.intsShortAll 13 d = true
  nd : PyData.hasDictAll d = false
  wt : PyData.weightAll d ≤ n
  dp : PyData.depthAll d ≤ k
theorem Gd.more {n k n' k' : Nat} {d : PyData} (h : Gd n k d) (hn : n ≤ n') (hk : k ≤ k') : Gd n' k' d := ⟨h.lay, h.sh, h.is, h.nd, Nat.le_trans h.wt hn, Nat.le_trans h.dp hk⟩
theorem GdA.more {n k n' k' : Nat} {d : List PyData} (h : GdA n k d) (hn : n ≤ n') (hk : k ≤ k') : GdA n' k' d := ⟨h.lay, h.sh, h.is, h.nd, Nat.le_trans h.wt hn, Nat.le_trans h.dp hk⟩
theorem gda_nil (k : Nat) : GdA 0 k [] := ⟨rfl, rfl, rfl, rfl, by decide, by simp [PyData.depthAll]⟩
theorem GdA.cons {n m k : Nat} {d : PyData} {ds : List PyData} (h : Gd n k d) (h' : GdA m k ds) : GdA (n + m) k (d :: ds) := by
  refine ⟨?_, ?_, ?_, ?_, ?_, ?_⟩
  · simp only [PyData.canLayAll0, h.lay, h'.lay]; rfl
  · simp only [PyData.showableAll, h.sh, h'.sh]; rfl
  · simp only [PyData.intsShortAll, h.is, h'.is]; rfl
  · simp only [PyData.hasDictAll, h.nd, h'.nd]; rfl
  · have := h.wt; have := h'.wt; simp only [PyData.weightAll]; omega
  · have := h.dp; have := h'.dp; simp only [PyData.depthAll]; omega
theorem GdA.tup {n k : Nat} {ds : List PyData} (h : GdA n k ds) : Gd (n + 1) (k + 1) (.tuple ds) := by
  refine ⟨?_, ?_, ?_, ?_, ?_, ?_⟩
  · simp only [PyData.canLay0, h.lay]
  · simp only [PyData.showable, h.sh]
  · simp only [PyData.intsShort, h.is]
  · simp only [PyData.hasDict, h.nd]
  · have := h.wt; simp only [PyData.weight]; omega
  · have := h.dp; simp only [PyData.depth]; omega
theorem gda_map {α : Type} {f : α → PyData} {n k : Nat} : ∀ {l : List α}, (∀ x ∈ l, Gd n k (f x)) → GdA (n * l.length) k (l.map f)
  | [], _ => gda_nil k
  | x :: l, h => by
    have ih := gda_map (l := l) fun y hy => h y (by simp [hy])
    refine ((h x (by simp)).more (Nat.le_refl _) (Nat.le_refl _) |> fun a => GdA.cons a ih).more ?_ (Nat.le_refl _)
    rw [List.length_cons, Nat.mul_add]; omega
theorem gd_int {i : Int} (h : i.natAbs ≤ 9999999999) : Gd 36 1 (.int i) := by
  have lg : i.natAbs.log2 ≤ 34 := by
    by_cases h0 : i.natAbs = 0
    · rw [h0]; decide
    · exact Nat.le_of_lt_succ ((Nat.log2_lt h0).mpr (by omega))
  refine ⟨rfl, ?_, ?_, rfl, ?_, by simp [PyData.depth]⟩
  · simp only [PyData.showable, decide_eq_true_eq]; omega
  · simp only [PyData.intsShort, decide_eq_true_eq]; exact PyData.shown_int_le (by omega)
  · simp only [PyData.weight]; split <;> omega
theorem GdA.lst {n k : Nat} {ds : List PyData} (h : GdA n k ds) : Gd (n + 1) (k + 1) (.list ds) := by
  refine ⟨?_, ?_, ?_, ?_, ?_, ?_⟩
  · simp only [PyData.canLay0, h.lay]
  · simp only [PyData.showable, h.sh]
  · simp only [PyData.intsShort, h.is]
  · simp only [PyData.hasDict, h.nd]
  · have := h.wt; simp only [PyData.weight]; omega
  · have := h.dp; simp only [PyData.depth]; omega
theorem Gd.shown {n k : Nat} {d : PyData} (g : Gd n k d) (hn : n ≤ 1000000) (hk : k ≤ 64) : d.showable = true ∧ d.hasDict = false ∧ d.depth ≤ 64 ∧ d.shown.length ≤ sizeLine := by
  have w := g.wt
  have k := g.dp
  refine ⟨g.sh, g.nd, by omega, Nat.le_trans (shown_le13 ?_ g.is) (by decide)⟩
  unfold PyData.layable0
  rw [g.lay, decide_eq_true (by omega : d.depth ≤ 64), decide_eq_true (by omega : d.weight ≤ 2 ^ 20)]
  rfl
end Rp

set_option maxHeartbeats 8000000
namespace Rp
open PySem PySem.Spec PyProof.Rows L2
theorem alike_links {H : Hp} {a b : Addr} {xs ys : List V} {ls : List Lk} (n : Nat) (ha : H a = some (.lst xs)) (hb : H b = some (.lst ys)) (A : LksAt H xs ls) (B : LksAt H ys ls) (few : ls.length ≤ 1000000) : Alike H (n + 2) (.ref a) (.ref b) := by
  unfold Alike
  refine .inr ⟨a, b, xs, ys, rfl, rfl, .inl ⟨ha, hb⟩, A.len.trans B.len.symm, by rw [A.len]; exact few, fun i u v hu hv => ?_⟩
  obtain ⟨l, hl, t, rfl, ht⟩ := A.get hu
  obtain ⟨m, hm, s, rfl, hs⟩ := B.get hv
  obtain rfl : l = m := Option.some.inj (hl.symm.trans hm)
  unfold Alike
  refine .inr ⟨t, s, l.vals, l.vals, rfl, rfl, .inr ⟨ht, hs⟩, rfl, (by show 3 ≤ 1000000; decide), fun i u v hu hv => ?_⟩
  obtain rfl : u = v := Option.some.inj (hu.symm.trans hv)
  have p : Plain u := by
    have : u ∈ l.vals := List.mem_of_getElem? hu
    unfold Lk.vals at this
    simp only [List.mem_cons, List.not_mem_nil, or_false] at this
    rcases this with rfl | rfl | rfl <;> trivial
  cases n with
  | zero => unfold Alike; exact ⟨p, rfl⟩
  | succ n => unfold Alike; exact .inl ⟨p, rfl⟩
theorem alike_two {H : Hp} {a b : Addr} {x1 x2 y1 y2 : V} (n : Nat) (ha : H a = some (.lst [x1, x2])) (hb : H b = some (.lst [y1, y2])) (h1 : Alike H n x1 y1) (h2 : Alike H n x2 y2) : Alike H (n + 1) (.ref a) (.ref b) := by
  unfold Alike
  refine .inr ⟨a, b, _, _, rfl, rfl, .inl ⟨ha, hb⟩, rfl, (by show 2 ≤ 1000000; decide), fun i u v hu hv => ?_⟩
  match i with
  | 0 => simp at hu hv; subst hu hv; exact h1
  | 1 => simp at hu hv; subst hu hv; exact h2
  | i + 2 => simp at hu
def lkD (l : Lk) : PyData := .tuple [.int l.p, .int l.q, .int l.f]
def lksD (ls : List Lk) : PyData := .list (ls.map lkD)
theorem lk_dp {K : PySem.W.Frag} {H : Hp} {x : V} {l : Lk} (h : LkAt H x l) : Dp K H x (lkD l) := by
  obtain ⟨t, rfl, ht⟩ := h
  exact .tup (.inl (.inl ht)) (.cons (.int _) (.cons (.int _) (.cons (.int _) .nil)))
theorem lks_dpa {K : PySem.W.Frag} {H : Hp} : ∀ {xs : List V} {ls : List Lk}, LksAt H xs ls → DpAll K H xs (ls.map lkD)
  | [], [], _ => .nil
  | _ :: _, _ :: _, h => .cons (lk_dp h.1) (lks_dpa h.2)
theorem lks_dp {K : PySem.W.Frag} {H : Hp} {a : Addr} {xs : List V} {ls : List Lk} (ha : H a = some (.lst xs)) (h : LksAt H xs ls) : Dp K H (.ref a) (lksD ls) := .lst (.inl (.inl ha)) (lks_dpa h)
theorem gd_lks {ls : List Lk} (hb : AllBd ls) (few : ls.length ≤ 512) : Gd 60000 3 (lksD ls) := by
  have h : GdA (109 * ls.length) 2 (ls.map lkD) := gda_map fun l hl => by
    obtain ⟨a1, a2, a3, a4, a5, a6⟩ := hb l hl
    exact (GdA.cons (gd_int (i := l.p) (by omega)) (GdA.cons (gd_int (i := l.q) (by omega)) (GdA.cons (gd_int (i := l.f) (by omega)) (gda_nil 1)))).tup.more (by decide) (by decide)
  exact h.lst.more (by omega) (by decide)
/-- a list of links that was drawn -/
structure Lst (H : Hp) (n : Int) (a : Addr) (ls : List Lk) : Prop where
  ex : ∃ xs, H a = some (.lst xs) ∧ LksAt H xs ls
  rise : Rise ls
  bd : AllBd ls
  below : ∀ l ∈ ls, l.p < n ∧ l.q < n
theorem Lst.same {H H' : Hp} {n : Int} {a : Addr} {ls : List Lk} (h : Lst H n a ls) (e : Same H H') : Lst H' n a ls := by
  obtain ⟨⟨xs, h1, h2⟩, h3, h4, h5⟩ := h
  exact ⟨⟨xs, e _ _ h1, h2.same e⟩, h3, h4, h5⟩
theorem Lst.but {H H' : Hp} {n : Int} {a c : Addr} {ls : List Lk} (h : Lst H n a ls) (o : But c H H') (ne : a ≠ c) (kt : ∀ a zs, H a = some (.tup zs) → H' a = some (.tup zs)) : Lst H' n a ls := by
  obtain ⟨⟨xs, h1, h2⟩, h3, h4, h5⟩ := h
  exact ⟨⟨xs, o _ _ h1 ne, h2.mono kt⟩, h3, h4, h5⟩
theorem Lst.few {H : Hp} {n : Int} {a : Addr} {ls : List Lk} (h : Lst H n a ls) : ls.length ≤ 512 := rise_few h.rise h.bd
theorem Lst.links {H : Hp} {n : Int} {a : Addr} {ls : List Lk} (h : Lst H n a ls) : LinksAt H (.ref a) ls := let ⟨xs, h1, h2⟩ := h.ex; ⟨a, xs, _, rfl, .inl rfl, h1, h2⟩
theorem links_lst {H : Hp} {a : Addr} {xs : List V} {ls : List Lk} (h1 : H a = some (.lst xs)) (h2 : LksAt H xs ls) : LinksAt H (.ref a) ls := ⟨a, xs, _, rfl, .inl rfl, h1, h2⟩
theorem stays_rise (n : Nat) : Rise (stays n) := by
  unfold Rise stays
  rw [List.pairwise_map]
  refine List.Pairwise.imp (fun {x y} h => ?_) (List.pairwise_lt_range (n := n))
  show ((x : Nat) : Int) * 64 + (x : Nat) < ((y : Nat) : Int) * 64 + (y : Nat)
  omega
theorem stays_bd {n : Nat} (h : n ≤ 6) : AllBd (stays n) := fun l hl => by
  obtain ⟨h1, h2, h3, h4⟩ := stays_mem.mp hl
  exact ⟨h1, by omega, by omega, by omega, by omega, by omega⟩
theorem stays_get {n i : Nat} (h : i < n) : (stays n)[i]? = some ⟨(i : Nat), (i : Nat), 0⟩ := by
  unfold stays
  rw [List.getElem?_map, List.getElem?_range h]
  rfl
end Rp

set_option maxHeartbeats 16000000
namespace Rp
open PySem PySem.Spec PyProof.Rows L2
theorem hu66 {A : Around} {k : Nat} (hr : Room k A) : A.units + 66 < cLine := by have := hr.un; omega
def spRight : Sp := fun vs H Q _ => ∃ (b : Addr) (j : Nat), vs = [.ref b] ∧ BoxAt H b j ∧ j + 250 ≤ 1000000 ∧ ∀ H', BoxAt H' b (j + 250) → But b H H' → Q (.bl true) H'
section
variable {P : Program} {w : World} {K : PySem.W.Frag} {mg : Str → Option Value} {base : Heap}
abbrev NR : List Str := ["_law_box_here", "_law_places", "_law_one", "_law_two", "_law_three", "_law_stay", "_law_ahead", "_law_due", "_law_found", "_law_turn", "_law_place"]
theorem scRight : FnScope NR ["_law_box_here"] (defScope sRight) := ⟨rfl, rfl, rfl, by decide +kernel, rfl, by decide +kernel, by decide +kernel⟩
def teStay : TE := tTup (tCons (tVar 10) (tCons (tVar 10) (tCons (tC (.int 0)) tNil)))
theorem ok_right {f fT fSo fJ fTo fS : Addr} {fd dT dSo dJ dTo dS : FuncData} (F : Fun K "_law_right" "_law_right" sRight f fd)
    (GT : FnOk P w K mg base CX0 1 fT dT ["_law_box_here", "_law_reach"] spTake) (kT : PySem.W.keepIn K (.ref fT) = true) (bT : Binds K dT ["_law_box_here", "_law_reach"] []) (mT : mg "_law_take" = some (.ref fT))
    (GSo : FnOk P w K mg base CX0 2 fSo dSo ["_law_box_here", "_law_places"] spSome) (kSo : PySem.W.keepIn K (.ref fSo) = true) (bSo : Binds K dSo ["_law_box_here", "_law_places"] []) (mSo : mg "_law_some_links" = some (.ref fSo))
    (GJ : FnOk P w K mg base CX0 1 fJ dJ ["_law_links", "_law_others"] spJoined) (kJ : PySem.W.keepIn K (.ref fJ) = true) (bJ : Binds K dJ ["_law_links", "_law_others"] []) (mJ : mg "_law_joined" = some (.ref fJ))
    (GTo : FnOk P w K mg base CX0 2 fTo dTo ["links", "others"] spTogether) (kTo : PySem.W.keepIn K (.ref fTo) = true) (bTo : Binds K dTo ["links", "others"] []) (mTo : mg "together" = some (.ref fTo))
    (GS : FnOk P w K mg base CX0 5 fS dS ["_law_found", "_law_due"] (spSame 5)) (kS : PySem.W.keepIn K (.ref fS) = true) (bS : Binds K dS ["_law_found", "_law_due"] []) (mS : mg "_law_same" = some (.ref fS))
    (mRange : mg "range" = none) (mRepr : mg "repr" = none) (mTuple : mg "tuple" = none) : GnOk P w K mg base 6 f fd ["_law_box_here"] spRight := by
  refine gok F scRight (fun vs H Q E h => ?_) (fun cdv A outer s H vs Q E hg hr h => ?_)
  · obtain ⟨b, j, rfl, _⟩ := h
    rfl
  obtain ⟨b, j, rfl, B, hj, q⟩ := h
  have r1 : Room 1 _ := hr.mono (by decide)
  have r2 : Room 2 _ := hr.mono (by decide)
  refine ⟨_, (pss_cons (ps_set (i := 1) scRight.nd rfl (Or.inr rfl) (pe_call GT r1 (by rfl) mT kT bT .nil pass0 (pa_cons (pv 0) (pa_cons pe_int pa_nil))))
    (pss_cons (ps_asg (pe_lc (own := [("_law_turn", 9)]) (g := gName 9) (tt := tYes) (te := tCall spSome [] E0 (tCons (tVar 0) (tCons (tVar 1) tNil))) rfl scRight.nd (pi_range1 (by rfl) mRange (pa_cons pe_int pa_nil)) (blkOk_by (N := NR) (sc := defScope sRight) (by decide +kernel)) (fun _ _ _ _ _ => (pg_name (i := 9) scRight.nd rfl (Or.inl rfl))) (fun _ _ _ _ _ => pts_nil) (fun _ _ _ _ _ => (pe_call GSo r2 (by rfl) mSo kSo bSo .nil pass0 (pa_cons (pv 0) (pa_cons (pv 1) pa_nil))))) (pg_lst rfl (pgs_cons (pg_name (i := 2) scRight.nd rfl (Or.inl rfl)) (pgs_cons (pg_name (i := 3) scRight.nd rfl (Or.inl rfl)) (pgs_cons (pg_name (i := 4) scRight.nd rfl (Or.inl rfl)) pgs_nil)))))
    (pss_cons (ps_par (i := 5) (j := 6) rfl scRight.nd rfl rfl (by decide) rfl rfl (pa_cons (pe_lc (own := [("_law_place", 10)]) (g := gName 10) (tt := tYes) (te := teStay) rfl scRight.nd (pi_range1 (by rfl) mRange (pa_cons (pv 1) pa_nil)) (blkOk_by (N := NR) (sc := defScope sRight) (by decide +kernel)) (fun _ _ _ _ _ => (pg_name (i := 10) scRight.nd rfl (Or.inl rfl))) (fun _ _ _ _ _ => pts_nil) (fun _ _ _ _ _ => (pe_tup (pa_cons (pv 10) (pa_cons (pv 10) (pa_cons pe_int pa_nil)))))) (pa_cons (pe_callB (cr_reprD hg (hu66 hr)) (by rfl) mRepr (by decide +kernel) (pa_cons (pe_lst (pa_cons (pv 2) (pa_cons (pv 3) (pa_cons (pv 4) pa_nil)))) pa_nil)) pa_nil)) (by rfl))
    (pss_cons (ps_set (i := 7) scRight.nd rfl (Or.inl rfl) (pe_call GJ r1 (by rfl) mJ kJ bJ .nil pass0 (pa_cons (pv 2) (pa_cons (pv 3) pa_nil))))
    (pss_cons (ps_set (i := 8) scRight.nd rfl (Or.inl rfl) (pe_call GTo r2 (by rfl) mTo kTo bTo .nil pass0 (pa_cons (pv 2) (pa_cons (pv 3) pa_nil))))
    (pss_cons (ps_if (PW.pt (pw_or (pt_not (pt_val (pe_call GS hr (by rfl) mS kS bS .nil pass0 (pa_cons (pv 8) (pa_cons (pv 7) pa_nil))))) (pw_or1 (pt_not (pt_val (pe_call GS hr (by rfl) mS kS bS .nil pass0 (pa_cons (pe_call GTo r2 (by rfl) mTo kTo bTo .nil pass0 (pa_cons (pe_callTy call_tuple_of (by rfl) mTuple (by decide +kernel) (pa_cons (pv 2) pa_nil)) (pa_cons (pe_callTy call_tuple_of (by rfl) mTuple (by decide +kernel) (pa_cons (pv 3) pa_nil)) pa_nil))) (pa_cons (pv 7) pa_nil)))))))) (pss_one (ps_ret pe_bl)) pss_nil)
    (pss_cons (ps_expr (pe_bm PySem.F.plainAttrs_list PySem.F.slot_list_append PySem.F.type_list_append mt_append (pv 8) (pa_cons pe_str pa_nil)))
    (pss_cons (ps_expr (pe_bm0 PySem.F.plainAttrs_list PySem.F.slot_list_reverse PySem.F.type_list_reverse mt_reverse (pv 8)))
    (pss_cons (ps_if (pt_not (pt_val (pe_call GS hr (by rfl) mS kS bS .nil pass0 (pa_cons (pe_lst (pa_cons (pe_call GTo r2 (by rfl) mTo kTo bTo .nil pass0 (pa_cons (pv 2) (pa_cons (pv 3) pa_nil))) (pa_cons (pe_call GTo r2 (by rfl) mTo kTo bTo .nil pass0 (pa_cons (pv 3) (pa_cons (pv 2) pa_nil))) pa_nil))) (pa_cons (pe_lst (pa_cons (pv 7) (pa_cons (pe_call GJ r1 (by rfl) mJ kJ bJ .nil pass0 (pa_cons (pv 3) (pa_cons (pv 2) pa_nil))) pa_nil))) pa_nil))))) (pss_one (ps_ret pe_bl)) pss_nil)
    (pss_cons (ps_if (pt_not (pt_val (pe_call GS hr (by rfl) mS kS bS .nil pass0 (pa_cons (pe_call GTo r2 (by rfl) mTo kTo bTo .nil pass0 (pa_cons (pe_call GTo r2 (by rfl) mTo kTo bTo .nil pass0 (pa_cons (pv 2) (pa_cons (pv 3) pa_nil))) (pa_cons (pv 4) pa_nil))) (pa_cons (pe_call GTo r2 (by rfl) mTo kTo bTo .nil pass0 (pa_cons (pv 2) (pa_cons (pe_call GTo r2 (by rfl) mTo kTo bTo .nil pass0 (pa_cons (pv 3) (pa_cons (pv 4) pa_nil))) pa_nil))) pa_nil))))) (pss_one (ps_ret pe_bl)) pss_nil)
    (pss_cons (ps_if (pt_not (pt_val (pe_call GS hr (by rfl) mS kS bS .nil pass0 (pa_cons (pe_lst (pa_cons (pe_call GTo r2 (by rfl) mTo kTo bTo .nil pass0 (pa_cons (pv 5) (pa_cons (pv 2) pa_nil))) (pa_cons (pe_call GTo r2 (by rfl) mTo kTo bTo .nil pass0 (pa_cons (pv 2) (pa_cons (pv 5) pa_nil))) pa_nil))) (pa_cons (pe_lst (pa_cons (pv 2) (pa_cons (pv 2) pa_nil))) pa_nil))))) (pss_one (ps_ret pe_bl)) pss_nil)
    (pss_one (ps_ret (pe_and (pe_call GS hr (by rfl) mS kS bS .nil pass0 (pa_cons (pe_lst (pa_cons (pe_call GTo r2 (by rfl) mTo kTo bTo .nil pass0 (pa_cons (pv 2) (pa_cons (pe_lst pa_nil) pa_nil))) (pa_cons (pe_call GTo r2 (by rfl) mTo kTo bTo .nil pass0 (pa_cons (pe_lst pa_nil) (pa_cons (pv 2) pa_nil))) pa_nil))) (pa_cons (pe_lst (pa_cons (pe_lst pa_nil) (pa_cons (pe_lst pa_nil) pa_nil))) pa_nil))) (pe_one (pe_cmpR op_eq (pe_callB (cr_reprD hg (hu66 hr)) (by rfl) mRepr (by decide +kernel) (pa_cons (pe_lst (pa_cons (pv 2) (pa_cons (pv 3) (pa_cons (pv 4) pa_nil)))) pa_nil)) (pv 6) (nomark _))))))))))))))))), ?_⟩
  obtain ⟨y0, hb0⟩ := B.some
  have two : (2 : Nat) ≤ sizeLine := by decide
  have three : (3 : Nat) ≤ sizeLine := by decide
  have big : (600 : Nat) ≤ sizeLine := by decide
  refine ⟨_, rfl, b, _, j, rfl, B, by omega, by decide, by decide, fun n H1 n0 n7 B1 o1 => ?_⟩
  -- three lists are drawn
  refine ⟨3, rfl, by decide, by decide, fun L hL => ?_⟩
  have Lb : L ≠ b := by
    obtain ⟨y1, hb1⟩ := B1.some
    exact (ne_of_none hb1 hL).symm
  have hL0 := but_free o1 B1 hL
  refine lc_it (walk_range (lo := 0) (n := 3)) (fun i H2 => ∃ as : List Addr, H2 L = some (.lst (as.map V.ref)) ∧ as.length = i ∧ (∀ a ∈ as, a ≠ L ∧ a ≠ b ∧ ∃ ls, Lst H2 n a ls) ∧ BoxAt H2 b (j + 1 + 80 * i) ∧ But b H1 H2)
    ⟨[], upd_same, rfl, (fun a h => nomatch h), B1.same (same_new hL _), but_of (same_new hL _)⟩ (fun _ _ _ _ => trivial) ?_ ?_
  · rintro i x H0 H2 li ⟨as, h2, al, aall, B2, o2⟩ ⟨rfl, ex⟩
    refine ⟨rfl, ?_⟩
    refine ⟨_, rfl, _, rfl, b, n, _, rfl, B2, n0, by omega, by omega, fun r xs ls H3 hr0 h3 A3 rise bd below B3 o3 => ?_⟩
    have rL : r ≠ L := (ne_of_none h2 hr0).symm
    have rb : r ≠ b := by
      obtain ⟨y2, hb2⟩ := B2.some
      exact (ne_of_none hb2 hr0).symm
    refine ⟨_, o3 _ _ h2 Lb, by rw [List.length_map]; omega, as ++ [r], by rw [upd_same, List.map_append]; rfl, by simp [al], fun a ha => ?_, (B3.upd Lb _).more (by omega), ?_⟩
    · have keep : ∀ c o, c ≠ L → H3 c = some o → (upd H3 L (.lst (as.map V.ref ++ [.ref r]))) c = some o := fun c o n z => by rw [upd_ne n]; exact z
      have hL3 := o3 _ _ h2 Lb
      have keepT : ∀ c zs, H3 c = some (.tup zs) → (upd H3 L (.lst (as.map V.ref ++ [.ref r]))) c = some (.tup zs) := fun c zs z => keep c _ (ne_of z hL3 (by intro e; cases e)) z
      rcases List.mem_append.mp ha with ha | ha
      · obtain ⟨n1, n2, ls', ⟨xs', e1, e2⟩, l2, l3, l4⟩ := aall a ha
        exact ⟨n1, n2, ls', ⟨xs', keep _ _ n1 (o3 _ _ e1 n2), (e2.but o3 B2).mono keepT⟩, l2, l3, l4⟩
      · obtain rfl : a = r := by simpa using ha
        exact ⟨rL, rb, ls, ⟨xs, keep _ _ rL h3, A3.mono keepT⟩, rise, bd, below⟩
    · intro c o z nb
      have z2 := o2 _ _ z nb
      rw [upd_ne (ne_of_none z hL)]
      exact o3 _ _ z2 nb
  rintro H2 ⟨as, h2, al, aall, B2, o2⟩
  obtain ⟨a1, a2, a3, rfl⟩ : ∃ a1 a2 a3, as = [a1, a2, a3] := by
    match as, al with
    | [a1, a2, a3], _ => exact ⟨a1, a2, a3, rfl⟩
  obtain ⟨_, _, l1, D1⟩ := aall a1 (by simp)
  obtain ⟨_, _, l2, D2⟩ := aall a2 (by simp)
  obtain ⟨_, _, l3, D3⟩ := aall a3 (by simp)
  refine ⟨L, _, rfl, .inl (.inl h2), rfl, _, _, rfl, _, _, rfl, _, _, rfl, rfl, ?_⟩
  have fr2 : But b H H2 := o1.trans o2
  clear aall o1 o2 B1
  -- each to itself
  obtain ⟨m, rfl⟩ := Int.eq_ofNat_of_zero_le n0
  refine ⟨_, rfl, _, rfl, by omega, by omega, fun S hS => ?_⟩
  refine lc_it (walk_range (lo := 0) (n := m)) (fun i H3 => ∃ us, H3 S = some (.lst us) ∧ LksAt H3 us ((stays m).take i) ∧ Same H2 H3)
    ⟨[], upd_same, trivial, same_new hS _⟩ (fun _ _ _ _ => trivial) ?_ ?_
  · rintro i x H0 H3 li ⟨us, h3, A3, s3⟩ ⟨rfl, ex⟩
    obtain rfl : x = V.int (i : Nat) := ex.trans (congrArg V.int (Int.zero_add _))
    refine ⟨rfl, ?_⟩
    unfold teStay
    refine ⟨_, rfl, _, rfl, three, fun t ht => ?_⟩
    have st := same_new ht (.tup [V.int (i : Nat), V.int (i : Nat), V.int 0])
    have tS : t ≠ S := (ne_of_none h3 ht).symm
    have ul := A3.len
    have sl : (stays m).length = m := by unfold stays; simp
    rw [List.length_take, sl] at ul
    refine ⟨us, st _ _ h3, by omega, us ++ [.ref t], upd_same, ?_, fun c o z => ?_⟩
    · rw [List.take_succ, stays_get li]
      refine LksAt.snoc ⟨t, rfl, by rw [upd_ne tS]; exact upd_same⟩ (A3.mono fun a zs z => ?_)
      rw [upd_ne (ne_of z h3 (by intro e; cases e))]
      exact st _ _ z
    · rw [upd_ne (ne_of_none z hS)]
      exact st _ _ (s3 _ _ z)
  rintro H3 ⟨us, h3, A3, s3⟩
  have sl : (stays m).length = m := by unfold stays; simp
  rw [List.take_of_length_le (Nat.le_of_eq sl)] at A3
  have sb : AllBd (stays m) := stays_bd (by omega)
  have sfew : (stays m).length ≤ 512 := by omega
  have D1 := D1.same s3
  have D2 := D2.same s3
  have D3 := D3.same s3
  have B3 := B2.same s3
  have fr3 : But b H H3 := fr2.trans (but_of s3)
  clear fr2 B2 h2 s3
  -- all three as a text
  refine ⟨_, rfl, _, rfl, _, rfl, three, fun l hl => ?_⟩
  have s4 := same_new hl (.lst [V.ref a1, V.ref a2, V.ref a3])
  have g3 : Gd 400000 10 (.list [lksD l1, lksD l2, lksD l3]) := ((GdA.cons (gd_lks D1.bd D1.few) (GdA.cons (gd_lks D2.bd D2.few) (GdA.cons (gd_lks D3.bd D3.few) (gda_nil 3)))).lst).more (by decide) (by decide)
  obtain ⟨sh1, sh2, sh3, sh4⟩ := g3.shown (by decide) (by decide)
  have dp : ∀ {H' : Hp} {l : Addr}, H' l = some (.lst [V.ref a1, V.ref a2, V.ref a3]) → Lst H' m a1 l1 → Lst H' m a2 l2 → Lst H' m a3 l3 → Dp K H' (.ref l) (.list [lksD l1, lksD l2, lksD l3]) := by
    intro H' l hl E1 E2 E3
    obtain ⟨x1, e1, f1⟩ := E1.ex
    obtain ⟨x2, e2, f2⟩ := E2.ex
    obtain ⟨x3, e3, f3⟩ := E3.ex
    exact .lst (.inl (.inl hl)) (.cons (lks_dp e1 f1) (.cons (lks_dp e2 f2) (.cons (lks_dp e3 f3) .nil)))
  refine ⟨_, _, rfl, dp upd_same (D1.same s4) (D2.same s4) (D3.same s4), sh1, sh2, sh3, sh4, ?_⟩
  refine ⟨_, _, rfl, ?_⟩
  have D1 := D1.same s4
  have D2 := D2.same s4
  have D3 := D3.same s4
  have B4 := B3.same s4
  have fr4 : But b H _ := fr3.trans (but_of s4)
  have h4 := s4 _ _ h3
  have A4 := A3.same s4
  generalize upd H3 l (.lst [V.ref a1, V.ref a2, V.ref a3]) = H4 at D1 D2 D3 B4 fr4 h4 A4 ⊢
  clear fr3 B3 h3 A3 s4
  -- due, found
  obtain ⟨x1, e1, f1⟩ := D1.ex
  obtain ⟨x2, e2, f2⟩ := D2.ex
  refine ⟨_, rfl, _, rfl, a1, a2, x1, x2, l1, l2, rfl, e1, f1, e2, f2, D1.bd, D2.bd, fun pd yd gd H5 _ hd Ld grd s5 => ?_⟩
  have D1 := D1.same s5
  have D2 := D2.same s5
  have D3 := D3.same s5
  have B5 := B4.same s5
  have fr5 : But b H _ := fr4.trans (but_of s5)
  have h5 := s5 _ _ h4
  have A5 := A4.same s5
  clear fr4 B4 h4 A4 s5 e1 f1 e2 f2
  refine ⟨_, rfl, _, rfl, _, _, l1, l2, rfl, D1.links, D2.links, D1.bd, D2.bd, D1.few, D2.few, fun pf yf gf H6 nf hf Lf grf s6 => ?_⟩
  obtain rfl : gf = gd := grf.one grd fun l => Iff.rfl
  have n_d : pd ≠ pf := ne_of_none hd nf
  have n_1 : a1 ≠ pf := let ⟨_, e, _⟩ := D1.ex; ne_of_none e nf
  have n_2 : a2 ≠ pf := let ⟨_, e, _⟩ := D2.ex; ne_of_none e nf
  have n_3 : a3 ≠ pf := let ⟨_, e, _⟩ := D3.ex; ne_of_none e nf
  have n_S : S ≠ pf := ne_of_none h5 nf
  have n_b : b ≠ pf := by
    obtain ⟨y, hb⟩ := B5.some
    exact ne_of_none hb nf
  have f_f : b ≠ pf → ∀ c o, H c = some o → c ≠ b → c ≠ pf := fun _ c o z nb => ne_of_none (fr5 _ _ z nb) nf
  have f_f := f_f n_b
  have D1 := D1.same s6
  have D2 := D2.same s6
  have D3 := D3.same s6
  have B6 := B5.same s6
  have fr6 : But b H _ := fr5.trans (but_of s6)
  have h6 := s6 _ _ h5
  have A6 := A5.same s6
  have hd := s6 _ _ hd
  have Ld := Ld.same s6
  have gfew := rise_few grf.rise grf.bd
  have yfl : yf.length ≤ 512 := by rw [Lf.len]; exact gfew
  clear fr5 B5 h5 A5 s6 nf
  refine ⟨_, rfl, _, rfl, _, _, 4, rfl, rfl, alike_links 2 hf hd Lf Ld (by omega), fun H7 s7 => ⟨true, rfl, iteF ?_⟩⟩
  have D1 := D1.same s7
  have D2 := D2.same s7
  have D3 := D3.same s7
  have B7 := B6.same s7
  have fr7 : But b H _ := fr6.trans (but_of s7)
  have h7 := s7 _ _ h6
  have A7 := A6.same s7
  have hd := s7 _ _ hd
  have Ld := Ld.same s7
  have hf := s7 _ _ hf
  clear fr6 B6 h6 A6 s7 Lf
  -- tuples
  obtain ⟨x1, e1, f1⟩ := D1.ex
  refine ⟨_, rfl, a1, x1, rfl, .inl ⟨.inl (.inl e1), fun t1 ht1 => ?_⟩⟩
  have s8 := same_new ht1 (.tup x1)
  obtain ⟨x2, e2, f2⟩ := D2.ex
  refine ⟨_, rfl, a2, x2, rfl, .inl ⟨.inl (.inl (s8 _ _ e2)), fun t2 ht2 => ?_⟩⟩
  have s9 := same_new ht2 (.tup x2)
  have s79 := s8.trans s9
  refine ⟨.ref t1, .ref t2, l1, l2, rfl, ⟨t1, x1, _, rfl, .inr rfl, s9 _ _ upd_same, f1.same s79⟩, ⟨t2, x2, _, rfl, .inr rfl, upd_same, f2.same s79⟩, D1.bd, D2.bd, D1.few, D2.few, fun pt yt gt H9 nt ht Lt grt s10 => ?_⟩
  obtain rfl : gt = gf := grt.one grf fun l => Iff.rfl
  have s7a := s79.trans s10
  refine ⟨_, rfl, _, _, 4, rfl, rfl, alike_links 2 ht (s7a _ _ hd) Lt (Ld.same s7a) (by omega), fun H10 s11 => ⟨true, rfl, iteF ?_⟩⟩
  have s7b := s7a.trans s11
  have D1 := D1.same s7b
  have D2 := D2.same s7b
  have D3 := D3.same s7b
  have B10 := B7.same s7b
  have fr10 : But b H _ := fr7.trans (but_of s7b)
  have h10 := s7b _ _ h7
  have A10 := A7.same s7b
  have hd := s7b _ _ hd
  have Ld := Ld.same s7b
  have hf := s7b _ _ hf
  clear fr7 B7 h7 A7 s7b s7a s79 s8 s9 s10 s11 e1 e2 f1 f2 ht Lt nt ht1 ht2
  -- the told list is changed
  refine ⟨_, rfl, .inl ⟨rfl, yf, .inl (.inl hf)⟩, pf, yf, _, rfl, rfl, hf, by omega, ?_⟩
  refine ⟨_, rfl, .inl ⟨rfl, _, .inl (.inl upd_same)⟩, pf, _, rfl, rfl, upd_same, ?_⟩
  rw [upd_upd]
  have o11 : But pf H10 (upd H10 pf (.lst (yf ++ [V.str "more"]).reverse)) := fun c o z n => by rw [upd_ne n]; exact z
  generalize upd H10 pf (.lst (yf ++ [V.str "more"]).reverse) = H11 at o11 ⊢
  have kt : ∀ a zs, H10 a = some (.tup zs) → H11 a = some (.tup zs) := fun a zs z => o11 a _ z (ne_of z hf (by intro e; cases e))
  have D1 := D1.but o11 n_1 kt
  have D2 := D2.but o11 n_2 kt
  have D3 := D3.but o11 n_3 kt
  have B11 : BoxAt H11 b (j + 1 + 80 * 3) := by
    obtain ⟨x, y, z, e, r⟩ := B10.ex
    exact ⟨x, y, z, o11 _ _ e n_b, r⟩
  have fr11 : But b H H11 := fun c o z n => o11 _ _ (fr10 c o z n) (f_f c o z n)
  have h11 := o11 _ _ h10 n_S
  have A11 := A10.mono kt
  have hd := o11 _ _ hd n_d
  have Ld := Ld.mono kt
  clear fr10 B10 h10 A10 kt o11 hf
  -- both ways about
  refine ⟨_, rfl, _, rfl, _, _, l1, l2, rfl, D1.links, D2.links, D1.bd, D2.bd, D1.few, D2.few, fun p1 y1 g1 H12 _ h1 L1 gr1 s12 => ?_⟩
  obtain rfl : g1 = gt := gr1.one grf fun l => Iff.rfl
  refine ⟨_, rfl, _, rfl, _, _, l2, l1, rfl, (D2.same s12).links, (D1.same s12).links, D2.bd, D1.bd, D2.few, D1.few, fun p2 y2 g2 H13 _ h2 L2 gr2 s13 => ?_⟩
  refine ⟨two, fun c1 hc1 => ?_⟩
  have s14 := same_new hc1 (.lst [V.ref p1, V.ref p2])
  have u14 := s12.trans (s13.trans s14)
  obtain ⟨x1, e1, f1⟩ := (D1.same u14).ex
  obtain ⟨x2, e2, f2⟩ := (D2.same u14).ex
  refine ⟨_, rfl, _, rfl, _, rfl, a2, a1, x2, x1, l2, l1, rfl, e2, f2, e1, f1, D2.bd, D1.bd, fun p3 y3 g3' H15 _ h3' L3 gr3 s15 => ?_⟩
  obtain rfl : g3' = g2 := gr3.one gr2 fun l => Iff.rfl
  refine ⟨two, fun c2 hc2 => ?_⟩
  have s16 := same_new hc2 (.lst [V.ref pd, V.ref p3])
  have u16 := s15.trans s16
  have w16 := s14.trans u16
  have v16 := s13.trans w16
  have t16 := s12.trans v16
  have few2 := rise_few gr2.rise gr2.bd
  refine ⟨_, _, 4, rfl, rfl, alike_two 3 (u16 _ _ upd_same) upd_same (alike_links 1 (v16 _ _ h1) (t16 _ _ hd) (L1.same v16) (Ld.same t16) (by omega)) (alike_links 1 (w16 _ _ h2) (s16 _ _ h3') (L2.same w16) (L3.same s16) (by omega)), fun H17 s17 => ⟨true, rfl, iteF ?_⟩⟩
  have s7b := t16.trans s17
  have D1 := D1.same s7b
  have D2 := D2.same s7b
  have D3 := D3.same s7b
  have B17 := B11.same s7b
  have fr17 : But b H _ := fr11.trans (but_of s7b)
  have h17 := s7b _ _ h11
  have A17 := A11.same s7b
  have hd := s7b _ _ hd
  have Ld := Ld.same s7b
  clear fr11 B11 h11 A11 s7b t16 v16 w16 u16 s17 s16 s15 s14 s13 s12 u14 e1 e2 f1 f2 h1 h2 h3' L1 L2 L3 hc1 hc2
  -- three parts, either way about
  refine ⟨_, rfl, _, rfl, _, _, l1, l2, rfl, D1.links, D2.links, D1.bd, D2.bd, D1.few, D2.few, fun p1 y1 g12 H18 _ h1 L1 gr12 s18 => ?_⟩
  refine ⟨_, rfl, _, _, g12, l3, rfl, links_lst h1 L1, (D3.same s18).links, gr12.bd, D3.bd, rise_few gr12.rise gr12.bd, D3.few, fun p2 y2 gl H19 _ h2 L2 grl s19 => ?_⟩
  have s1819 := s18.trans s19
  refine ⟨_, rfl, _, rfl, _, rfl, _, _, l2, l3, rfl, (D2.same s1819).links, (D3.same s1819).links, D2.bd, D3.bd, D2.few, D3.few, fun p3 y3 g23 H20 _ h3' L3 gr23 s20 => ?_⟩
  have s1820 := s1819.trans s20
  refine ⟨_, _, l1, g23, rfl, (D1.same s1820).links, links_lst h3' L3, D1.bd, gr23.bd, D1.few, rise_few gr23.rise gr23.bd, fun p4 y4 gr H21 _ h4 L4 grr s21 => ?_⟩
  obtain rfl : gl = gr := grl.one grr fun l => (together_left D1.bd D2.bd D3.bd gr12 l).trans (together_right D1.bd D2.bd D3.bd gr23 l).symm
  have fewl := rise_few grl.rise grl.bd
  refine ⟨_, _, 4, rfl, rfl, alike_links 2 ((s20.trans s21) _ _ h2) h4 (L2.same (s20.trans s21)) L4 (by omega), fun H22 s22 => ⟨true, rfl, iteF ?_⟩⟩
  have s7b := s1820.trans (s21.trans s22)
  have D1 := D1.same s7b
  have D2 := D2.same s7b
  have D3 := D3.same s7b
  have B22 := B17.same s7b
  have fr22 : But b H _ := fr17.trans (but_of s7b)
  have h22 := s7b _ _ h17
  have A22 := A17.same s7b
  clear fr17 B17 h17 A17 s7b s22 s21 s20 s19 s18 s1819 s1820 h1 h2 h3' h4 L1 L2 L3 L4 hd Ld
  -- each to itself
  refine ⟨_, rfl, _, rfl, _, _, stays m, l1, rfl, links_lst h22 A22, D1.links, sb, D1.bd, sfew, D1.few, fun p1 y1 g1 H23 _ h1 L1 gr1 s23 => ?_⟩
  have one1 : g1 = l1 := gr1.one (gr_self D1.rise D1.bd) fun l => mx_congr (fun k => stay_left D1.bd (fun l hl => (D1.below l hl).1) k) l
  rw [one1] at L1
  refine ⟨_, rfl, _, rfl, _, _, l1, stays m, rfl, (D1.same s23).links, links_lst (s23 _ _ h22) (A22.same s23), D1.bd, sb, D1.few, sfew, fun p2 y2 g2 H24 _ h2 L2 gr2 s24 => ?_⟩
  have one2 : g2 = l1 := gr2.one (gr_self D1.rise D1.bd) fun l => mx_congr (fun k => stay_right D1.bd (fun l hl => (D1.below l hl).2) k) l
  rw [one2] at L2
  refine ⟨two, fun c1 hc1 => ?_⟩
  have s25 := same_new hc1 (.lst [V.ref p1, V.ref p2])
  refine ⟨_, rfl, _, rfl, two, fun c2 hc2 => ?_⟩
  have s26 := same_new hc2 (.lst [V.ref a1, V.ref a1])
  have u26 := s25.trans s26
  have v26 := s24.trans u26
  have w26 := s23.trans v26
  have few1 := D1.few
  obtain ⟨x1, e1, f1⟩ := (D1.same w26).ex
  refine ⟨_, _, 4, rfl, rfl, alike_two 3 (s26 _ _ upd_same) upd_same (alike_links 1 (v26 _ _ h1) e1 (L1.same v26) f1 (by omega)) (alike_links 1 (u26 _ _ h2) e1 (L2.same u26) f1 (by omega)), fun H27 s27 => ⟨true, rfl, iteF ?_⟩⟩
  have s7b := w26.trans s27
  have D1 := D1.same s7b
  have D2 := D2.same s7b
  have D3 := D3.same s7b
  have B27 := B22.same s7b
  have fr27 : But b H _ := fr22.trans (but_of s7b)
  clear fr22 B22 h22 A22 s7b s27 w26 v26 u26 s26 s25 s24 s23 e1 f1 h1 h2 L1 L2 hc1 hc2
  -- none
  refine ⟨_, rfl, (by show 0 ≤ sizeLine; decide), fun z1 hz1 => ?_⟩
  have s28 := same_new hz1 (.lst ([] : List V))
  refine ⟨_, _, l1, [], rfl, (D1.same s28).links, links_lst (ls := []) upd_same trivial, D1.bd, (fun l h => nomatch h), D1.few, by decide, fun p1 y1 g1 H29 _ h1 L1 gr1 s29 => ?_⟩
  obtain rfl := gr_nil gr1 (fun l => by rintro ⟨x, hx, y, hy, _⟩; exact nomatch hy)
  refine ⟨(by show 0 ≤ sizeLine; decide), fun z2 hz2 => ?_⟩
  have s30 := same_new hz2 (.lst ([] : List V))
  have u30 := s28.trans (s29.trans s30)
  refine ⟨_, rfl, _, _, [], l1, rfl, links_lst (ls := []) upd_same trivial, (D1.same u30).links, (fun l h => nomatch h), D1.bd, by decide, D1.few, fun p2 y2 g2 H31 _ h2 L2 gr2 s31 => ?_⟩
  obtain rfl := gr_nil gr2 (fun l => by rintro ⟨x, hx, y, hy, _⟩; exact nomatch hx)
  refine ⟨two, fun c1 hc1 => ?_⟩
  have s32 := same_new hc1 (.lst [V.ref p1, V.ref p2])
  refine ⟨(by show 0 ≤ sizeLine; decide), fun z3 hz3 => ⟨(by show 0 ≤ sizeLine; decide), fun z4 hz4 => ⟨two, fun c2 hc2 => ?_⟩⟩⟩
  have s33 := same_new hz3 (.lst ([] : List V))
  have s34 := same_new hz4 (.lst ([] : List V))
  have s35 := same_new hc2 (.lst [V.ref z3, V.ref z4])
  have v35 := s33.trans (s34.trans s35)
  have w35 := s32.trans v35
  have t35 := s30.trans (s31.trans w35)
  refine ⟨_, _, 4, rfl, rfl, alike_two 3 (v35 _ _ upd_same) upd_same (alike_links (ls := []) 1 (t35 _ _ h1) ((s34.trans s35) _ _ upd_same) (L1.same t35) trivial (by decide)) (alike_links (ls := []) 1 (w35 _ _ h2) (s35 _ _ upd_same) (L2.same w35) trivial (by decide)), fun H36 s36 => ⟨true, rfl, iteT ?_⟩⟩
  have s7b := u30.trans (s31.trans (w35.trans s36))
  have D1 := D1.same s7b
  have D2 := D2.same s7b
  have D3 := D3.same s7b
  have B36 := B27.same s7b
  have fr36 : But b H _ := fr27.trans (but_of s7b)
  -- the text
  refine ⟨_, rfl, _, rfl, _, rfl, three, fun l' hl' => ?_⟩
  have s37 := same_new hl' (.lst [V.ref a1, V.ref a2, V.ref a3])
  refine ⟨_, _, rfl, dp upd_same (D1.same s37) (D2.same s37) (D3.same s37), sh1, sh2, sh3, sh4, ?_⟩
  refine ⟨_, rfl, rfl, ?_⟩
  rw [decide_eq_true rfl]
  exact q _ ((B36.same s37).more (by omega)) (fr36.trans (but_of s37))
end
end Rp

set_option maxHeartbeats 8000000
namespace Rp
open PySem PySem.Spec PyProof.Rows L2
def spLaw (K : PySem.W.Frag) : Sp := fun vs H Q _ => ∃ (a : Addr) (ns : List Int), vs = [.ref a] ∧ SqL K H a (ns.map V.int) ∧ ns.length ≤ 63 ∧ ∀ H', Q (.bl true) H'
section
variable {P : Program} {w : World} {K : PySem.W.Frag} {mg : Str → Option Value} {base : Heap}
abbrev NLw : List Str := ["_law_script", "_law_k", "_law_box_here", "_law_turn"]
theorem scLaw : FnScope NLw ["_law_script"] (defScope sLaw) := ⟨rfl, rfl, rfl, by decide +kernel, rfl, by decide +kernel, by decide +kernel⟩
theorem ok_law {f fB fR : Addr} {fd dB dR : FuncData} (F : Fun K "law" "law" sLaw f fd)
    (GB : FnOk P w K mg base CX0 1 fB dB ["_law_script", "_law_k"] (spBox K)) (kB : PySem.W.keepIn K (.ref fB) = true) (bB : Binds K dB ["_law_script", "_law_k"] []) (mB : mg "_law_box" = some (.ref fB))
    (GR : GnOk P w K mg base 6 fR dR ["_law_box_here"] spRight) (kR : PySem.W.keepIn K (.ref fR) = true) (bR : Binds K dR ["_law_box_here"] []) (mR : mg "_law_right" = some (.ref fR))
    (mRange : mg "range" = none) (mMax : mg "max" = none) (mMin : mg "min" = none) (mLen : mg "len" = none) (mAll : mg "all" = none) : GnOk P w K mg base 7 f fd ["_law_script"] (spLaw K) := by
  refine gok F scLaw (fun vs H Q E h => ?_) (fun cdv A outer s H vs Q E hg hr h => ?_)
  · obtain ⟨a, ns, rfl, _⟩ := h
    rfl
  obtain ⟨a, ns, rfl, hS, hl, q⟩ := h
  have r1 : Room 1 _ := hr.mono (by decide)
  refine ⟨_, (pss_cons (ps_for PassesOwn.never rfl (pi_range1 rfl mRange (pa_cons (pe_callB (call_max2 rfl) (by rfl) mMax (by decide +kernel) (pa_cons pe_int (pa_cons (pe_callB (call_min2 rfl) (by rfl) mMin (by decide +kernel) (pa_cons pe_int (pa_cons (pe_callB call_len_seq (by rfl) mLen PySem.boot_len (pa_cons (pv 0) pa_nil)) pa_nil))) pa_nil))) pa_nil)) (pg_name (i := 1) scLaw.nd rfl (Or.inl rfl))
      (pss_cons (ps_set (i := 2) scLaw.nd rfl (Or.inr rfl) (pe_call GB r1 (by rfl) mB kB bB .nil pass0 (pa_cons (pv 0) (pa_cons (pv 1) pa_nil))))
    (pss_one (ps_if (pt_not (pt_val (pe_callB (cr_all rfl) (by rfl) mAll (by decide +kernel) (pa_cons (pe_lc (own := [("_law_turn", 3)]) (g := gName 3) (tt := tYes) (te := tCall spRight [] E0 (tCons (tVar 2) tNil)) rfl scLaw.nd (pi_range1 (by rfl) mRange (pa_cons pe_int pa_nil)) (blkOk_by (N := NLw) (sc := defScope sLaw) (by decide +kernel)) (fun _ _ _ _ _ => (pg_name (i := 3) scLaw.nd rfl (Or.inl rfl))) (fun _ _ _ _ _ => pts_nil) (fun _ _ _ _ _ => (pe_callG GR hg hr (by rfl) mR kR bR (pa_cons (pv 2) pa_nil)))) pa_nil)))) (pss_one (ps_ret pe_bl)) pss_nil))))
    (pss_one (ps_ret pe_bl))), ?_⟩
  have big : (600 : Nat) ≤ sizeLine := by decide
  have lim : ∀ n : Int, 0 ≤ n → 0 ≤ (if (if n < 6 then n else 6) > (1 : Int) then (if n < 6 then n else 6) else 1) ∧ (if (if n < 6 then n else 6) > (1 : Int) then (if n < 6 then n else 6) else 1) ≤ 6 := by
    intro n hn
    split <;> split <;> omega
  have lim2 := lim (((ns.map V.int).length : Nat) : Int) (by omega)
  refine ⟨_, rfl, a, _, rfl, .inl hS, _, _, rfl, _, _, rfl, _, rfl, by omega, by omega, for_range (lo := 0) (fun i σ H2 => ∃ (x1 x2 x3 : Option V), σ = [some (.ref a), x1, x2, x3] ∧ Same H H2)
    ⟨_, _, _, rfl, Same.refl H⟩ ?_ (fun σ H2 ⟨_, _, _, e, _⟩ => q H2)⟩
  rintro i σ H2 hi ⟨x1, x2, x3, rfl, s2⟩
  have i6 : (i : Int) < 6 := by omega
  clear lim lim2
  refine ⟨_, rfl, _, rfl, a, ns, _, rfl, s2.seq hS, hl, by omega, by omega, fun b H3 hb B3 s3 => ?_⟩
  refine ⟨6, rfl, by decide, by decide, fun D hD => ?_⟩
  have Db : D ≠ b := by
    obtain ⟨y, hb3⟩ := B3.some
    exact (ne_of_none hb3 hD).symm
  refine lc_it (walk_range (lo := 0) (n := 6)) (fun i H4 => H4 D = some (.lst (List.replicate i (V.bl true))) ∧ BoxAt H4 b (250 * i) ∧ But b H3 H4)
    ⟨upd_same, (B3.same (same_new hD _)).more (by omega), but_of (same_new hD _)⟩ (fun _ _ _ _ => trivial) ?_ ?_
  · rintro k x H0 H4 lk ⟨h4, B4, o4⟩ ⟨rfl, ex⟩
    refine ⟨rfl, ?_⟩
    refine ⟨_, rfl, b, _, rfl, B4, by omega, fun H5 B5 o5 => ⟨_, o5 _ _ h4 Db, by rw [List.length_replicate]; omega, by rw [upd_same, List.replicate_succ'], (B5.upd Db _).more (by omega), fun c o z nb => ?_⟩⟩
    rw [upd_ne (ne_of_none z hD)]
    exact o5 _ _ (o4 _ _ z nb) nb
  · rintro H4 ⟨h4, B4, o4⟩
    have e : (List.replicate 6 true).all id = true := by decide
    refine ⟨D, List.replicate 6 true, rfl, .inl (.inl (by rw [List.map_replicate]; exact h4)), ?_⟩
    rw [e]
    refine ⟨true, rfl, iteF ?_⟩
    refine ⟨_, _, _, rfl, fun c o z => ?_⟩
    exact o4 _ _ (s3 _ _ (s2 _ _ z)) (ne_of_none (s2 _ _ z) hb)
end
end Rp

namespace Rp
open PySem L2
theorem all_mk {l : PySem.W.OpenLaw} {w : World} {K : PySem.W.Frag} {h : Heap} {mg : Str → Option Value} {fa f1 f2 f3 f4 f5 f6 f7 f8 f9 : Addr} (X : K.In h) (G : h.Ns mainGlobals mg) (hfa : mg "law" = some (.ref fa))
    {od1 an1 od2 an2 od3 an3 od4 an4 od5 an5 od6 an6 od7 an7 od8 an8 od9 an9 : Option Addr} {sl1 sl2 sl3 sl4 sl5 sl6 sl7 sl8 sl9 : Array (Option Value)} {oc1 kV1 dc1 pm1 cd1 ct1 oc2 kV2 dc2 pm2 cd2 ct2 oc3 kV3 dc3 pm3 cd3 ct3 oc4 kV4 dc4 pm4 cd4 ct4 oc5 kV5 dc5 pm5 cd5 ct5 oc6 kV6 dc6 pm6 cd6 ct6 oc7 kV7 dc7 pm7 cd7 ct7 oc8 kV8 dc8 pm8 cd8 ct8 oc9 kV9 dc9 pm9 cd9 ct9 : Value}
    (a1 : PySem.W.nsIn K mainGlobals "greatest" = some (some (.ref f1))) (l1 : K.lookup f1 = some ⟨oc1, od1, .func (PySem.W.fnOf "greatest" "greatest" (defArgs sGreatest) (defBody sGreatest) (defScope sGreatest) .none kV1 dc1 pm1 an1 cd1 ct1), sl1⟩) (c1 : PySem.W.codeIn K cd1 "greatest" = true) (k1 : PySem.W.keepIn K (.ref f1) = true)
    (a2 : PySem.W.nsIn K mainGlobals "together" = some (some (.ref f2))) (l2 : K.lookup f2 = some ⟨oc2, od2, .func (PySem.W.fnOf "together" "together" (defArgs sTogether) (defBody sTogether) (defScope sTogether) .none kV2 dc2 pm2 an2 cd2 ct2), sl2⟩) (c2 : PySem.W.codeIn K cd2 "together" = true) (k2 : PySem.W.keepIn K (.ref f2) = true)
    (a3 : PySem.W.nsIn K mainGlobals "_law_box" = some (some (.ref f3))) (l3 : K.lookup f3 = some ⟨oc3, od3, .func (PySem.W.fnOf "_law_box" "_law_box" (defArgs sBox) (defBody sBox) (defScope sBox) .none kV3 dc3 pm3 an3 cd3 ct3), sl3⟩) (c3 : PySem.W.codeIn K cd3 "_law_box" = true) (k3 : PySem.W.keepIn K (.ref f3) = true)
    (a4 : PySem.W.nsIn K mainGlobals "_law_take" = some (some (.ref f4))) (l4 : K.lookup f4 = some ⟨oc4, od4, .func (PySem.W.fnOf "_law_take" "_law_take" (defArgs sTake) (defBody sTake) (defScope sTake) .none kV4 dc4 pm4 an4 cd4 ct4), sl4⟩) (c4 : PySem.W.codeIn K cd4 "_law_take" = true) (k4 : PySem.W.keepIn K (.ref f4) = true)
    (a5 : PySem.W.nsIn K mainGlobals "_law_same" = some (some (.ref f5))) (l5 : K.lookup f5 = some ⟨oc5, od5, .func (PySem.W.fnOf "_law_same" "_law_same" (defArgs sSame) (defBody sSame) (defScope sSame) .none kV5 dc5 pm5 an5 cd5 ct5), sl5⟩) (c5 : PySem.W.codeIn K cd5 "_law_same" = true) (k5 : PySem.W.keepIn K (.ref f5) = true)
    (a6 : PySem.W.nsIn K mainGlobals "_law_joined" = some (some (.ref f6))) (l6 : K.lookup f6 = some ⟨oc6, od6, .func (PySem.W.fnOf "_law_joined" "_law_joined" (defArgs sJoined) (defBody sJoined) (defScope sJoined) .none kV6 dc6 pm6 an6 cd6 ct6), sl6⟩) (c6 : PySem.W.codeIn K cd6 "_law_joined" = true) (k6 : PySem.W.keepIn K (.ref f6) = true)
    (a7 : PySem.W.nsIn K mainGlobals "_law_some_links" = some (some (.ref f7))) (l7 : K.lookup f7 = some ⟨oc7, od7, .func (PySem.W.fnOf "_law_some_links" "_law_some_links" (defArgs sSome) (defBody sSome) (defScope sSome) .none kV7 dc7 pm7 an7 cd7 ct7), sl7⟩) (c7 : PySem.W.codeIn K cd7 "_law_some_links" = true) (k7 : PySem.W.keepIn K (.ref f7) = true)
    (a8 : PySem.W.nsIn K mainGlobals "_law_right" = some (some (.ref f8))) (l8 : K.lookup f8 = some ⟨oc8, od8, .func (PySem.W.fnOf "_law_right" "_law_right" (defArgs sRight) (defBody sRight) (defScope sRight) .none kV8 dc8 pm8 an8 cd8 ct8), sl8⟩) (c8 : PySem.W.codeIn K cd8 "_law_right" = true) (k8 : PySem.W.keepIn K (.ref f8) = true)
    (a9 : PySem.W.nsIn K mainGlobals "law" = some (some (.ref f9))) (l9 : K.lookup f9 = some ⟨oc9, od9, .func (PySem.W.fnOf "law" "law" (defArgs sLaw) (defBody sLaw) (defScope sLaw) .none kV9 dc9 pm9 an9 cd9 ct9), sl9⟩) (c9 : PySem.W.codeIn K cd9 "law" = true) (k9 : PySem.W.keepIn K (.ref f9) = true)
    (z1 : PySem.W.nsIn K mainGlobals "isinstance" = some none)
    (z2 : PySem.W.nsIn K mainGlobals "int" = some none)
    (z3 : PySem.W.nsIn K mainGlobals "len" = some none)
    (z4 : PySem.W.nsIn K mainGlobals "sorted" = some none)
    (z5 : PySem.W.nsIn K mainGlobals "list" = some none)
    (z6 : PySem.W.nsIn K mainGlobals "tuple" = some none)
    (z7 : PySem.W.nsIn K mainGlobals "all" = some none)
    (z8 : PySem.W.nsIn K mainGlobals "zip" = some none)
    (z9 : PySem.W.nsIn K mainGlobals "str" = some none)
    (z10 : PySem.W.nsIn K mainGlobals "bool" = some none)
    (z11 : PySem.W.nsIn K mainGlobals "range" = some none)
    (z12 : PySem.W.nsIn K mainGlobals "abs" = some none)
    (z13 : PySem.W.nsIn K mainGlobals "max" = some none)
    (z14 : PySem.W.nsIn K mainGlobals "min" = some none)
    (z15 : PySem.W.nsIn K mainGlobals "repr" = some none)
    : ∃ fd : FuncData, (∀ (s : Shared) (v : Value), BindsTo s fd ⟨[v], []⟩ [("_law_script", v)]) ∧ ∀ base : Heap, K.In base → base.Ns mainGlobals mg → GnOk l.prog w K mg base 7 fa fd ["_law_script"] (spLaw K) := by
  have e := hfa.symm.trans (PySem.W.mg_of X G a9)
  cases e
  have F1 := fun_mk (st := sGreatest) l1 c1 k1
  have b1 := F1.binds (ps := ["links"]) fun _ _ _ _ _ _ us hl => match us, hl with | [_], _ => rfl
  have m1 := PySem.W.mg_of X G a1
  have F2 := fun_mk (st := sTogether) l2 c2 k2
  have b2 := F2.binds (ps := ["links", "others"]) fun _ _ _ _ _ _ us hl => match us, hl with | [_, _], _ => rfl
  have m2 := PySem.W.mg_of X G a2
  have F3 := fun_mk (st := sBox) l3 c3 k3
  have b3 := F3.binds (ps := ["_law_script", "_law_k"]) fun _ _ _ _ _ _ us hl => match us, hl with | [_, _], _ => rfl
  have m3 := PySem.W.mg_of X G a3
  have F4 := fun_mk (st := sTake) l4 c4 k4
  have b4 := F4.binds (ps := ["_law_box_here", "_law_reach"]) fun _ _ _ _ _ _ us hl => match us, hl with | [_, _], _ => rfl
  have m4 := PySem.W.mg_of X G a4
  have F5 := fun_mk (st := sSame) l5 c5 k5
  have b5 := F5.binds (ps := ["_law_found", "_law_due"]) fun _ _ _ _ _ _ us hl => match us, hl with | [_, _], _ => rfl
  have m5 := PySem.W.mg_of X G a5
  have F6 := fun_mk (st := sJoined) l6 c6 k6
  have b6 := F6.binds (ps := ["_law_links", "_law_others"]) fun _ _ _ _ _ _ us hl => match us, hl with | [_, _], _ => rfl
  have m6 := PySem.W.mg_of X G a6
  have F7 := fun_mk (st := sSome) l7 c7 k7
  have b7 := F7.binds (ps := ["_law_box_here", "_law_places"]) fun _ _ _ _ _ _ us hl => match us, hl with | [_, _], _ => rfl
  have m7 := PySem.W.mg_of X G a7
  have F8 := fun_mk (st := sRight) l8 c8 k8
  have b8 := F8.binds (ps := ["_law_box_here"]) fun _ _ _ _ _ _ us hl => match us, hl with | [_], _ => rfl
  have m8 := PySem.W.mg_of X G a8
  have F9 := fun_mk (st := sLaw) l9 c9 k9
  have y1 := PySem.W.mg_none_of X G z1
  have y2 := PySem.W.mg_none_of X G z2
  have y3 := PySem.W.mg_none_of X G z3
  have y4 := PySem.W.mg_none_of X G z4
  have y5 := PySem.W.mg_none_of X G z5
  have y6 := PySem.W.mg_none_of X G z6
  have y7 := PySem.W.mg_none_of X G z7
  have y8 := PySem.W.mg_none_of X G z8
  have y9 := PySem.W.mg_none_of X G z9
  have y10 := PySem.W.mg_none_of X G z10
  have y11 := PySem.W.mg_none_of X G z11
  have y12 := PySem.W.mg_none_of X G z12
  have y13 := PySem.W.mg_none_of X G z13
  have y14 := PySem.W.mg_none_of X G z14
  have y15 := PySem.W.mg_none_of X G z15
  refine ⟨PySem.W.fnOf "law" "law" (defArgs sLaw) (defBody sLaw) (defScope sLaw) .none kV9 dc9 pm9 an9 cd9 ct9, fun s v => .of_eq rfl, fun base _ _ => ?_⟩
  have M : SameG mg := ⟨y1, y5, y6, y3, y7, y8, y9, y2, y10⟩
  have GG := ok_greatest (P := l.prog) (w := w) (base := base) F1 y4
  have GTo := ok_together F2 GG k1 b1 m1 y13
  have GB := ok_box (P := l.prog) (w := w) (base := base) F3 y3 y12 y2
  have GT := ok_take (P := l.prog) (w := w) (mg := mg) (base := base) F4
  have GS := same_ok (P := l.prog) (w := w) (base := base) F5 b5 m5 M 5
  have GJ := ok_joined (P := l.prog) (w := w) (base := base) F6 y13 y4
  have GSo := ok_some F7 GT k4 b4 m4 y11
  have GR := ok_right F8 GT k4 b4 m4 GSo k7 b7 m7 GJ k6 b6 m6 GTo k2 b2 m2 GS k5 b5 m5 y11 y15 y6
  exact ok_law F9 GB k3 b3 m3 GR k8 b8 m8 y11 y13 y14 y3 y7
theorem walk {l : PySem.W.OpenLaw} {q : Program} {loose : List Str} {XP : (Str → Option Value) → Heap → Prop} {YP : World → Heap → Prop} {d : DefRec} {K : Params → PySem.W.Frag} (hn : l.most = some 63) (hdf : d.params.defaults = [])
    (hY : ∀ (w : World) (h : Heap), YP w h → (K w.params).In h)
    (F : ∀ (w : World) (mg : Str → Option Value) (fa : Addr) (h : Heap), (K w.params).In h → h.Ns mainGlobals mg → mg d.name = some (.ref fa) →
      ∃ fd : FuncData, (∀ (s : Shared) (u : Value), BindsTo s fd ⟨[u], []⟩ [("_law_script", u)]) ∧ ∀ base : Heap, (K w.params).In base → base.Ns mainGlobals mg → GnOk l.prog w (K w.params) mg base 7 fa fd ["_law_script"] (spLaw (K w.params))) :
    PySem.W.WalkO q loose XP YP l.row.toRowW d [] (fun f vs => PySem.call f vs) :=
  walk_ofG (n := 63) (k := 7) (x := "_law_script") (sp := spLaw) hn (by decide) hdf ⟨rfl, by decide, by decide⟩ hY F (fun _ _ a ns hl _ hS => ⟨a, ns, rfl, hS, hl, fun _ => rfl⟩)
end Rp
open PySem PySem.W PyProof.Rows
set_option maxRecDepth 100000 in
set_option maxHeartbeats 0 in
theorem PySem.Challenge.cw_ringproofs_k39_ways_put_together_holds : PySem.Challenge.rw_ringproofs_k39_ways_put_together.Holds := by
  w_on; o_law; k_head; (case hw => w_witness2)
  k_fill
  refine Rp.walk (l := PySem.Challenge.rw_ringproofs_k39_ways_put_together) rfl rfl (fun w h Y => PySem.W.kIn_of Y) ?F
  case F =>
    intro w mg fa h KX G hmg
    refine' Rp.all_mk KX G hmg ?a1 ?l1 ?c1 ?k1 ?a2 ?l2 ?c2 ?k2 ?a3 ?l3 ?c3 ?k3 ?a4 ?l4 ?c4 ?k4 ?a5 ?l5 ?c5 ?k5 ?a6 ?l6 ?c6 ?k6 ?a7 ?l7 ?c7 ?k7 ?a8 ?l8 ?c8 ?k8 ?a9 ?l9 ?c9 ?k9 ?z1 ?z2 ?z3 ?z4 ?z5 ?z6 ?z7 ?z8 ?z9 ?z10 ?z11 ?z12 ?z13 ?z14 ?z15
    (case a1 => k_is); (case l1 => k_is); (case c1 => k_is); (case k1 => k_is)
    (case a2 => k_is); (case l2 => k_is); (case c2 => k_is); (case k2 => k_is)
    (case a3 => k_is); (case l3 => k_is); (case c3 => k_is); (case k3 => k_is)
    (case a4 => k_is); (case l4 => k_is); (case c4 => k_is); (case k4 => k_is)
    (case a5 => k_is); (case l5 => k_is); (case c5 => k_is); (case k5 => k_is)
    (case a6 => k_is); (case l6 => k_is); (case c6 => k_is); (case k6 => k_is)
    (case a7 => k_is); (case l7 => k_is); (case c7 => k_is); (case k7 => k_is)
    (case a8 => k_is); (case l8 => k_is); (case c8 => k_is); (case k8 => k_is)
    (case a9 => k_is); (case l9 => k_is); (case c9 => k_is); (case k9 => k_is)
    (case z1 => k_is); (case z2 => k_is); (case z3 => k_is); (case z4 => k_is)
    (case z5 => k_is); (case z6 => k_is); (case z7 => k_is); (case z8 => k_is)
    (case z9 => k_is); (case z10 => k_is); (case z11 => k_is); (case z12 => k_is)
    (case z13 => k_is); (case z14 => k_is); (case z15 => k_is)

