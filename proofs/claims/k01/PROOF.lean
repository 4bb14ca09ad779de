import PyProof.Rows.All
import Wide.All
import OpenK.AllK
import Wide.FinOn
import HandS.ForMost
import HandS.IsInst
import HandS.Style
import HandS.Set
import HandS.Strs
import HandS.SetBool
import HandS.SetFor
import PySem.Challenge.RW_ringproofs_k01_words_and_refusals
import HandS.Zip
import HandS.ExcInit
import HandS.Exc
import HandS.ExcIs
import HandS.ExcField
import HandS.MakeKw
import KE.KExcIs
set_option Elab.async false
set_option linter.all false
set_option maxRecDepth 100000
set_option maxHeartbeats 4000000
/-! Two rules that the layer lacks: a comprehension that makes a set of ints, and set(xs) of a list of ints whose table is known well enough to be sorted afterwards. -/
namespace Rp
open PySem PySem.Spec PyProof.Rows L2 PpSet

section addi
variable {X : Cx}
/-- an int goes into a tracked set of ints -/
theorem putInt {pins : List (Addr × Obj)} {σ : L2.St} {H : Hp} {s : Shared} {E : Value → Shared → Prop} {D : Addr} {S : Int → Bool} {n : Nat} {y : Int} {t : Tok} {Q : Value → Shared → Prop}
    (I : Inv X pins σ H s) (hD : H D = some (SetO X.w D S n)) (few : n + 1 < scanBound)
    (go : ∀ s', Inv X pins σ (upd H D (SetO X.w D (fun j => S j || decide (j = y)) (if S y = true then n else n + 1))) s' → Q .none s') :
    wpAny (model X.prog X.w) X.A (call (.builtin "set.add") [.ref D, .int y t]) Q E s :=
  setR_add (setO_get I hD) few fun h' same now =>
    have there : ∃ u, h'.get? D = some u := let ⟨o, _, _, _, ho, _⟩ := now; ⟨o, ho⟩
    go _ (I.write (e := D) (t' := s.toks + 1) (by rw [hD]; trivial) (.inl rfl) (fun b u ne hu => (same.2 b ne).trans hu) there (setO_new now))

/-- what {e for x in .. if ..} asks where e is an int -/
def tScI (w : World) (wi : TI) (g : TG) (tt : TT) (te : TE) (vs : List Nat) : TE := fun σ H Q => wi σ H fun J H1 => ∀ D, H1 D = none →
  ∃ W : Nat → Nat → Hp → Prop, (∃ m, W 0 m (upd H1 D (SetO w D (fun _ => false) 0))) ∧ ∀ i m H, W i m H → (J.stop i H ∧ Q (.ref D) H) ∨
    (J.go i H ∧ ∃ Nx : Hp → Prop, (∀ H', Nx H' → ∃ m', m' < m ∧ W (i + 1) m' H') ∧ ∀ x H', J.yld i H x H' → g x (wipe σ vs) H' fun σ2 H2 => wipe σ2 vs = wipe σ vs ∧
      tt σ2 H2 fun b H3 => if b = true then te σ2 H3 fun y H4 => ∃ (k : Int) (S : Int → Bool) (n : Nat), y = .int k ∧ H4 D = some (SetO w D S n) ∧ n + 1 < scanBound ∧
        Nx (upd H4 D (SetO w D (fun j => S j || decide (j = k)) (if S k = true then n else n + 1))) else Nx H3)

abbrev emptySet (w : World) : Obj := { cls := .type "set", dict := none, data := .set #[] 0 (.fresh 0 0 (!w.params.followText "set-order")) }

theorem pe_scI {elt tg iter : Expr} {ifs : List Expr} {scope : Scope} {own : List (PySem.Str × Nat)} {pos : Pos} {wi : TI} {g : TG} {tt : TT} {te : TE}
    (hc : X.calm = true) (hN : X.N.Nodup) (hi : PI X tg iter wi) (ok : BlkOk X.N X.env.scope scope own)
    (hg : ∀ (s : Shared) (H : Hp) (C : Addr) (cl : List (PySem.Str × Addr)) (fp : List Addr), PG (X.blk s H scope (compEnvC scope cl C X.env) fp) tg g)
    (ht : ∀ (s : Shared) (H : Hp) (C : Addr) (cl : List (PySem.Str × Addr)) (fp : List Addr), PTs (X.blk s H scope (compEnvC scope cl C X.env) fp) ifs tt)
    (he : ∀ (s : Shared) (H : Hp) (C : Addr) (cl : List (PySem.Str × Addr)) (fp : List Addr), PE (X.blk s H scope (compEnvC scope cl C X.env) fp) elt te)
    (hs : ∀ x, foldedSetIterable iter X.env x = pure x := by intro _; rfl) :
    PE X (.SetComp elt [⟨tg, iter, ifs, 0⟩] scope pos) (tScI X.w wi g tt te (own.map (·.2))) := by
  refine ⟨fun pins s σ H Q I h => ?_⟩
  rw [eval_SetComp]
  have caught : ∀ y ∈ scope.names, y.2 = .free → ∃ c, X.env.cells.lookup y.1 = some c := fun y hy e =>
    (ok.free y hy e).elim (fun k => I.ok.has _ (.inl k)) fun k => I.ok.has _ (.inr k)
  refine wpAny_comprehension_free (use := none) rfl hs (closure_ok caught) ok.kind (fun y hy e => (ok.uniq y hy).trans (by rw [e])) (thn (hi.run pins s σ H _ I h) fun xv s1 hx => thn hx fun itv s2 h2 => ?_)
  obtain ⟨it, fp, tn, J, H2, rfl, I2, T, st2, f2, q⟩ := h2
  refine newSet_ok (newEnv_comp ?_)
  -- the new set's place
  obtain ⟨D, hD⟩ : ∃ D, s2.heap.objs.size = D := ⟨_, rfl⟩
  rw [hD]
  obtain ⟨W, ⟨m0, w0⟩, turn⟩ := q D (I2.hok.fresh (Nat.le_of_eq hD))
  obtain ⟨s3, hs3⟩ : ∃ s3 : Shared, { s2 with heap := s2.heap.push (emptySet X.w) } = s3 := ⟨_, rfl⟩
  have h3 : s3.heap = s2.heap.push (emptySet X.w) := by rw [← hs3]
  have I3 : Inv X pins σ (upd H2 D (SetO X.w D (fun _ => false) 0)) s3 := by
    have z := I2.laid (a := D) (o := SetO X.w D (fun _ => false) 0) (t' := s2.toks) (h' := s2.heap.push (emptySet X.w)) (fun b o e => Heap.get?_push_of_some _ e) (Nat.le_of_eq hD) (by rw [← hD]; exact setO_new (setR_fresh X.w))
    exact hs3 ▸ z
  have low : ∀ b ∈ fp, b < s2.heap.objs.size := fun b hb => let ⟨o, e, _⟩ := T.obj _ _ st2 b hb; Heap.lt_size e
  have f3 : ∀ b ∈ fp, FpOk X pins (upd H2 D (SetO X.w D (fun _ => false) 0)) b ∧ b < s3.heap.objs.size := fun b hb =>
    ⟨⟨(upd_ne (by rw [← hD]; exact Nat.ne_of_lt (low b hb))).trans (f2 b hb).1, (f2 b hb).2⟩, by rw [h3, Heap.size_push]; exact Nat.lt_succ_of_lt (low b hb)⟩
  have st3 : tn 0 s3.heap := T.keep _ _ _ st2 fun b _ o e => h3 ▸ Heap.get?_push_of_some _ e
  have I4 := block_start I3 ok hN f3
  obtain ⟨H3, hH3⟩ : ∃ H3, upd H2 D (SetO X.w D (fun _ => false) 0) = H3 := ⟨_, rfl⟩
  rw [hH3] at I3 f3 I4 w0
  obtain ⟨C, hC⟩ : ∃ C, s3.heap.objs.size = C := ⟨_, rfl⟩
  rw [hC] at I4
  have pg := hg s3 H3 C (cellsFrom (C + 1) scope.names (cloFrom X.env.cells scope.names [])) fp
  have pt := ht s3 H3 C (cellsFrom (C + 1) scope.names (cloFrom X.env.cells scope.names [])) fp
  have pe := he s3 H3 C (cellsFrom (C + 1) scope.names (cloFrom X.env.cells scope.names [])) fp
  subst hs3
  have hC' : (s2.heap.push (emptySet X.w)).objs.size = C := hC
  show codeAny _ _ (.compStart (.SetComp elt [⟨tg, iter, ifs, 0⟩] scope pos) 0 (.ref it) (.ref D) (compEnvC scope (cellsFrom ((s2.heap.push (emptySet X.w)).objs.size + 1) scope.names (cloFrom X.env.cells scope.names [])) (s2.heap.push (emptySet X.w)).objs.size X.env))
    (compPost (model X.prog X.w) X.A X.xe none (EP X pins σ Q) (.ref D) (s2.heap.push (emptySet X.w)).objs.size) { s2 with heap := pushCells ((s2.heap.push (emptySet X.w)).push { cls := .type "dict", data := .dict #[] }) scope.names }
  rw [hC']
  obtain ⟨ce, hce⟩ : ∃ ce, compEnvC scope (cellsFrom (C + 1) scope.names (cloFrom X.env.cells scope.names [])) C X.env = ce := ⟨_, rfl⟩
  rw [hce] at I4 pg pt pe ⊢
  have cL : ce.locals = C := by subst hce; rfl
  obtain ⟨s4, hs4⟩ : ∃ s4 : Shared, { s2 with heap := pushCells ((s2.heap.push (emptySet X.w)).push { cls := .type "dict", data := .dict #[] }) scope.names } = s4 := ⟨_, rfl⟩
  have I4 : Inv (X.blk _ H3 scope ce fp) [] (wipe σ (own.map (·.2))) H3 s4 := hs4 ▸ I4
  rw [hs4]
  have st4 : tn 0 s4.heap := T.keep _ _ _ st3 fun b _ o e => by rw [← hs4]; exact pushCells_keeps _ _ _ _ (Heap.get?_push_of_some _ e)
  obtain ⟨Y, hY⟩ : ∃ Y, X.blk { s2 with heap := s2.heap.push (emptySet X.w) } H3 scope ce fp = Y := ⟨_, rfl⟩
  have rest : ∀ {σ' : L2.St} {H' : Hp} {s' : Shared}, Inv Y [] σ' H' s' → (∀ b ∈ fp, H' b = none) → ∀ b ∈ fp, FpOk Y [] H' b := by
    subst hY
    intro σ' H' s' I' hn b hb
    exact ⟨hn b hb, (I'.ok.exf b hb).1, I'.ok.exfs b hb, .inl hb, fun x c e => (I'.ok.exf b hb).2 x c e, fun p hp => absurd (show p ∈ ([] : List (Addr × Obj)) ++ [] from hp) (by simp)⟩
  have round : codeAny (model X.prog X.w) X.A (.compLoop (.SetComp elt [⟨tg, iter, ifs, 0⟩] scope pos) 0 (.ref it) (.ref D) ce) (compPost (model X.prog X.w) X.A X.xe none (EP X pins σ Q) (.ref D) C) s4 := by
    refine compLoopS_any (fun n s' => ∃ i H', Inv Y [] (wipe σ (own.map (·.2))) H' s' ∧ tn i s'.heap ∧ (∀ b ∈ fp, H' b = none) ∧ W i n H') ?_ m0 ⟨0, H3, hY ▸ I4, st4, fun b hb => (f3 b hb).1.1, w0⟩
    rintro n s5 ⟨i, H5, I5, st5, n5, w5⟩
    rcases turn i n H5 w5 with ⟨stop, qq⟩ | ⟨go, Nx, hNx, step⟩
    · subst hY
      refine thnF (T.done (X.blk _ H3 scope ce fp) rfl rfl rfl hc i [] s5 _ H5 (fun _ _ => False) I5 (rest I5 n5) st5 stop) fun r s6 ⟨hr, I6⟩ => ?_
      subst hr
      have I7 : Inv X pins σ H5 s6 := I3.call' (ch := fp) I6.os I6.base I6.hok I6.bare fun b hb => ⟨(f3 b hb).1.2.2.2.1, (f3 b hb).1.2.1, (f3 b hb).1.2.2.2.2.1, (f3 b hb).1.2.2.2.2.2⟩
      have nC : H5 C = none := cL ▸ (show H5 ce.locals = none from I6.free)
      obtain ⟨m, hn, _⟩ := I6.loc
      have hn : s6.heap.Ns C m := cL ▸ (show s6.heap.Ns ce.locals m from hn)
      refine ⟨m, hn, fun h'' sb => ?_⟩
      obtain ⟨g0, g1, g2, g3, g4, g5⟩ := I3.fpOk (Nat.le_of_eq hC) nC
      exact ⟨.ref D, H5, I7.turned (t' := s6.toks) (fun b o hb e => (sb.2 b hb).trans e) g0 g1 g3 g4 g5, rfl, qq⟩
    · have ti := T.item Y (by subst hY; rfl) (by subst hY; rfl) (by subst hY; rfl) (by subst hY; exact hc) i [] s5 _ H5 (fun _ _ => False) I5 (rest I5 n5) st5 go
      subst hY
      refine thnF ti fun r s6 ⟨u, hr, h6⟩ => ?_
      subst hr
      refine thnF h6 fun _ s7 ⟨x, H7, I7, r7, y7, st7, n7⟩ => ?_
      refine thnF (pg.run _ s7 _ H7 x u _ (I7.pinned (rest I7 n7) (T.obj _ _ st7)) r7 (step x H7 y7)) fun _ s8 ⟨σ8, H8, I8, hw8, q8⟩ => ?_
      refine thnF (pt.run _ s8 σ8 H8 _ I8 q8) fun b s9 ⟨H9, I9, q9⟩ => ?_
      have turned : ∀ {s' : Shared} {H' : Hp}, Inv (X.blk { s2 with heap := s2.heap.push (emptySet X.w) } H3 scope ce fp) ([] ++ pinsAt fp s7.heap) σ8 H' s' → Nx H' → ∃ m, m < n ∧ ∃ i H', Inv (X.blk { s2 with heap := s2.heap.push (emptySet X.w) } H3 scope ce fp) [] (wipe σ (own.map (·.2))) H' s' ∧ tn i s'.heap ∧ (∀ b ∈ fp, H' b = none) ∧ W i m H' := by
        intro s' H' I' nx
        obtain ⟨m', hm, w'⟩ := hNx H' nx
        have pin : ∀ b ∈ fp, ∀ o, s7.heap.get? b = some o → s'.heap.get? b = some o ∧ H' b = none := fun b hb o e =>
          let z := I'.pin (b, o) (List.mem_append_right _ (List.mem_append_right _ (mem_pinsAt hb e))); ⟨z.1, z.2.1⟩
        refine ⟨m', hm, i + 1, H', (I'.unpinned (pins := [])).weak (by rw [← hw8, wipe_length]) (fun j v e => (wipe_some (by rw [hw8]; exact e)).1), T.keep _ _ _ st7 fun b hb o e => (pin b hb o e).1, fun b hb => ?_, w'⟩
        obtain ⟨o, e, _⟩ := T.obj _ _ st7 b hb
        exact (pin b hb o e).2
      cases b with
      | false => simp only [Bool.false_eq_true, if_false] at q9 ⊢; exact turned I9 q9
      | true =>
        simp only [if_true] at q9 ⊢
        refine thnF (pe.run _ s9 σ8 H9 _ I9 q9) fun z s10 ⟨yv, H10, I10, r10, k, S0, n0, ey, hD10, few, nx⟩ => ?_
        subst ey
        obtain ⟨t, rfl⟩ := r10
        exact putInt (X := X.blk _ H3 scope ce fp) I10 hD10 few fun s11 I11 => turned I11 nx
  exact codeAny_compStart_set round (T.self X.A 0 _ _ _ st4 round)

/-- the walk over a list that the block leaves as it is -/
theorem scI_list {w : World} {K : PySem.W.Frag} {a : Addr} {xs : List V} {g : TG} {tt : TT} {te : TE} {vs : List Nat} {σ : L2.St} {H1 : Hp} {D : Addr} {Qd : Hp → Prop}
    (Pv : Nat → Hp → Prop) (h0 : Pv 0 (upd H1 D (SetO w D (fun _ => false) 0))) (hl : ∀ i H, i ≤ xs.length → Pv i H → SqL K H a xs)
    (hs : ∀ i x H, xs[i]? = some x → Pv i H → g x (wipe σ vs) H fun σ2 H2 => wipe σ2 vs = wipe σ vs ∧ tt σ2 H2 fun b H3 => if b = true then te σ2 H3 fun y H4 =>
      ∃ (k : Int) (S : Int → Bool) (n : Nat), y = .int k ∧ H4 D = some (SetO w D S n) ∧ n + 1 < scanBound ∧ Pv (i + 1) (upd H4 D (SetO w D (fun j => S j || decide (j = k)) (if S k = true then n else n + 1))) else Pv (i + 1) H3)
    (hd : ∀ H, Pv xs.length H → Qd H) :
    ∃ W : Nat → Nat → Hp → Prop, (∃ m, W 0 m (upd H1 D (SetO w D (fun _ => false) 0))) ∧ ∀ i m H, W i m H → ((Itl K a).stop i H ∧ Qd H) ∨
      ((Itl K a).go i H ∧ ∃ Nx : Hp → Prop, (∀ H', Nx H' → ∃ m', m' < m ∧ W (i + 1) m' H') ∧ ∀ x H', (Itl K a).yld i H x H' → g x (wipe σ vs) H' fun σ2 H2 => wipe σ2 vs = wipe σ vs ∧
        tt σ2 H2 fun b H3 => if b = true then te σ2 H3 fun y H4 => ∃ (k : Int) (S : Int → Bool) (n : Nat), y = .int k ∧ H4 D = some (SetO w D S n) ∧ n + 1 < scanBound ∧
          Nx (upd H4 D (SetO w D (fun j => S j || decide (j = k)) (if S k = true then n else n + 1))) else Nx H3) := by
  refine ⟨fun i m H => m + i = xs.length ∧ Pv i H, ⟨xs.length, by simp, h0⟩, ?_⟩
  rintro i m H ⟨em, p⟩
  have here := hl i H (by omega) p
  rcases Nat.lt_or_ge i xs.length with lt | ge
  · refine .inr ⟨⟨xs, xs[i], here, by simp [lt]⟩, Pv (i + 1), fun H' p' => ⟨m - 1, by omega, by omega, p'⟩, fun x H' ⟨e, y⟩ => ?_⟩
    subst e
    exact hs i x _ (y xs here) p
  · have e : i = xs.length := by omega
    subst e
    exact .inl ⟨⟨xs, here, Nat.le_refl _⟩, hd H p⟩
end addi
end Rp

namespace Rp
open PySem PySem.Spec PyProof.Rows L2 PpSet
section
variable {P : Program} {w : World} {A : Around} {E : Value → Shared → Prop} {s : Shared}
set_option maxHeartbeats 6400000 in
theorem set_of_list {l : Addr} {items : Array Value} (ns : List Int) {Q : Value → Shared → Prop} (calm : A.handled = none) (hl : s.heap.IsList l items) (hi : IntsAre items.toList ns) (few : ns.length + 1 < scanBound)
    (go : ∀ (h' : Heap) (tk c : Nat), SetR w h' s.heap.objs.size (fun j => decide (j ∈ ns)) c → c ≤ ns.length → (∀ b o, s.heap.get? b = some o → h'.get? b = some o) → Q (.ref s.heap.objs.size) { s with heap := h', toks := tk }) :
    wpAny (model P w) A (call (.type "set") [.ref l]) Q E s := by
  have cnt : items.size = ns.length := by have q := IntsAre.length hi; rwa [Array.length_toList] at q
  obtain ⟨c, tl, hmro⟩ := F.called_set.mro
  have hmade := F.called_set.made
  have hsub := F.called_set.sub
  refine wpAny_call (codeAny_of_tree ?_)
  show wpAny _ _ (callAny (.type "set") _) _ _ _
  refine wpAny_pure ⟨Code.quiet_builtin _ (by decide +kernel), codeAny_builtin F.entry_type_call ?_⟩
  rw [Around.under_plain (weight_type_call_type "set" [.ref l] []) rfl]
  have h1 := F.called_set.notType
  have h2 := F.called_set.canCreate
  have hct := F.typeCall_set_1 (.ref l)
  repeat (any_goals (first | assumption | wp_step))
  refine codeAny_mono (code_set_led1 (.ref l) (E := E) (Q₁ := fun obj z => obj = .ref s.heap.objs.size ∧ z = { s with heap := s.heap.push (emptySet w) }) ⟨rfl, rfl⟩) fun r s₁ hr => ?_
  cases r with
  | error e => exact hr
  | ok fl =>
    cases fl with
    | ret obj =>
      obtain ⟨rfl, rfl⟩ := hr
      have atNew : (s.heap.push (emptySet w)).get? s.heap.objs.size = some (emptySet w) := Heap.get?_push_size _ rfl
      have hT : Shared.TypeIs { s with heap := s.heap.push (emptySet w) } (.ref s.heap.objs.size) "set" := ⟨_, atNew, rfl⟩
      have hli := F.called_set.init.lookup
      have hbi := F.called_set.init.bind (.ref s.heap.objs.size)
      repeat (any_goals (first | assumption | wp_step))
      refine codeAny_mono (codeAny_call_builtin (R := wants (fun r z => r = .none ∧ ∃ h' tk c, z = { s with heap := h', toks := tk } ∧ SetR w h' s.heap.objs.size (fun j => decide (j ∈ ns)) c ∧ c ≤ ns.length ∧
        (∀ b o, s.heap.get? b = some o → h'.get? b = some o)) E) F.called_set.init.plain F.entry_set_init (check_set_init_1 hT ?_)) fun r₂ s₂ hr₂ => ?_
      · obtain ⟨⟨ocls, odict, odata, oslots⟩, hol, hcl, nl, hdl⟩ := hl
        simp only at hcl hdl
        subst hcl hdl
        have hol' : (s.heap.push (emptySet w)).get? l = some { cls := .type "list", dict := odict, data := .seq items nl, slots := oslots } := Heap.get?_push_of_some _ hol
        have hsls := F.sub_list_set
        have hslf := F.sub_list_frozenset
        have hne : (Value.type "list" == Value.type "dict") = false := by decide
        have here : (s.heap.push (emptySet w)).IsList l items := ⟨_, hol', rfl, nl, rfl⟩
        unfold Builtin.«set.__init__» noKeywords Builtin.Frozenset.updateFrom
        generalize hPI : pyIter = PI
        wp_walk
        subst hPI
        refine wpAny_pyIter_list here (wpAny_bind (wpAny_runValue ?_))
        have below : l < s.heap.objs.size := Heap.lt_size hol
        have top : (s.heap.push (emptySet w)).objs.size = s.heap.objs.size + 1 := Heap.size_push ..
        have apart : l ≠ (s.heap.push (emptySet w)).objs.size := by rw [top]; exact Nat.ne_of_lt (Nat.lt_succ_of_lt below)
        have out : s.heap.objs.size ∉ [(s.heap.push (emptySet w)).objs.size, l] := by
          simp only [List.mem_cons, List.not_mem_nil, or_false, not_or, top]
          exact ⟨Nat.ne_of_lt (Nat.lt_succ_self _), Nat.ne_of_gt below⟩
        have each : ∀ (i : Nat) (v : Value), items[i]? = some v → ∃ k t, ns[i]? = some k ∧ v = .int k t := by
          intro i v hv
          have lt : i < ns.length := by rw [← cnt]; exact (Array.getElem?_eq_some_iff.mp hv).1
          obtain ⟨t, e⟩ := PyProof.Rows.IntsAre.int_at hi i v (by rw [Array.getElem?_toList]; exact hv)
          exact ⟨ns[i], t, List.getElem?_eq_getElem lt, by rw [e, List.getD_eq_getElem?_getD, List.getElem?_eq_getElem lt]; rfl⟩
        refine set_update_ints ((Walks.list (by simp [calm]) _ l apart items).toS) s.heap.objs.size out ns cnt few each (items.size - 0) 0 _ (by omega) (Nat.zero_le _)
          ⟨⟨_, Heap.get?_push_size _ rfl, rfl, rfl⟩, here.push _⟩ ⟨0, Nat.le_refl 0, setR_new_at (Heap.get?_push_of_some _ atNew)⟩ fun s' c' hm hc' hS' => ?_
        obtain ⟨h', g2, d', tk', os'⟩ := s'
        have eg : g2 = s.gens := hm.gens
        have ed : d' = s.drawn := hm.drawn
        have eo : os' = s.os := hm.os
        subst eg ed eo
        show wpAny _ _ _ _ _ _
        refine wpAny_pure ?_
        show wpAny _ _ (ret Value.none) _ _ _
        refine wpAny_pure ⟨rfl, h', tk', c', rfl, hS', by omega, fun b o e => ?_⟩
        have lt := Heap.lt_size e
        exact hm.heap b o (by simp only [List.mem_cons, List.not_mem_nil, or_false, not_or, top]; exact ⟨Nat.ne_of_lt lt, Nat.ne_of_lt (Nat.lt_succ_of_lt lt)⟩) (Heap.get?_push_of_some _ (Heap.get?_push_of_some _ e))
      · cases r₂ with
        | error e => exact hr₂
        | ok fl₂ =>
          cases fl₂ with
          | ret r =>
            obtain ⟨rfl, h', tk, c', rfl, hS', hc', hk'⟩ := hr₂
            repeat (any_goals (first | assumption | wp_step))
            exact go _ _ _ hS' hc' hk'
          | _ => exact hr₂.elim
    | _ => exact hr.elim
end
section
variable {X : Cx}
theorem intsOf : ∀ {ns : List Int} {us : List Value}, Vals (ns.map V.int) us → PyProof.Rows.IntsAre us ns
  | [], _, .nil => .nil
  | n :: ns, _, .cons ⟨k, e⟩ t => by subst e; exact .cons n k (intsOf t)
/-- set(xs), xs a list of ints -/
def rSetI (K : PySem.W.Frag) (w : World) : List V → Hp → VK → Prop := fun vs H Q => ∃ (a : Addr) (ns : List Int), vs = [V.ref a] ∧ SqL K H a (ns.map V.int) ∧ ns.length < 1000 ∧
  ∀ (p : Addr) (c : Nat), H p = none → c ≤ ns.length → Q (.ref p) (upd H p (SetO w p (fun j => decide (j ∈ ns)) c))
theorem cr_setI (hc : X.calm = true) : CallR X (.type "set") (rSetI X.K X.w) := by
  intro pins s σ H vs us Q I r h
  obtain ⟨a, ns, rfl, hs, hn, q⟩ := h
  rw [Vals.ref1 r]
  obtain ⟨its, rv, pl, hz⟩ := I.list hs
  refine set_of_list ns (I.ok.hd hc) pl.isList (by simpa using intsOf rv) (by unfold scanBound; omega) fun h' tk c R hc' k => ?_
  have hn : H s.heap.objs.size = none := I.hok.fresh (Nat.le_refl _)
  exact ⟨.ref _, upd H s.heap.objs.size (SetO X.w s.heap.objs.size (fun j => decide (j ∈ ns)) c), I.laid (t' := tk) k (Nat.le_refl _) (setO_new R), rfl, q _ c hn hc'⟩
end
end Rp

namespace Rp
open PySem L2
/-! ### TERMs -/
inductive Tm where
  | v (n : Int) | z | s (t : Tm) | f (l r : Tm)
  deriving DecidableEq
namespace Tm
def size : Tm → Nat
  | v _ => 1 | z => 1 | s t => t.size + 1 | f l r => l.size + r.size + 1
def deep : Tm → Nat
  | v _ => 0 | z => 0 | s t => t.deep + 1 | f l r => max l.deep r.deep + 1
def nums : Tm → List Int
  | v n => [n] | z => [] | s t => t.nums | f l r => l.nums ++ r.nums
/-- all parts, the whole first, the right-hand ones ahead of the left-hand ones -/
def rpost : Tm → List Tm
  | v n => [v n] | z => [z] | s t => s t :: t.rpost | f l r => f l r :: (r.rpost ++ l.rpost)
def kids : Tm → List Tm
  | v _ => [] | z => [] | s t => [t] | f l r => [l, r]
theorem size_pos : ∀ t : Tm, 1 ≤ t.size
  | v _ => Nat.le_refl _ | z => Nat.le_refl _ | s _ => by unfold size; omega | f _ _ => by unfold size; omega
theorem deep_lt : ∀ t : Tm, t.deep < t.size
  | v _ => Nat.zero_lt_one | z => Nat.zero_lt_one | s t => by have := deep_lt t; unfold deep size; omega
  | f l r => by have := deep_lt l; have := deep_lt r; unfold deep size; omega
theorem rpost_len : ∀ t : Tm, t.rpost.length = t.size
  | v _ => rfl | z => rfl | s t => by unfold rpost size; rw [List.length_cons, rpost_len t]
  | f l r => by unfold rpost size; rw [List.length_cons, List.length_append, rpost_len l, rpost_len r]; omega
/-- an int among the parts -/
theorem mem_rpost (n : Int) : ∀ t : Tm, v n ∈ t.rpost ↔ n ∈ t.nums
  | v m => by unfold rpost nums; simp
  | z => by unfold rpost nums; simp
  | s t => by unfold rpost nums; have := mem_rpost n t; simp [this]
  | f l r => by unfold rpost nums; have := mem_rpost n l; have := mem_rpost n r; simp [*]; exact Or.comm
theorem rpost_kids (t : Tm) : t.rpost = t :: (t.kids.reverse.flatMap rpost) := by
  cases t <;> simp [rpost, kids]
theorem kids_size (t : Tm) : (t.kids.map size).sum + 1 = t.size := by
  cases t <;> simp [kids, size] <;> omega
theorem nums_len : ∀ t : Tm, t.nums.length ≤ t.size
  | v _ => Nat.le_refl _ | z => Nat.zero_le _ | s t => by have := nums_len t; unfold nums size; omega
  | f l r => by have := nums_len l; have := nums_len r; unfold nums size; rw [List.length_append]; omega
/-- all signs, as law's leaves has them -/
def signs : Tm → List V
  | v n => [.int n] | z => [.str "0"] | s t => .str "s" :: t.signs | f l r => .str "f" :: (l.signs ++ r.signs)
theorem signs_len : ∀ t : Tm, t.signs.length = t.size
  | v _ => rfl | z => rfl | s t => by unfold signs size; rw [List.length_cons, signs_len t]
  | f l r => by unfold signs size; rw [List.length_cons, List.length_append, signs_len l, signs_len r]
end Tm
/-- the ints of a row of ints and texts -/
def rowInts : List V → List Int
  | [] => []
  | .int n :: r => n :: rowInts r
  | _ :: r => rowInts r
theorem rowInts_append : ∀ a b : List V, rowInts (a ++ b) = rowInts a ++ rowInts b
  | [], b => rfl
  | x :: r, b => by cases x <;> simp [rowInts, rowInts_append r b]
theorem signs_nums : ∀ t : Tm, rowInts t.signs = t.nums
  | .v _ => rfl | .z => rfl | .s t => by simp [Tm.signs, Tm.nums, rowInts, signs_nums t]
  | .f l r => by simp [Tm.signs, Tm.nums, rowInts, rowInts_append, signs_nums l, signs_nums r]
/-- a row of ints and texts -/
def Flat2 : V → Prop
  | .int _ => True
  | .str _ => True
  | _ => False
theorem signs_flat : ∀ t : Tm, ∀ x ∈ t.signs, Flat2 x
  | .v _, x, h => by simp [Tm.signs] at h; subst h; trivial
  | .z, x, h => by simp [Tm.signs] at h; subst h; trivial
  | .s t, x, h => by
    simp only [Tm.signs, List.mem_cons] at h
    rcases h with h | h
    · subst h; trivial
    · exact signs_flat t x h
  | .f l r, x, h => by
    simp only [Tm.signs, List.mem_cons, List.mem_append] at h
    rcases h with h | h | h
    · subst h; trivial
    · exact signs_flat l x h
    · exact signs_flat r x h
/-! ### two rising rows of the same ints are one -/
theorem rising_one : ∀ {a b : List Int}, a.Pairwise (· < ·) → b.Pairwise (· < ·) → (∀ k, k ∈ a ↔ k ∈ b) → a = b
  | [], [], _, _, _ => rfl
  | [], y :: b, _, _, h => by have := (h y).2 (by simp); simp at this
  | x :: a, [], _, _, h => by have := (h x).1 (by simp); simp at this
  | x :: a, y :: b, ha, hb, h => by
    rw [List.pairwise_cons] at ha hb
    have exy : x = y := by
      rcases List.mem_cons.mp ((h x).1 (by simp)) with e | e
      · exact e
      · rcases List.mem_cons.mp ((h y).2 (by simp)) with e' | e'
        · exact e'.symm
        · have := hb.1 x e
          have := ha.1 y e'
          omega
    subst exy
    rw [rising_one ha.2 hb.2 fun k => ?_]
    constructor
    · intro hk
      rcases List.mem_cons.mp ((h k).1 (List.mem_cons_of_mem _ hk)) with e | e
      · have := ha.1 k hk; omega
      · exact e
    · intro hk
      rcases List.mem_cons.mp ((h k).2 (List.mem_cons_of_mem _ hk)) with e | e
      · have := hb.1 k hk; omega
      · exact e
/-! ### heaps -/
/-- all but b stays -/
def But (b : Addr) (H H' : Hp) : Prop := ∀ c o, H c = some o → c ≠ b → H' c = some o
theorem But.refl (b : Addr) (H : Hp) : But b H H := fun _ _ h _ => h
theorem But.trans {b : Addr} {H H1 H2 : Hp} (x : But b H H1) (y : But b H1 H2) : But b H H2 := fun c o h n => y c o (x c o h n) n
theorem but_of {b : Addr} {H H' : Hp} (x : Same H H') : But b H H' := fun c o h _ => x c o h
theorem same_new {H : Hp} {p : Addr} (h : H p = none) (o : HO) : Same H (upd H p o) := fun b u q => by rw [upd_ne (ne_of_none q h)]; exact q
theorem but_upd {H : Hp} {b : Addr} (o : HO) : But b H (upd H b o) := fun c u h n => by rw [upd_ne n]; exact h
/-- the box of draws: j bounds how often it was drawn from -/
structure BoxAt (H : Hp) (b : Addr) (j : Nat) : Prop where
  ex : ∃ x y z : Int, H b = some (.lst [.int x, .int y, .int z]) ∧ 0 ≤ x ∧ 0 ≤ y ∧ y < 10000000000 ∧ 0 ≤ z ∧ z ≤ (j : Int)
theorem BoxAt.same {H H' : Hp} {b : Addr} {j : Nat} (B : BoxAt H b j) (e : Same H H') : BoxAt H' b j := by
  obtain ⟨x, y, z, h, r⟩ := B.ex
  exact ⟨x, y, z, e _ _ h, r⟩
theorem BoxAt.more {H : Hp} {b : Addr} {j k : Nat} (B : BoxAt H b j) (h : j ≤ k) : BoxAt H b k := by
  obtain ⟨x, y, z, e, h1, h2, h3, h4, h5⟩ := B.ex
  exact ⟨x, y, z, e, h1, h2, h3, h4, by omega⟩
theorem BoxAt.some {H : Hp} {b : Addr} {j : Nat} (B : BoxAt H b j) : ∃ xs, H b = some (.lst xs) := by
  obtain ⟨x, y, z, e, _⟩ := B.ex
  exact ⟨_, e⟩
/-- a TERM stands as the value v -/
inductive TmAt (H : Hp) : V → Tm → Prop where
  | v (n : Int) : TmAt H (.int n) (.v n)
  | z {a : Addr} (h : H a = some (.tup [.str "0"])) : TmAt H (.ref a) .z
  | s {a : Addr} {x : V} {t : Tm} (h : H a = some (.tup [.str "s", x])) (q : TmAt H x t) : TmAt H (.ref a) (.s t)
  | f {a : Addr} {x y : V} {l r : Tm} (h : H a = some (.tup [.str "f", x, y])) (q : TmAt H x l) (q' : TmAt H y r) : TmAt H (.ref a) (.f l r)
theorem TmAt.mono {H H' : Hp} (e : ∀ a xs, H a = some (.tup xs) → H' a = some (.tup xs)) {v : V} {t : Tm} (h : TmAt H v t) : TmAt H' v t := by
  induction h with
  | v n => exact .v n
  | z h => exact .z (e _ _ h)
  | s h _ ih => exact .s (e _ _ h) ih
  | f h _ _ ih ih' => exact .f (e _ _ h) ih ih'
theorem TmAt.same {H H' : Hp} (e : Same H H') {v : V} {t : Tm} (h : TmAt H v t) : TmAt H' v t := h.mono fun a xs q => e a _ q
theorem TmAt.but {H H' : Hp} {b : Addr} {ys : List V} (e : But b H H') (hb : H b = some (.lst ys)) {v : V} {t : Tm} (h : TmAt H v t) : TmAt H' v t :=
  h.mono fun a xs q => e a _ q (ne_of q hb (by intro z; cases z))
/-! ### what is alike, kind by kind (to a depth) -/
def Plain : V → Prop
  | .non => True
  | .bl _ => True
  | .int _ => True
  | .str _ => True
  | _ => False
def Alike (H : Hp) : Nat → V → V → Prop
  | 0, x, y => Plain x ∧ x = y
  | n + 1, x, y => (Plain x ∧ x = y) ∨ ∃ a b xs ys, x = .ref a ∧ y = .ref b ∧ ((H a = some (.lst xs) ∧ H b = some (.lst ys)) ∨ (H a = some (.tup xs) ∧ H b = some (.tup ys))) ∧
      xs.length = ys.length ∧ xs.length ≤ 1000000 ∧ ∀ (i : Nat) (u v : V), xs[i]? = some u → ys[i]? = some v → Alike H n u v
theorem Alike.mono {H H' : Hp} (e : Same H H') : ∀ (n : Nat) {x y : V}, Alike H n x y → Alike H' n x y
  | 0, _, _, h => by unfold Alike at h ⊢; exact h
  | n + 1, x, y, h => by
    unfold Alike at h ⊢
    rcases h with h | ⟨a, b, xs, ys, h1, h2, h3, h4, h5, h6⟩
    · exact .inl h
    · exact .inr ⟨a, b, xs, ys, h1, h2, h3.imp (fun q => ⟨e _ _ q.1, e _ _ q.2⟩) (fun q => ⟨e _ _ q.1, e _ _ q.2⟩), h4, h5, fun i u v p q => Alike.mono e n (h6 i u v p q)⟩
theorem alike_ints {H : Hp} {n : Nat} {a b : Addr} {ns : List Int} (ha : H a = some (.lst (ns.map V.int))) (hb : H b = some (.lst (ns.map V.int))) (hl : ns.length ≤ 1000000) : Alike H (n + 1) (.ref a) (.ref b) := by
  unfold Alike
  refine .inr ⟨a, b, _, _, rfl, rfl, .inl ⟨ha, hb⟩, rfl, by rw [List.length_map]; exact hl, fun i u v h1 h2 => ?_⟩
  have e : u = v := Option.some.inj (h1.symm.trans h2)
  subst e
  rw [List.getElem?_map] at h1
  cases q : ns[i]? with
  | none => rw [q] at h1; cases h1
  | some k =>
    rw [q] at h1
    cases h1
    cases n with
    | zero => unfold Alike; exact ⟨trivial, rfl⟩
    | succ n => unfold Alike; exact .inl ⟨trivial, rfl⟩
end Rp

/-! Defs whose body asks for the repr of lists and tuples: their promise is kept where no repr is at work (the around's guards are told to be none), and so where the law itself is called. -/
namespace Rp
open PySem PySem.Spec PyProof.Rows L2
structure GnOk (P : Program) (w : World) (K : PySem.W.Frag) (mg : Str → Option Value) (base : Heap) (k : Nat) (f : Addr) (fd : FuncData) (ps : List Str) (sp : Sp) : Prop where
  len : ∀ vs H Q E, sp vs H Q E → vs.length = ps.length
  run : ∀ (A : Around) (outer : List Env) (s : Shared) (H : Hp) (args : Args) (us : List Value) (vs : List V) (Q : VK) (E : XK), A.guards = some [] → Room k A → Env0 P w K mg base A outer s H → BindsTo s fd args (ps.zip us) → Vals vs us → sp vs H Q E →
    codeAny (model P w) A (.call (.ref f) args) (CR CX0 outer P w H s Q E) s
section
variable {P : Program} {w : World} {K : PySem.W.Frag} {mg : Str → Option Value} {base : Heap}
/-- a def by its body, the guards told -/
theorem gok {x qual : Str} {st : Stmt} {f : Addr} {fd : FuncData} {N ps : List Str} {k : Nat} {sp : Sp} (F : Fun K x qual st f fd) (S : FnScope N ps (defScope st)) (len : ∀ vs H Q E, sp vs H Q E → vs.length = ps.length)
    (walk : ∀ (cdv : Value) (A : Around) (outer : List Env) (s : Shared) (H : Hp) (vs : List V) (Q : VK) (E : XK), A.guards = some [] → Room k (A.deeper (envOfC qual (defScope st) s.heap.objs.size f cdv)) → sp vs H Q E →
      ∃ t, PSs (cxOf CX0 P w K mg base N qual (defScope st) f cdv A outer s H E).nox (defBody st) t ∧ t { nx := fun _ H' => Q .non H', rt := Q } (start N vs) H) : GnOk P w K mg base (k + 1) f fd ps sp := by
  obtain ⟨oc, od, kV, doc, pm, an, cdv, ct, osl, rfl, lk, hcd⟩ := F.ex
  refine ⟨len, fun A outer s H args us vs Q E hg hr e0 hb r hsp => ?_⟩
  have K0 : K.In s.heap := e0.mod.kin.keeps fun b o e => (e0.bs b o e).1
  have L0 : s.heap.NoLimit := e0.mod.nolimit.keeps fun b o e => (e0.bs b o e).1
  have each : ∀ y ∈ ps.zip us, (defScope st).names.lookup y.1 = some .local ∨ ((defScope st).names.lookup y.1 = some .cell ∧ ((cellsFrom (s.heap.objs.size + 1) (defScope st).names []).lookup y.1).isSome = true) := by
    rintro ⟨n, v⟩ hy
    exact (S.par n (List.of_mem_zip hy).1).imp id fun q => ⟨q, PySem.W.cellsFrom_some _ _ _ (.inl q)⟩
  refine codeAny_call_function hr.depth (K0 _ _ lk) rfl S.co S.gen rfl (PySem.W.codeRec_of K0 hcd) (hb _ _ _ _ (wpAny_newFunctionEnv_cells S.kind each fun env he s1 z => ?_))
  subst he
  refine ⟨L0.keeps z.toInCall.keep, codeAny_func ?_⟩
  obtain ⟨t, ht, hq⟩ := walk cdv A outer s H vs Q E hg (hr.deeper _) hsp
  have I : L2.Inv (cxOf CX0 P w K mg base N qual (defScope st) f cdv A outer s H E) [] (start N vs) H s1 := inv_start S hr.hd e0 (len _ _ _ _ hsp) r z
  refine wpAny_mono (ht.nox.run [] s1 (start N vs) H _ I hq) (fun fl s' hs => ?_) fun e s' hs => hs
  rcases fl with _ | _ | _ | u
  · obtain ⟨_, H', J, q⟩ := hs
    exact ⟨V.non, H', J.os, J.bare, J.base, J.hok, rfl, q⟩
  · exact hs.choose_spec.choose_spec.2.elim
  · exact hs.choose_spec.choose_spec.2.elim
  · obtain ⟨v, _, H', J, rv, q⟩ := hs
    exact ⟨v, H', J.os, J.bare, J.base, J.hok, rv, q⟩
end
section
variable {X : Cx} {k : Nat} {f : Addr} {fd : FuncData} {ps : List Str} {sp : Sp} {E : XK} {x : Str} {p pos : Pos} {e : Expr} {es : List Expr} {t : TA}
theorem pe_callG (F : GnOk X.prog X.w X.K X.mg X.base k f fd ps sp) (hgd : X.A.guards = some []) (hr : Room k X.A) (hg : Gl X x) (hm : X.mg x = some (.ref f)) (hk : PySem.W.keepIn X.K (.ref f) = true) (hb : Binds X.K fd ps []) (ha : PA X (e :: es) t)
    (hdb : (x == ("__debug__" : Str)) = false := by decide) (he : starEach (e :: es) X.env = (false, eval e X.env) :: starEach es X.env := by rfl) (hpl : (backTo pos (starEach es X.env)).any (·.1) = false := by rfl) :
    PE X (.Call (.Name x p) (e :: es) [] pos) (tCall sp [] E0 t) := by
  refine ⟨fun pins s σ H Q I h => wpAny_Call_Name_kw (ld_glob I hg hm ?_ hdb)⟩
  refine PySem.W.callWith_K (h₀ := X.base) I.ok.mod.kin hk (thn (ha.run pos pins s σ H _ I h) fun us s1 ⟨vs, H1, I1, r, q⟩ => ⟨I1.kIn, ?_⟩) he hpl
  have q : sp vs H1 Q E0 := by
    have z : sp (vs ++ []) H1 Q E0 := q
    rwa [List.append_nil] at z
  have hl : us.length = ps.length := r.length.symm.trans (F.len _ _ _ _ q)
  have hb' := hb s1 us I1.kIn (by rw [List.append_nil]; exact hl)
  rw [List.append_nil] at hb'
  refine wpAny_call (codeAny_mono (F.run X.A X.stack s1 H1 ⟨us, []⟩ us vs Q E0 hgd hr I1.env0 hb' r q) fun r' s' hq => ?_)
  rcases r' with e' | fl
  · exact hq.elim
  · rcases fl with _ | _ | _ | u
    · exact hq.elim
    · exact hq.elim
    · exact hq.elim
    · exact I1.after hq
/-- repr(v), v data at any depth -/
def rReprD (K : PySem.W.Frag) : List V → Hp → VK → Prop := fun vs H Q => ∃ (v : V) (d : PyData), vs = [v] ∧ Dp K H v d ∧ d.showable = true ∧ d.hasDict = false ∧ d.depth ≤ 64 ∧ d.shown.length ≤ sizeLine ∧ Q (.str d.shown) H
theorem cr_reprD (hgd : X.A.guards = some []) (hu : X.A.units + 66 < cLine) : CallR X (.builtin "repr") (rReprD X.K) := by
  intro pins s σ H vs us Q I r h
  obtain ⟨v, d, rfl, hd, sh, nd, dp, sz, q⟩ := h
  obtain ⟨u, rfl, ru⟩ := vals1 r
  obtain ⟨as, rd⟩ := Dp.reads I d v u hd ru
  cases hd with
  | non => cases ru; exact PySem.P.repr_of_none ⟨.str "None", H, I.tok _, ⟨_, rfl⟩, by simpa [PyData.shown] using q⟩
  | bl b => cases ru; exact PySem.P.repr_of_bool ⟨.str (if b then "True" else "False"), H, I.tok _, ⟨_, rfl⟩, by simpa [PyData.shown] using q⟩
  | int i =>
    obtain ⟨t, rfl⟩ := ru
    exact PySem.P.repr_of_int (by simpa [PyData.showable] using sh) ⟨.str (toString i), H, I.tok _, ⟨_, rfl⟩, by simpa [PyData.shown] using q⟩
  | str x =>
    obtain ⟨t, rfl⟩ := ru
    exact PySem.P.repr_of_str ⟨.str (reprText x), H, I.tok _, ⟨_, rfl⟩, by simpa [PyData.shown] using q⟩ (by simpa [PyData.shown] using sz)
  | lst a b =>
    cases ru
    exact PySem.repr_of_reads' rd sh (fun e => by rw [nd] at e; cases e) hgd (by omega) (fun _ _ e => e) (fun h' u tk k => ⟨.str _, H, I.kept (t' := tk) k, ⟨u, rfl⟩, q⟩) sz
  | tup a b =>
    cases ru
    exact PySem.repr_of_reads' rd sh (fun e => by rw [nd] at e; cases e) hgd (by omega) (fun _ _ e => e) (fun h' u tk k => ⟨.str _, H, I.kept (t' := tk) k, ⟨u, rfl⟩, q⟩) sz
end
/-- the law's own call, its promise with the guards told -/
theorem law_callG {P : Program} {w : World} {K : PySem.W.Frag} {mg mb : Str → Option Value} {k : Nat} {fa a : Addr} {fd : FuncData} {x : Str} {sp : Sp} {s₁ : Shared} {vs : List Value} {ns : List Int}
    (KX : K.In s₁.heap) (hns : s₁.heap.Ns mainGlobals mg) (hb : s₁.heap.Ns builtinsNs mb) (hbb : ∀ x : Str, x ≠ "__name__" → mb x = bootBuiltins x) (hlim : s₁.heap.NoLimit) (hg : s₁.gens = #[])
    (ha : s₁.heap.get? a = some { cls := .type "list", data := .seq vs.toArray }) (hi : IntsAre vs ns) (hl : ns.length ≤ sizeLine) (hr : Room k callerA)
    (F : ∀ base : Heap, K.In base → base.Ns mainGlobals mg → GnOk P w K mg base k fa fd [x] sp) (bind : ∀ (s : Shared) (u : Value), BindsTo s fd ⟨[u], []⟩ [(x, u)])
    (ask : ∀ H : Hp, Only H → SqL K H a (ns.map V.int) → sp [.ref a] H (fun v _ => v = .bl true) E0) :
    codeAny (model P w) callerA (.call (.ref fa) ⟨[.ref a], []⟩) (fun r s' => r = .ok (.ret (.bool true)) ∧ OldK s₁.heap s'.heap ∧ s'.os = s₁.os ∧ AllBare s'.gens) s₁ := by
  have rv := vals_ints hi
  have lenV := hi.length
  have from_ : ∀ H : Hp, Only H → SqL K H a (ns.map V.int) → HOk P w H s₁.heap → (∀ b, H b ≠ none → b = a ∧ K.lookup a = none) →
      codeAny (model P w) callerA (.call (.ref fa) ⟨[.ref a], []⟩) (fun r s' => r = .ok (.ret (.bool true)) ∧ OldK s₁.heap s'.heap ∧ s'.os = s₁.os ∧ AllBare s'.gens) s₁ := by
    intro H only hS hok hA
    have free : ∀ {b : Addr} {o : Obj}, s₁.heap.get? b = some o → (b = a → False) → H b = none := fun {b o} _ n => by
      cases q : H b with
      | none => rfl
      | some u => exact (n (hA b (by rw [q]; simp)).1).elim
    have low : ∀ {b : Addr} {o : Obj}, s₁.heap.get? b = some o → H b = none → (hidT s₁.heap H).get? b = some o := fun e n => hidT_get e n
    have names : ∀ {b : Addr} {m : Str → Option Value}, s₁.heap.Ns b m → (hidT s₁.heap H).Ns b m := fun {b m} ⟨o, es, ep, e, d, r⟩ =>
      ⟨o, es, ep, low e (free e fun z => by subst z; rw [ha] at e; cases e; cases d), d, r⟩
    have hK : K.In (hidT s₁.heap H) := fun b o e => low (KX b o e) (by
      cases q : H b with
      | none => rfl
      | some u =>
        obtain ⟨z, zk⟩ := hA b (by rw [q]; simp)
        subst z
        rw [zk] at e; cases e)
    have M : Mod K mg (hidT s₁.heap H) := ⟨hK, names hns, ⟨mb, names hb, hbb⟩, let ⟨mc, h1, h2⟩ := hlim; ⟨mc, names h1, h2⟩⟩
    have e0 : Env0 P w K mg (hidT s₁.heap H) callerA [] s₁ H := ⟨rfl, M, fun b o e => of_hidT e, Nat.le_of_eq (hidT_size _ _), trivial, fun b z => absurd (show b ∈ ([] : List Addr) from z) (by simp), hok, .of_eq hg⟩
    refine codeAny_mono ((F _ hK (names hns)).run callerA [] s₁ H ⟨[.ref a], []⟩ [.ref a] [.ref a] _ _ rfl hr e0 (bind s₁ (.ref a)) (.cons rfl .nil) (ask H only hS)) fun r s' h => ?_
    rcases r with e | fl
    · exact h.elim
    · rcases fl with _ | _ | _ | u
      · exact h.elim
      · exact h.elim
      · exact h.elim
      · obtain ⟨v, H', os, bare, un, hok', r', q⟩ := h
        obtain rfl : v = .bl true := q
        obtain rfl : u = Value.bool true := r'
        refine ⟨rfl, OldK.of_keep fun b o e => ?_, os, bare⟩
        cases q : H b with
        | none => exact un.keep b o e q (by intro z; exact absurd (show b ∈ ([] : List Addr) from z) (by simp)) (by simp)
        | some u =>
          rcases only b with z | ⟨ob, xs, z⟩
          · rw [q] at z; cases z
          · obtain ⟨e1, _⟩ := hok b _ z
            obtain ⟨e2, _⟩ := hok' b _ (un.frzs b ob _ z)
            rw [e] at e1; cases e1
            exact e2
  cases hk : K.lookup a with
  | some o =>
    have e := KX a o hk
    rw [ha] at e
    cases e
    exact from_ (fun _ => none) (fun _ => .inl rfl) (.inr ⟨_, vs.toArray, _, hk, rfl, rfl, rfl, by rw [List.size_toArray, lenV]; exact hl, by simpa using rv⟩) (fun b u z => nomatch (show (none : Option HO) = some u from z)) fun b z => absurd rfl z
  | none =>
    have at_ : ∀ b, (fun b => if b = a then some (HO.frz { cls := .type "list", data := .seq vs.toArray } (.lst (ns.map V.int))) else none) b ≠ none → b = a := fun b z => by
      by_cases hb : b = a
      · exact hb
      · exact absurd (if_neg hb) z
    refine from_ _ (fun b => ?_) (.inl (.inr ⟨_, if_pos rfl⟩)) (fun b u z => ?_) fun b z => ⟨at_ b z, hk⟩
    · by_cases hb : b = a
      · exact .inr ⟨_, _, if_pos hb⟩
      · exact .inl (if_neg hb)
    · have hb := at_ b (fun e => by have y := z.symm.trans e; cases y)
      subst hb
      have z' := (if_pos rfl).symm.trans z
      cases z'
      exact ⟨ha, by rw [List.length_map]; exact hl, vs, _, rv, ha⟩
theorem walk_ofG {l : PySem.W.OpenLaw} {n k : Nat} {q : Program} {loose : List Str} {XP : (Str → Option Value) → Heap → Prop} {YP : World → Heap → Prop} {d : DefRec} {K : Params → PySem.W.Frag} {sp : PySem.W.Frag → Sp} {x : Str}
    (hn : l.most = some n) (hn2 : n ≤ sizeLine) (hdf : d.params.defaults = []) (hr : Room k callerA) (hY : ∀ (w : World) (h : Heap), YP w h → (K w.params).In h)
    (F : ∀ (w : World) (mg : Str → Option Value) (fa : Addr) (h : Heap), (K w.params).In h → h.Ns mainGlobals mg → mg d.name = some (.ref fa) →
      ∃ fd : FuncData, (∀ (s : Shared) (u : Value), BindsTo s fd ⟨[u], []⟩ [(x, u)]) ∧ ∀ base : Heap, (K w.params).In base → base.Ns mainGlobals mg → GnOk l.prog w (K w.params) mg base k fa fd [x] (sp (K w.params)))
    (ask : ∀ (K : PySem.W.Frag) (H : Hp) (a : Addr) (ns : List Int), ns.length ≤ n → Only H → SqL K H a (ns.map V.int) → sp K [.ref a] H (fun v _ => v = .bl true) E0) :
    PySem.W.WalkO q loose XP YP l.row.toRowW d [] (fun f vs => PySem.call f vs) := by
  refine Att.attach_call hn hdf fun w s₀ s₁ mg mb fa o pm cd doc a vs ns G Y ho hd hcd hmg hobj hints hlen hg => ?_
  obtain ⟨fd, hb, hF⟩ := F w mg fa _ (hY w _ Y) G.T.g hmg
  exact law_callG (hY w _ Y) G.T.g G.T.b G.T.builtins G.T.nolimit hg hobj hints (Nat.le_trans hlen hn2) hr hF hb fun H hO hS => ask _ H a ns hlen hO hS
end Rp

namespace Rp
open PySem L2
def top (i : Nat) : Stmt := PySem.Challenge.pw_ringproofs_k01_words_and_refusals.main.body.getD i (.Pass ⟨0, 0, 0, 0⟩)
abbrev sInit : Stmt := top 2
abbrev sBox : Stmt := top 21
abbrev sTake : Stmt := top 22
abbrev sPick : Stmt := top 23
abbrev sSame : Stmt := top 24
abbrev sMade : Stmt := top 25
abbrev sMore : Stmt := top 26
abbrev sKinds : Stmt := top 27
abbrev sThing : Stmt := top 28
abbrev sLaw : Stmt := top 29
end Rp

namespace Rp
open PySem L2
/-! ### promises -/
def spBox (K : PySem.W.Frag) : Sp := fun vs H Q _ => ∃ (a : Addr) (ns : List Int) (k : Int), vs = [.ref a, .int k] ∧ SqL K H a (ns.map V.int) ∧ ns.length ≤ 63 ∧ 0 ≤ k ∧ k ≤ 63 ∧
  ∀ (b : Addr) (H' : Hp), H b = none → BoxAt H' b 0 → Same H H' → Q (.ref b) H'
def spTake : Sp := fun vs H Q _ => ∃ (b : Addr) (c : Int) (j : Nat), vs = [.ref b, .int c] ∧ BoxAt H b j ∧ j ≤ 1000000 ∧ 1 ≤ c ∧ c ≤ 1000000000 ∧
  ∀ (r : Int) (H' : Hp), 0 ≤ r → r < c → BoxAt H' b (j + 1) → But b H H' → Q (.int r) H'
def spPick : Sp := fun vs H Q _ => ∃ (b p : Addr) (xs : List V) (j : Nat), vs = [.ref b, .ref p] ∧ BoxAt H b j ∧ j ≤ 1000000 ∧ H p = some (.lst xs) ∧ p ≠ b ∧ 1 ≤ xs.length ∧ xs.length ≤ 1000000 ∧
  ∀ (v : V) (H' : Hp), v ∈ xs → BoxAt H' b (j + 1) → But b H H' → Q v H'
section
variable {P : Program} {w : World} {K : PySem.W.Frag} {mg : Str → Option Value} {base : Heap}
theorem fmod_pos {a c : Int} (h : 0 < c) : 0 ≤ a.fmod c ∧ a.fmod c < c := by
  rw [Int.fmod_eq_emod_of_nonneg a (Int.le_of_lt h)]
  exact ⟨Int.emod_nonneg a (by omega), Int.emod_lt_of_pos a h⟩
theorem fdiv_pos {a c : Int} (h : 0 < c) (ha : 0 ≤ a) : 0 ≤ a.fdiv c := by
  rw [Int.fdiv_eq_ediv_of_nonneg a (Int.le_of_lt h)]
  exact Int.ediv_nonneg ha (Int.le_of_lt h)
theorem scBox : FnScope ["_law_script", "_law_k", "_law_cell"] ["_law_script", "_law_k"] (defScope sBox) := ⟨rfl, rfl, rfl, by decide +kernel, rfl, by decide +kernel, by decide +kernel⟩
theorem ok_box {f : Addr} {fd : FuncData} (F : Fun K "_law_box" "_law_box" sBox f fd) (mLen : mg "len" = none) (mAbs : mg "abs" = none) (mInt : mg "int" = none) :
    FnOk P w K mg base CX0 1 f fd ["_law_script", "_law_k"] (spBox K) := by
  refine F.ok scBox (fun vs H Q E h => ?_) (fun cdv A outer s H vs Q E hr h => ?_)
  · obtain ⟨a, ns, k, rfl, _⟩ := h
    rfl
  obtain ⟨a, ns, k, rfl, hS, hl, h0, h1, q⟩ := h
  refine ⟨_, pss_cons (ps_set (i := 2) scBox.nd rfl (Or.inl rfl) pe_int)
    (pss_cons (ps_if (pt_cmpR op_lt (pv 1) (pe_callB call_len_seq (by rfl) mLen PySem.boot_len (pa_cons (pv 0) pa_nil)) (nomark _))
      (pss_one (ps_set (i := 2) scBox.nd rfl (Or.inl rfl) (pe_ix ix_list (pv 0) (pv 1) (fun _ _ => rfl)))) pss_nil)
    (pss_one (ps_ret (pe_lst (pa_cons
      (pe_op op_mul (pe_callB call_abs (by rfl) mAbs (by decide +kernel) (pa_cons (pv 2) pa_nil))
        (pe_callTy call_int1 (by rfl) mInt (by decide +kernel) (pa_cons (pe_cmpR op_ge (pe_callB call_abs (by rfl) mAbs (by decide +kernel) (pa_cons (pv 2) pa_nil)) (pe_op op_pow pe_int pe_int) (nomark _)) pa_nil)))
      (pa_cons (pe_op op_add (pe_op op_add (pe_op op_modN (pv 2) pe_int) (pe_op op_mul pe_int (pv 1))) pe_int) (pa_cons pe_int pa_nil))))))), ?_⟩
  refine ⟨_, rfl, _, rfl, a, _, rfl, .inl hS, _, _, rfl, rfl, _, rfl, ?_⟩
  have two : ∀ (b : Bool), -(2 ^ 64) < (if b = true then (1 : Int) else 0) ∧ (if b = true then (1 : Int) else 0) < 2 ^ 64 ∧ 0 ≤ (if b = true then (1 : Int) else 0) := by decide
  have pos : ∀ c : Int, 0 ≤ if c < 0 then -c else c := fun c => by split <;> omega
  have m := fun c : Int => fmod_pos (a := c) (c := 2147483629) (by decide)
  refine ite2 (fun c => ?_) (fun c => ?_)
  · have hk : k.toNat < ns.length := by
      have z : k < (((ns.map V.int).length : Nat) : Int) := of_decide_eq_true c
      rw [List.length_map] at z
      omega
    have it : atI (ns.map V.int) k = some (.int ns[k.toNat]) := at_of (j := k.toNat) (by omega) (by rw [List.getElem?_map, List.getElem?_eq_getElem hk]; rfl)
    refine ⟨_, rfl, _, rfl, a, _, _, _, rfl, rfl, hS, it, ?_⟩
    refine ⟨_, rfl, _, rfl, _, rfl, _, rfl, _, _, rfl, rfl, ⟨by decide, by decide, by decide⟩, _, _, rfl, rfl, .inr ⟨_, rfl, ?_⟩⟩
    refine ⟨_, _, rfl, rfl, .inr ⟨(two _).1, (two _).2.1⟩, _, rfl, _, _, rfl, rfl, (fun h => absurd h (by decide)), _, rfl, _, _, rfl, rfl, .inl ⟨by decide, by decide⟩, _, _, rfl, rfl, _, _, rfl, rfl, (by show 3 ≤ sizeLine; decide), fun b hb => ?_⟩
    have mm := m ns[k.toNat]
    exact q b _ hb ⟨_, _, _, upd_same, Int.mul_nonneg (pos _) (two _).2.2, by omega, by omega, by decide, by decide⟩ (same_new hb _)
  · refine ⟨_, rfl, _, rfl, _, rfl, _, rfl, _, _, rfl, rfl, ⟨by decide, by decide, by decide⟩, _, _, rfl, rfl, .inr ⟨_, rfl, ?_⟩⟩
    refine ⟨_, _, rfl, rfl, .inr ⟨(two _).1, (two _).2.1⟩, _, rfl, _, _, rfl, rfl, (fun h => absurd h (by decide)), _, rfl, _, _, rfl, rfl, .inl ⟨by decide, by decide⟩, _, _, rfl, rfl, _, _, rfl, rfl, (by show 3 ≤ sizeLine; decide), fun b hb => ?_⟩
    have mm := m 0
    exact q b _ hb ⟨_, _, _, upd_same, Int.mul_nonneg (pos _) (two _).2.2, by omega, by omega, by decide, by decide⟩ (same_new hb _)
theorem scTake : FnScope ["_law_box_here", "_law_reach", "_law_found", "_law_once"] ["_law_box_here", "_law_reach"] (defScope sTake) := ⟨rfl, rfl, rfl, by decide +kernel, rfl, by decide +kernel, by decide +kernel⟩
theorem ok_take {f : Addr} {fd : FuncData} (F : Fun K "_law_take" "_law_take" sTake f fd) : FnOk P w K mg base CX0 1 f fd ["_law_box_here", "_law_reach"] spTake := by
  refine F.ok scTake (fun vs H Q E h => ?_) (fun cdv A outer s H vs Q E hr h => ?_)
  · obtain ⟨b, c, j, rfl, _⟩ := h
    rfl
  obtain ⟨b, c, j, rfl, B, hj, h1, h2, q⟩ := h
  obtain ⟨x, y, z, hb, x0, y0, y1, z0, z1⟩ := id B
  have s0 : SqL K H b [.int x, .int y, .int z] := .inl (.inl hb)
  have a0 : ∀ u v t : Int, atI [V.int u, .int v, .int t] 0 = some (.int u) := fun u v t => at_of (j := 0) rfl rfl
  have a1 : ∀ u v t : Int, atI [V.int u, .int v, .int t] 1 = some (.int v) := fun u v t => at_of (j := 1) rfl rfl
  have a2 : ∀ u v t : Int, atI [V.int u, .int v, .int t] 2 = some (.int t) := fun u v t => at_of (j := 2) rfl rfl
  refine ⟨_, pss_cons (ps_if (pt_cmpR op_gt (pe_ix ix_list (pv 0) pe_int (fun _ _ => rfl)) pe_int (nomark _))
      (pss_cons (ps_set (i := 2) scTake.nd rfl (Or.inl rfl) (pe_op op_modN (pe_ix ix_list (pv 0) pe_int (fun _ _ => rfl)) (pv 1)))
      (pss_cons (ps_asg (pe_op op_fdivN (pe_ix ix_list (pv 0) pe_int (fun _ _ => rfl)) (pv 1)) (pg_sub (pv 0) pe_int set_list))
      (pss_one (ps_ret (pv 2))))) pss_nil)
    (pss_cons (ps_asg (pe_op op_add (pe_ix ix_list (pv 0) pe_int (fun _ _ => rfl)) pe_int) (pg_sub (pv 0) pe_int set_list))
    (pss_cons (ps_set (i := 3) scTake.nd rfl (Or.inl rfl) (pe_op op_modN (pe_op op_pow (pe_op op_add (pe_ix ix_list (pv 0) pe_int (fun _ _ => rfl)) (pe_op op_mul pe_int (pe_ix ix_list (pv 0) pe_int (fun _ _ => rfl)))) pe_int) pe_int))
    (pss_one (ps_ret (pe_op op_modN (pe_op op_fdivN (pe_op op_modN (pe_op op_add (pe_op op_mul (pv 3) (pe_op op_add (pe_op op_modN (pv 3) pe_int) pe_int)) (pe_op op_mul (pe_ix ix_list (pv 0) pe_int (fun _ _ => rfl)) pe_int)) pe_int) pe_int) (pv 1)))))), ?_⟩
  refine ⟨_, rfl, b, _, _, _, rfl, rfl, s0, a0 _ _ _, _, _, rfl, rfl, _, rfl, ?_⟩
  refine ite2 (fun d => ?_) (fun d => ?_)
  · refine ⟨_, rfl, b, _, _, _, rfl, rfl, s0, a0 _ _ _, _, rfl, _, _, rfl, rfl, (by omega), ?_⟩
    refine ⟨_, rfl, b, _, _, _, rfl, rfl, s0, a0 _ _ _, _, rfl, _, _, rfl, rfl, ⟨by omega, by omega⟩, ?_⟩
    refine ⟨_, rfl, b, _, _, 0, rfl, rfl, hb, rfl, ?_⟩
    have m := fmod_pos (a := x) (c := c) (by omega)
    exact ⟨_, rfl, q _ _ m.1 m.2 ⟨_, _, _, upd_same, fdiv_pos (by omega) x0, y0, y1, z0, by omega⟩ (but_upd _)⟩
  · refine ⟨_, rfl, b, _, _, _, rfl, rfl, s0, a2 _ _ _, _, _, rfl, rfl, ?_⟩
    refine ⟨_, rfl, b, _, _, 2, rfl, rfl, hb, rfl, ?_⟩
    have hb' : (upd H b (.lst [.int x, .int y, .int (z + 1)])) b = some (.lst [.int x, .int y, .int (z + 1)]) := upd_same
    have s1 : SqL K (upd H b (.lst [.int x, .int y, .int (z + 1)])) b [.int x, .int y, .int (z + 1)] := .inl (.inl hb')
    refine ⟨_, rfl, b, _, _, _, rfl, rfl, s1, a1 _ _ _, _, rfl, b, _, _, _, rfl, rfl, s1, a2 _ _ _, _, _, rfl, rfl, .inl ⟨by decide, by decide⟩, _, _, rfl, rfl, _, _, rfl, rfl, ⟨by decide, by decide, by omega⟩, _, _, rfl, rfl, (fun h => absurd h (by decide)), ?_⟩
    generalize (y + 39373 * (z + 1)) ^ Int.toNat 5 = g
    have m := fmod_pos (a := g) (c := 2147483647) (by decide)
    refine ⟨_, rfl, _, rfl, _, _, rfl, rfl, (fun h => absurd h (by decide)), _, _, rfl, rfl, _, _, rfl, rfl, .inl ⟨by omega, by omega⟩, _, rfl, b, _, _, _, rfl, rfl, s1, a2 _ _ _, _, _, rfl, rfl, .inl ⟨by omega, by omega⟩, _, _, rfl, rfl, _, _, rfl, rfl, (fun h => absurd h (by decide)), _, _, rfl, rfl, ⟨by decide, by decide⟩, _, rfl, _, _, rfl, rfl, (by omega), ?_⟩
    generalize Int.fdiv _ _ = e
    have m2 := fmod_pos (a := e) (c := c) (by omega)
    exact q _ _ m2.1 m2.2 ⟨_, _, _, upd_same, x0, y0, y1, by omega, by omega⟩ (but_upd _)
theorem scPick : FnScope ["_law_box_here", "_law_things"] ["_law_box_here", "_law_things"] (defScope sPick) := ⟨rfl, rfl, rfl, by decide +kernel, rfl, by decide +kernel, by decide +kernel⟩
theorem ok_pick {f fT : Addr} {fd fdT : FuncData} (F : Fun K "_law_pick" "_law_pick" sPick f fd) (FT : Fun K "_law_take" "_law_take" sTake fT fdT) (bT : Binds K fdT ["_law_box_here", "_law_reach"] []) (mT : mg "_law_take" = some (.ref fT)) (mLen : mg "len" = none) :
    FnOk P w K mg base CX0 2 f fd ["_law_box_here", "_law_things"] spPick := by
  have GT : FnOk P w K mg base CX0 1 fT fdT ["_law_box_here", "_law_reach"] spTake := ok_take FT
  refine F.ok scPick (fun vs H Q E h => ?_) (fun cdv A outer s H vs Q E hr h => ?_)
  · obtain ⟨b, p, xs, j, rfl, _⟩ := h
    rfl
  obtain ⟨b, p, xs, j, rfl, B, hj, hp, ne, l1, l2, q⟩ := h
  refine ⟨_, pss_one (ps_ret (pe_ix ix_list (pv 1) (pe_call GT hr rfl mT FT.kp bT .nil pass0 (pa_cons (pv 0) (pa_cons (pe_callB call_len_seq (by rfl) mLen PySem.boot_len (pa_cons (pv 1) pa_nil)) pa_nil))) (fun _ _ => rfl))), ?_⟩
  refine ⟨_, rfl, _, rfl, _, rfl, p, _, rfl, .inl (.inl (.inl hp)), b, _, j, rfl, B, hj, by omega, by omega, fun r H' r0 r1 B' o => ?_⟩
  have hr' : r.toNat < xs.length := by omega
  refine ⟨p, _, _, _, rfl, rfl, .inl (.inl (o _ _ hp ne)), at_of (j := r.toNat) (v := xs[r.toNat]) (by omega) (List.getElem?_eq_getElem hr'), ?_⟩
  exact q _ _ (List.getElem_mem hr') B' o
end
end Rp

namespace Rp
open PySem L2
section
variable {P : Program} {w : World} {K : PySem.W.Frag} {mg : Str → Option Value} {base : Heap}
theorem none_left {k : Nat} {f : Addr} {fd : FuncData} {ps : List Str} {sp : Sp} (no : ∀ vs H Q E, ¬ sp vs H Q E) : FnOk P w K mg base CX0 k f fd ps sp :=
  ⟨fun vs H Q E h => absurd h (no vs H Q E), fun A outer s H args us vs Q E _ _ _ _ h => absurd h (no vs H Q E)⟩
theorem v1_ne {x y : Int} (c : ¬ decide (V.int x = V.int y) = true) : x ≠ y := fun e => c (by rw [e]; simp)
theorem v1_eq {x y : Int} (c : decide (V.int x = V.int y) = true) : x = y := V.int.inj (of_decide_eq_true c)
theorem big1000 : (1000 : Nat) ≤ sizeLine := by decide
end
end Rp

namespace Rp
open PySem L2
/-- the value of a TERM is an int or a tuple that stands -/
theorem TmAt.ty {K : PySem.W.Frag} {H : Hp} {v : V} {t : Tm} (h : TmAt H v t) : (∃ n, v = .int n ∧ t = .v n) ∨ (∃ a xs, v = .ref a ∧ H a = some (.tup xs) ∧ TyX K H v (.type "tuple") ∧ (∀ n, t ≠ .v n)) := by
  cases h with
  | v n => exact .inl ⟨n, rfl, rfl⟩
  | z h => exact .inr ⟨_, _, rfl, h, .base (.tup h), fun n e => by cases e⟩
  | s h _ => exact .inr ⟨_, _, rfl, h, .base (.tup h), fun n e => by cases e⟩
  | f h _ _ => exact .inr ⟨_, _, rfl, h, .base (.tup h), fun n e => by cases e⟩
def signHead : Tm → Str
  | .v _ => "" | .z => "0" | .s _ => "s" | .f _ _ => "f"
/-- a TERM that is no variable: its tuple, its parts -/
theorem TmAt.tupled {H : Hp} {v : V} {t : Tm} (h : TmAt H v t) (no : ∀ n, t ≠ .v n) : ∃ a ks, v = .ref a ∧ H a = some (.tup (.str (signHead t) :: ks)) ∧ ks.length = t.kids.length ∧ ∀ (i : Nat) (x : V) (k : Tm), ks[i]? = some x → t.kids[i]? = some k → TmAt H x k := by
  cases h with
  | v n => exact absurd rfl (no n)
  | z h => exact ⟨_, [], rfl, h, rfl, fun i x k h => by simp at h⟩
  | @s a x t h q =>
    refine ⟨_, [x], rfl, h, rfl, fun i y k h1 h2 => ?_⟩
    cases i with
    | zero => simp [Tm.kids] at h1 h2; subst h1 h2; exact q
    | succ i => simp at h1
  | @f a x y l r h q q' =>
    refine ⟨_, [x, y], rfl, h, rfl, fun i u k h1 h2 => ?_⟩
    match i with
    | 0 => simp [Tm.kids] at h1 h2; subst h1 h2; exact q
    | 1 => simp [Tm.kids] at h1 h2; subst h1 h2; exact q'
    | i + 2 => simp at h1
theorem signs_kids : ∀ {t : Tm}, (∀ n, t ≠ .v n) → t.signs = .str (signHead t) :: t.kids.flatMap Tm.signs
  | .v n, h => absurd rfl (h n)
  | .z, _ => rfl
  | .s t, _ => by simp [Tm.signs, Tm.kids, signHead]
  | .f l r, _ => by simp [Tm.signs, Tm.kids, signHead]
theorem kid_deep {t k : Tm} (h : k ∈ t.kids) : k.deep < t.deep := by
  cases t with
  | v n => simp [Tm.kids] at h
  | z => simp [Tm.kids] at h
  | s t => simp [Tm.kids] at h; subst h; exact Nat.lt_succ_self _
  | f l r =>
    simp [Tm.kids] at h
    rcases h with h | h <;> subst h <;> (simp only [Tm.deep]; omega)
theorem kid_size {t k : Tm} (h : k ∈ t.kids) : k.size < t.size := by
  cases t with
  | v n => simp [Tm.kids] at h
  | z => simp [Tm.kids] at h
  | s t => simp [Tm.kids] at h; subst h; exact Nat.lt_succ_self _
  | f l r =>
    simp [Tm.kids] at h
    rcases h with h | h <;> subst h <;> (simp only [Tm.size]; omega)
theorem take_flat {t : Tm} (i : Nat) : ((t.kids.take i).flatMap Tm.signs).length ≤ t.size := by
  cases t with
  | v n => simp [Tm.kids]
  | z => simp [Tm.kids]
  | s t =>
    match i with
    | 0 => simp
    | i + 1 => simp [Tm.kids, Tm.signs_len, Tm.size]
  | f l r =>
    match i with
    | 0 => simp
    | 1 => simp [Tm.kids, Tm.signs_len, Tm.size]; try omega
    | i + 2 => simp [Tm.kids, Tm.signs_len, Tm.size]; try omega
theorem cut_tail (x : V) (ks : List V) : cutV (x :: ks) (some 1) none = ks := by
  have e : HT.sIx (x :: ks).length 0 (some 1) = 1 := by
    have := HT.sIx_nat (x :: ks).length 0 1
    rw [List.length_cons] at this ⊢
    rw [show (some 1 : Option Int) = some ((1 : Nat) : Int) from rfl, this]
    omega
  unfold cutV
  rw [e, HT.sIx_none, List.drop_one, List.tail_cons, List.take_of_length_le (by simp)]
theorem cut_part (x : V) (ks : List V) : ¬ (HT.sIx (x :: ks).length 0 (some 1) = 0 ∧ HT.sIx (x :: ks).length (x :: ks).length none = (x :: ks).length) := by
  have := HT.sIx_nat (x :: ks).length 0 1
  rw [List.length_cons] at this ⊢
  rw [show (some 1 : Option Int) = some ((1 : Nat) : Int) from rfl, this]
  omega
section
variable {P : Program} {w : World} {K : PySem.W.Frag} {mg : Str → Option Value} {base : Heap}
theorem kit_ii : PySem.W.kitOne K (.type "int") (.type "int") = some true := kit_ty (by decide +kernel)
theorem kit_ti : PySem.W.kitOne K (.type "tuple") (.type "int") = some false := kit_ty (by decide +kernel)
theorem kit_si : PySem.W.kitOne K (.type "str") (.type "int") = some false := kit_ty (by decide +kernel)
end
end Rp

namespace Rp
open PySem L2 RZ
/-- [.. for a, b in zip(xs, ys)], both lists or both tuples, as long -/
theorem lc_pairs {J : It} {xs ys : List V} {g : TG} {tt : TT} {te : TE} {vs : List Nat} {σ : L2.St} {H1 : Hp} {D : Addr} {Qd : Hp → Prop} (same : xs.length = ys.length) (Pv : Nat → Hp → Prop)
    (stops : ∀ H, Pv xs.length H → J.stop xs.length H) (goes : ∀ i H, i < xs.length → Pv i H → J.go i H)
    (gives : ∀ i H v H', Pv i H → J.yld i H v H' → ∃ T x y, v = .ref T ∧ xs[i]? = some x ∧ ys[i]? = some y ∧ H T = none ∧ H' = upd H T (.tup [x, y]))
    (h0 : Pv 0 (upd H1 D (.lst [])))
    (hs : ∀ (i : Nat) (x y : V) (T : Addr) (H : Hp), xs[i]? = some x → ys[i]? = some y → Pv i H → H T = none → g (.ref T) (wipe σ vs) (upd H T (.tup [x, y])) fun σ2 H2 => wipe σ2 vs = wipe σ vs ∧
      tt σ2 H2 fun b H3 => if b = true then te σ2 H3 fun y H4 => ∃ acc, H4 D = some (.lst acc) ∧ acc.length < sizeLine ∧ Pv (i + 1) (upd H4 D (.lst (acc ++ [y]))) else Pv (i + 1) H3)
    (hd : ∀ H, Pv xs.length H → Qd H) :
    ∃ W : Nat → Nat → Hp → Prop, (∃ m, W 0 m (upd H1 D (.lst []))) ∧ ∀ i m H, W i m H → (J.stop i H ∧ Qd H) ∨
      (J.go i H ∧ ∃ Nx : Hp → Prop, (∀ H', Nx H' → ∃ m', m' < m ∧ W (i + 1) m' H') ∧ ∀ x H', J.yld i H x H' → g x (wipe σ vs) H' fun σ2 H2 => wipe σ2 vs = wipe σ vs ∧
        tt σ2 H2 fun b H3 => if b = true then te σ2 H3 fun y H4 => ∃ acc, H4 D = some (.lst acc) ∧ acc.length < sizeLine ∧ Nx (upd H4 D (.lst (acc ++ [y]))) else Nx H3) := by
  refine ⟨fun i m H => m + i = xs.length ∧ Pv i H, ⟨xs.length, by simp, h0⟩, ?_⟩
  rintro i m H ⟨em, p⟩
  rcases Nat.lt_or_ge i xs.length with lt | ge
  · refine .inr ⟨goes i H lt p, Pv (i + 1), fun H' p' => ⟨m - 1, by omega, by omega, p'⟩, fun v H' y => ?_⟩
    obtain ⟨T, x, y', rfl, hx, hy, hT, rfl⟩ := gives i H v H' p y
    exact hs i x y' T H hx hy p hT
  · have e : i = xs.length := by omega
    subst e
    exact .inl ⟨stops H p, hd H p⟩
def spSame (n : Nat) : Sp := fun vs H Q _ => ∃ (x y : V) (m : Nat), vs = [x, y] ∧ n = m + 1 ∧ Alike H m x y ∧ ∀ H', Same H H' → Q (.bl true) H'
section
variable {P : Program} {w : World} {K : PySem.W.Frag} {mg : Str → Option Value} {base : Heap}
structure SameG (mg : Str → Option Value) : Prop where
  isi : mg "isinstance" = none
  list : mg "list" = none
  tuple : mg "tuple" = none
  len : mg "len" = none
  all : mg "all" = none
  zip : mg "zip" = none
  str : mg "str" = none
  int : mg "int" = none
  bool : mg "bool" = none
theorem scSame : FnScope ["_law_found", "_law_due", "_law_one", "_law_two"] ["_law_found", "_law_due"] (defScope sSame) := ⟨rfl, rfl, rfl, by decide +kernel, rfl, by decide +kernel, by decide +kernel⟩
theorem kitB_of {K : PySem.W.Frag} {a b : String} {r : Bool} (h : kitB a b = some r) : PySem.W.kitOne K (.type a) (.type b) = some r := h
theorem kit_lt {K : PySem.W.Frag} {a : String} {p r : Bool} (h1 : kitB a "list" = some p) (h2 : kitB a "tuple" = some r) : PySem.W.kitAny K (.type a) [.type "list", .type "tuple"] = some (p || r) := by
  refine kitAny_cons (kitB_of h1) (fun e => ?_) (fun e => by rw [e]; rfl)
  refine kitAny_cons (kitB_of h2) (fun e2 => by rw [e, e2]; exact kitAny_nil) (fun e2 => by rw [e, e2]; rfl)
theorem ok_same {n : Nat} {f : Addr} {fd : FuncData} (F : Fun K "_law_same" "_law_same" sSame f fd) (b2 : Binds K fd ["_law_found", "_law_due"] []) (mF : mg "_law_same" = some (.ref f)) (G : FnOk P w K mg base CX0 n f fd ["_law_found", "_law_due"] (spSame n)) (M : SameG mg) :
    FnOk P w K mg base CX0 (n + 1) f fd ["_law_found", "_law_due"] (spSame (n + 1)) := by
  refine F.ok scSame (fun vs H Q E h => ?_) (fun cdv A outer s H vs Q E hr h => ?_)
  · obtain ⟨x, y, m, rfl, _⟩ := h
    rfl
  obtain ⟨x, y, m, rfl, em, hA, q⟩ := h
  have em : n = m := by omega
  subst em
  refine ⟨_, pss_cons (ps_if (pt_val (pe_callB (id := "isinstance") call_isiT (by rfl) M.isi (by decide +kernel) (pa_cons (pv 1) (pa_cons (pe_tup (pa_cons (pe_bltn (v := .ty "list") (by rfl) M.list (by decide +kernel) rfl) (pa_cons (pe_bltn (v := .ty "tuple") (by rfl) M.tuple (by decide +kernel) rfl) pa_nil))) pa_nil))))
      (pss_cons (ps_if (PW.pt (pw_or (pt_cmpR op_ne
            (pe_callB (id := "isinstance") call_isi (by rfl) M.isi (by decide +kernel) (pa_cons (pv 0) (pa_cons (pe_bltn (v := .ty "list") (by rfl) M.list (by decide +kernel) rfl) pa_nil)))
            (pe_callB (id := "isinstance") call_isi (by rfl) M.isi (by decide +kernel) (pa_cons (pv 1) (pa_cons (pe_bltn (v := .ty "list") (by rfl) M.list (by decide +kernel) rfl) pa_nil))) (nomark _))
          (pw_or1 (pt_cmpR op_ne
            (pe_callB (id := "isinstance") call_isi (by rfl) M.isi (by decide +kernel) (pa_cons (pv 0) (pa_cons (pe_bltn (v := .ty "tuple") (by rfl) M.tuple (by decide +kernel) rfl) pa_nil)))
            (pe_callB (id := "isinstance") call_isi (by rfl) M.isi (by decide +kernel) (pa_cons (pv 1) (pa_cons (pe_bltn (v := .ty "tuple") (by rfl) M.tuple (by decide +kernel) rfl) pa_nil))) (nomark _))))) (pss_one (ps_ret pe_bl)) pss_nil)
      (pss_cons (ps_if (pt_cmpR op_ne (pe_callB call_len_seq (by rfl) M.len PySem.boot_len (pa_cons (pv 0) pa_nil)) (pe_callB call_len_seq (by rfl) M.len PySem.boot_len (pa_cons (pv 1) pa_nil)) (nomark _)) (pss_one (ps_ret pe_bl)) pss_nil)
      (pss_one (ps_ret (pe_callB (cr_all rfl) (by rfl) M.all (by decide +kernel) (pa_cons (pe_lc (own := [("_law_one", 2), ("_law_two", 3)]) (g := gTup K 2 (gCons (gName 2) (gCons (gName 3) gNil))) (tt := tYes) (te := tCall (spSame n) [] E0 (tCons (tVar 2) (tCons (tVar 3) tNil))) rfl scSame.nd
        (pi_zipA (by rfl) M.zip (pa_cons (pv 0) (pa_cons (pv 1) pa_nil))) (blkOk_by (N := ["_law_found", "_law_due", "_law_one", "_law_two"]) (sc := defScope sSame) (by decide +kernel))
        (fun _ _ _ _ _ => pg_tup (by rfl) (pgs_cons (pg_name (i := 2) scSame.nd rfl (Or.inl rfl)) (pgs_cons (pg_name (i := 3) scSame.nd rfl (Or.inl rfl)) pgs_nil)))
        (fun _ _ _ _ _ => pts_nil) (fun _ _ _ _ _ => pe_call G hr (by rfl) mF F.kp b2 .nil pass0 (pa_cons (pv 2) (pa_cons (pv 3) pa_nil)))) pa_nil)))))) pss_nil)
    (pss_cons (ps_if (PW.pt (pw_or (pt_cmpR op_isN (pv 1) pe_non (nomark _)) (pw_or1 (pt_val (pe_callB (id := "isinstance") call_isi (by rfl) M.isi (by decide +kernel) (pa_cons (pv 1) (pa_cons (pe_bltn (v := .ty "str") (by rfl) M.str (by decide +kernel) rfl) pa_nil)))))))
      (pss_one (ps_ret (pe_and (pe_cmpR op_eq (pv 0) (pv 1) (nomark _)) (pe_one (pe_cmpR op_eq
            (pe_callB (id := "isinstance") call_isi (by rfl) M.isi (by decide +kernel) (pa_cons (pv 0) (pa_cons (pe_bltn (v := .ty "str") (by rfl) M.str (by decide +kernel) rfl) pa_nil)))
            (pe_callB (id := "isinstance") call_isi (by rfl) M.isi (by decide +kernel) (pa_cons (pv 1) (pa_cons (pe_bltn (v := .ty "str") (by rfl) M.str (by decide +kernel) rfl) pa_nil))) (nomark _)))))) pss_nil)
    (pss_one (ps_ret (pe_and (pe_callB (id := "isinstance") call_isi (by rfl) M.isi (by decide +kernel) (pa_cons (pv 0) (pa_cons (pe_bltn (v := .ty "int") (by rfl) M.int (by decide +kernel) rfl) pa_nil)))
      (pe_and (pe_cmpR op_eq
            (pe_callB (id := "isinstance") call_isi (by rfl) M.isi (by decide +kernel) (pa_cons (pv 0) (pa_cons (pe_bltn (v := .ty "bool") (by rfl) M.bool (by decide +kernel) rfl) pa_nil)))
            (pe_callB (id := "isinstance") call_isi (by rfl) M.isi (by decide +kernel) (pa_cons (pv 1) (pa_cons (pe_bltn (v := .ty "bool") (by rfl) M.bool (by decide +kernel) rfl) pa_nil))) (nomark _))
        (pe_one (pe_cmpR op_eq (pv 0) (pv 1) (nomark _)))))))), ?_⟩
  refine ⟨_, rfl, (by show 2 ≤ sizeLine; decide), fun p hp => ?_⟩
  have s1 := same_new hp (.tup [V.ty "list", V.ty "tuple"])
  have plain : Plain x ∧ x = y ∨ ∃ m a b xs ys, n = m + 1 ∧ x = .ref a ∧ y = .ref b ∧ ((H a = some (.lst xs) ∧ H b = some (.lst ys)) ∨ (H a = some (.tup xs) ∧ H b = some (.tup ys))) ∧
      xs.length = ys.length ∧ xs.length ≤ 1000000 ∧ ∀ (i : Nat) (u v : V), xs[i]? = some u → ys[i]? = some v → Alike H m u v := by
    cases n with
    | zero => unfold Alike at hA; exact .inl hA
    | succ m =>
      unfold Alike at hA
      rcases hA with h | ⟨a, b, xs, ys, h⟩
      · exact .inl h
      · exact .inr ⟨m, a, b, xs, ys, rfl, h⟩
  rcases plain with ⟨px, rfl⟩ | ⟨m, a, b, xs, ys, rfl, rfl, rfl, kinds, hl, hz, each⟩
  · cases x with
    | int i =>
      refine ⟨_, p, _, _, [.type "list", .type "tuple"], false, rfl, upd_same, .cons (.ty _) (.cons (.ty _) .nil), .base (.int i), kit_lt (p := false) (r := false) (by decide +kernel) (by decide +kernel), false, rfl, iteF ?_⟩
      refine ⟨_, rfl, rfl, false, congrArg V.bl (decide_eq_false (fun z => nomatch z)), iteF ?_⟩
      refine ⟨_, rfl, _, _, _, _, false, rfl, .ty "str", .base (.int i), kitB_of (by decide +kernel), false, rfl, iteF ?_⟩
      refine ⟨_, rfl, _, _, _, _, true, rfl, .ty "int", .base (.int i), kitB_of (by decide +kernel), true, rfl, iteT ?_⟩
      refine ⟨_, rfl, _, _, _, _, false, rfl, .ty "bool", .base (.int i), kitB_of (by decide +kernel), _, rfl, _, _, _, _, false, rfl, .ty "bool", .base (.int i), kitB_of (by decide +kernel), rfl, true, congrArg V.bl (decide_eq_true rfl), iteT ?_⟩
      refine ⟨_, rfl, _, rfl, rfl, ?_⟩
      have e : decide (V.int i = V.int i) = true := decide_eq_true rfl
      rw [e]
      exact q _ s1
    | bl i =>
      refine ⟨_, p, _, _, [.type "list", .type "tuple"], false, rfl, upd_same, .cons (.ty _) (.cons (.ty _) .nil), .base (.bl i), kit_lt (p := false) (r := false) (by decide +kernel) (by decide +kernel), false, rfl, iteF ?_⟩
      refine ⟨_, rfl, rfl, false, congrArg V.bl (decide_eq_false (fun z => nomatch z)), iteF ?_⟩
      refine ⟨_, rfl, _, _, _, _, false, rfl, .ty "str", .base (.bl i), kitB_of (by decide +kernel), false, rfl, iteF ?_⟩
      refine ⟨_, rfl, _, _, _, _, true, rfl, .ty "int", .base (.bl i), kitB_of (by decide +kernel), true, rfl, iteT ?_⟩
      refine ⟨_, rfl, _, _, _, _, true, rfl, .ty "bool", .base (.bl i), kitB_of (by decide +kernel), _, rfl, _, _, _, _, true, rfl, .ty "bool", .base (.bl i), kitB_of (by decide +kernel), rfl, true, congrArg V.bl (decide_eq_true rfl), iteT ?_⟩
      refine ⟨_, rfl, _, rfl, rfl, ?_⟩
      have e : decide (V.bl i = V.bl i) = true := decide_eq_true rfl
      rw [e]
      exact q _ s1
    | str i =>
      refine ⟨_, p, _, _, [.type "list", .type "tuple"], false, rfl, upd_same, .cons (.ty _) (.cons (.ty _) .nil), .base (.str i), kit_lt (p := false) (r := false) (by decide +kernel) (by decide +kernel), false, rfl, iteF ?_⟩
      refine ⟨_, rfl, rfl, false, congrArg V.bl (decide_eq_false (fun z => nomatch z)), iteF ?_⟩
      refine ⟨_, rfl, _, _, _, _, true, rfl, .ty "str", .base (.str i), kitB_of (by decide +kernel), true, rfl, iteT ?_⟩
      refine ⟨_, rfl, _, rfl, rfl, true, congrArg V.bl (decide_eq_true rfl), iteT ?_⟩
      refine ⟨_, rfl, _, _, _, _, true, rfl, .ty "str", .base (.str i), kitB_of (by decide +kernel), _, rfl, _, _, _, _, true, rfl, .ty "str", .base (.str i), kitB_of (by decide +kernel), rfl, ?_⟩
      have e : decide (V.bl true = V.bl true) = true := decide_eq_true rfl
      rw [e]
      exact q _ s1
    | non =>
      refine ⟨_, p, _, _, [.type "list", .type "tuple"], false, rfl, upd_same, .cons (.ty _) (.cons (.ty _) .nil), .base .non, kit_lt (p := false) (r := false) (by decide +kernel) (by decide +kernel), false, rfl, iteF ?_⟩
      refine ⟨_, rfl, rfl, true, congrArg V.bl (decide_eq_true rfl), iteT ?_⟩
      refine iteT ?_
      refine ⟨_, rfl, _, rfl, rfl, true, congrArg V.bl (decide_eq_true rfl), iteT ?_⟩
      refine ⟨_, rfl, _, _, _, _, false, rfl, .ty "str", .base .non, kitB_of (by decide +kernel), _, rfl, _, _, _, _, false, rfl, .ty "str", .base .non, kitB_of (by decide +kernel), rfl, ?_⟩
      have e : decide (V.bl false = V.bl false) = true := decide_eq_true rfl
      rw [e]
      exact q _ s1
    | _ => exact px.elim
  · rcases kinds with ⟨ha, hb⟩ | ⟨ha, hb⟩
    · have ha1 := s1 _ _ ha
      have hb1 := s1 _ _ hb
      refine ⟨_, p, _, _, [.type "list", .type "tuple"], true, rfl, upd_same, .cons (.ty _) (.cons (.ty _) .nil), .base (.lst hb1), kit_lt (p := true) (r := false) (by decide +kernel) (by decide +kernel), true, rfl, iteT ?_⟩
      refine ⟨_, rfl, _, _, _, _, true, rfl, .ty "list", .base (.lst ha1), kitB_of (by decide +kernel), _, rfl, _, _, _, _, true, rfl, .ty "list", .base (.lst hb1), kitB_of (by decide +kernel), rfl, false, congrArg (fun z => V.bl (!z)) (decide_eq_true rfl), iteF ?_⟩
      refine ⟨_, rfl, _, _, _, _, false, rfl, .ty "tuple", .base (.lst ha1), kitB_of (by decide +kernel), _, rfl, _, _, _, _, false, rfl, .ty "tuple", .base (.lst hb1), kitB_of (by decide +kernel), rfl, false, congrArg (fun z => V.bl (!z)) (decide_eq_true rfl), iteF ?_⟩
      refine ⟨_, rfl, a, _, rfl, .inl (.inl (.inl ha1)), _, rfl, b, _, rfl, .inl (.inl (.inl hb1)), rfl, false, congrArg (fun z => V.bl (!z)) (decide_eq_true (by rw [hl])), iteF ?_⟩
      refine ⟨_, rfl, _, rfl, a, b, xs, ys, rfl, .inl ⟨.inl (.inl ha1), .inl (.inl hb1), fun D hD => ?_⟩⟩
      refine lc_pairs (J := Itz K a b) (xs := xs) (ys := ys) hl (fun i H2 => H2 D = some (.lst (List.replicate i (V.bl true))) ∧ Same _ H2)
        (fun H2 h => ⟨xs, ys, .inl (.inl (h.2 _ _ ha1)), .inl (.inl (h.2 _ _ hb1)), .inl (Nat.le_refl _)⟩)
        (fun i H2 lt h => ⟨xs, ys, xs[i], ys[i]'(by omega), .inl (.inl (h.2 _ _ ha1)), .inl (.inl (h.2 _ _ hb1)), List.getElem?_eq_getElem lt, List.getElem?_eq_getElem (by omega)⟩)
        (fun i H2 v H3 h ⟨T, u, v', e1, hT, e2, f1, f2⟩ => ⟨T, u, v', e1, f1 xs (.inl (.inl (h.2 _ _ ha1))), f2 ys (.inl (.inl (h.2 _ _ hb1))), hT, e2⟩)
        ⟨upd_same, same_new hD _⟩ (fun i u v T H2 hu hv h hT => ?_) (fun H2 h => ⟨D, List.replicate xs.length true, rfl, .inl (.inl (by rw [List.map_replicate]; exact h.1)), ?_⟩)
      · have sT := same_new hT (.tup [u, v])
        refine ⟨T, _, rfl, .inl (.inl upd_same), rfl, _, _, rfl, _, _, rfl, rfl, rfl, ?_⟩
        have lt : i < xs.length := (List.getElem?_eq_some_iff.mp hu).1
        refine ⟨_, rfl, _, rfl, u, v, m, rfl, rfl, Alike.mono (s1.trans (h.2.trans sT)) m (each i u v hu hv), fun H4 s4 => ⟨_, s4 _ _ (sT _ _ h.1), ?_, ?_, ?_⟩⟩
        · rw [List.length_replicate]; exact Nat.lt_of_lt_of_le (by omega : i < 1000000) (by decide)
        · rw [upd_same, List.replicate_succ']
        · intro c o z
          have nD : c ≠ D := fun e => by subst e; rw [hD] at z; cases z
          rw [upd_ne nD]
          exact s4 _ _ (sT _ _ (h.2 _ _ z))
      · have e : (List.replicate xs.length true).all id = true := by rw [List.all_eq_true]; intro x hx; rw [List.eq_of_mem_replicate hx]; rfl
        rw [e]
        exact q _ (s1.trans h.2)
    · have ha1 := s1 _ _ ha
      have hb1 := s1 _ _ hb
      refine ⟨_, p, _, _, [.type "list", .type "tuple"], true, rfl, upd_same, .cons (.ty _) (.cons (.ty _) .nil), .base (.tup hb1), kit_lt (p := false) (r := true) (by decide +kernel) (by decide +kernel), true, rfl, iteT ?_⟩
      refine ⟨_, rfl, _, _, _, _, false, rfl, .ty "list", .base (.tup ha1), kitB_of (by decide +kernel), _, rfl, _, _, _, _, false, rfl, .ty "list", .base (.tup hb1), kitB_of (by decide +kernel), rfl, false, congrArg (fun z => V.bl (!z)) (decide_eq_true rfl), iteF ?_⟩
      refine ⟨_, rfl, _, _, _, _, true, rfl, .ty "tuple", .base (.tup ha1), kitB_of (by decide +kernel), _, rfl, _, _, _, _, true, rfl, .ty "tuple", .base (.tup hb1), kitB_of (by decide +kernel), rfl, false, congrArg (fun z => V.bl (!z)) (decide_eq_true rfl), iteF ?_⟩
      refine ⟨_, rfl, a, _, rfl, .inr (.inl (.inl ha1)), _, rfl, b, _, rfl, .inr (.inl (.inl hb1)), rfl, false, congrArg (fun z => V.bl (!z)) (decide_eq_true (by rw [hl])), iteF ?_⟩
      refine ⟨_, rfl, _, rfl, a, b, xs, ys, rfl, .inr ⟨.inl (.inl ha1), .inl (.inl hb1), fun D hD => ?_⟩⟩
      refine lc_pairs (J := ItzT K a b) (xs := xs) (ys := ys) hl (fun i H2 => H2 D = some (.lst (List.replicate i (V.bl true))) ∧ Same _ H2)
        (fun H2 h => ⟨xs, ys, .inl (.inl (h.2 _ _ ha1)), .inl (.inl (h.2 _ _ hb1)), .inl (Nat.le_refl _)⟩)
        (fun i H2 lt h => ⟨xs, ys, xs[i], ys[i]'(by omega), .inl (.inl (h.2 _ _ ha1)), .inl (.inl (h.2 _ _ hb1)), List.getElem?_eq_getElem lt, List.getElem?_eq_getElem (by omega)⟩)
        (fun i H2 v H3 h ⟨T, u, v', e1, hT, e2, f1, f2⟩ => ⟨T, u, v', e1, f1 xs (.inl (.inl (h.2 _ _ ha1))), f2 ys (.inl (.inl (h.2 _ _ hb1))), hT, e2⟩)
        ⟨upd_same, same_new hD _⟩ (fun i u v T H2 hu hv h hT => ?_) (fun H2 h => ⟨D, List.replicate xs.length true, rfl, .inl (.inl (by rw [List.map_replicate]; exact h.1)), ?_⟩)
      · have sT := same_new hT (.tup [u, v])
        refine ⟨T, _, rfl, .inl (.inl upd_same), rfl, _, _, rfl, _, _, rfl, rfl, rfl, ?_⟩
        have lt : i < xs.length := (List.getElem?_eq_some_iff.mp hu).1
        refine ⟨_, rfl, _, rfl, u, v, m, rfl, rfl, Alike.mono (s1.trans (h.2.trans sT)) m (each i u v hu hv), fun H4 s4 => ⟨_, s4 _ _ (sT _ _ h.1), ?_, ?_, ?_⟩⟩
        · rw [List.length_replicate]; exact Nat.lt_of_lt_of_le (by omega : i < 1000000) (by decide)
        · rw [upd_same, List.replicate_succ']
        · intro c o z
          have nD : c ≠ D := fun e => by subst e; rw [hD] at z; cases z
          rw [upd_ne nD]
          exact s4 _ _ (sT _ _ (h.2 _ _ z))
      · have e : (List.replicate xs.length true).all id = true := by rw [List.all_eq_true]; intro x hx; rw [List.eq_of_mem_replicate hx]; rfl
        rw [e]
        exact q _ (s1.trans h.2)
theorem same_ok {f : Addr} {fd : FuncData} (F : Fun K "_law_same" "_law_same" sSame f fd) (b2 : Binds K fd ["_law_found", "_law_due"] []) (mF : mg "_law_same" = some (.ref f)) (M : SameG mg) :
    ∀ n : Nat, FnOk P w K mg base CX0 n f fd ["_law_found", "_law_due"] (spSame n)
  | 0 => none_left fun vs H Q E h => by
    obtain ⟨x, y, m, _, e, _⟩ := h
    omega
  | n + 1 => ok_same F b2 mF (same_ok F b2 mF M n) M
end
end Rp

/-! An own exception class over ValueError whose __init__ is walked as a def: its new object as a value. -/
namespace Rp
open PySem PySem.Spec PyProof.Rows L2
section
variable {X : Cx} {p pos : Pos} {e : Expr} {es : List Expr} {ta : TA}
def tMkV (C : Addr) (sp : Sp) (ta : TA) : TE := fun σ H Q => ta σ H fun vs H1 => vs.length ≤ 1000 ∧ ∀ a, H1 a = none → sp (.ref a :: vs) (upd H1 a (exo a C none)) (fun v H2 => v = .non ∧ Q (.ref a) H2) (fun _ _ _ => False)
theorem pe_oexV {x : Str} {C fI : Addr} {k : Nat} {fd : FuncData} {ps : List Str} {sp : Sp} {CX : CXT} (T : OexC X.K C) (iC : PySem.W.findIn X.K (.ref C) "__init__" = some (some (.ref fI))) (tI : PySem.W.typeIn X.K (.ref fI) = some (.type "function"))
    (F1 : FnOk X.prog X.w X.K X.mg X.base CX k fI fd ps sp) (hr : Room (k + 1) X.A) (hb : Binds X.K fd ps []) (hx : Passes CX X (fun _ _ _ => False)) (hg : Gl X x) (hm : X.mg x = some (.ref C)) (ha : PA X (e :: es) ta)
    (hdb : (x == ("__debug__" : Str)) = false := by decide) (he : starEach (e :: es) X.env = (false, eval e X.env) :: starEach es X.env := by rfl) (hpl : (backTo pos (starEach es X.env)).any (·.1) = false := by rfl) :
    PE X (.Call (.Name x p) (e :: es) [] pos) (tMkV C sp ta) := by
  refine ⟨fun pins s σ H Q I h => ?_⟩
  obtain ⟨nm, q, N, bs, bm, sn, sub, ab, col, dd, k0, k1, k2, k3, k5, hC, hbm⟩ := T.cls
  refine wpAny_Call_Name_kw (ld_glob I hg hm ?_ hdb)
  refine PySem.W.callWith_K (h₀ := X.base) I.ok.mod.kin T.kC (thn (ha.run pos pins s σ H _ I h) fun us s1 ⟨vs, H1, I1, r1, hz, q1⟩ => ⟨I1.kIn, ?_⟩) he hpl
  show wpAny _ _ (call (.ref C) us) _ _ _
  obtain ⟨hp, g, dr, tk, os⟩ := s1
  have hsz : hp.objs.size ≤ hp.objs.size + 1 := Nat.le_succ _
  have hn : H1 (hp.objs.size + 1) = none := I1.hok.fresh hsz
  have hq := q1 (hp.objs.size + 1) hn
  have kk : ∀ b o, hp.get? b = some o → ((hp.push (PySem.W.kdv_tup us)).push (PySem.HandSPX.excO C hp.objs.size)).get? b = some o := fun b o e => Heap.get?_push_of_some _ (Heap.get?_push_of_some _ e)
  have hget : ((hp.push (PySem.W.kdv_tup us)).push (PySem.HandSPX.excO C hp.objs.size)).get? (hp.objs.size + 1) = some (PySem.HandSPX.excO C hp.objs.size) := by heap_get
  have I2 : Inv X pins σ (upd H1 (hp.objs.size + 1) (exo (hp.objs.size + 1) C none)) ⟨(hp.push (PySem.W.kdv_tup us)).push (PySem.HandSPX.excO C hp.objs.size), g, dr, tk, os⟩ :=
    I1.laid (t' := tk) (a := hp.objs.size + 1) (o := exo (hp.objs.size + 1) C none) (h' := (hp.push (PySem.W.kdv_tup us)).push (PySem.HandSPX.excO C hp.objs.size)) kk hsz (exo_ok hget)
  have r2 : Vals (V.ref (hp.objs.size + 1) :: vs) (Value.ref (hp.objs.size + 1) :: us) := .cons rfl r1
  have hl : (Value.ref (hp.objs.size + 1) :: us ++ []).length = ps.length := by
    have e := r2.length
    rw [F1.len _ _ _ _ hq] at e
    rw [List.append_nil]
    exact e.symm
  have hus : us.length ≤ sizeLine := by
    rw [← Paired.length r1, sizeLine_eq]
    omega
  have hb' := hb ⟨(hp.push (PySem.W.kdv_tup us)).push (PySem.HandSPX.excO C hp.objs.size), g, dr, tk, os⟩ (Value.ref (hp.objs.size + 1) :: us) I2.kIn hl
  rw [List.append_nil] at hb'
  refine wpAny_call (PySem.HandSPX.call_own F.excBase_ValueError (fun Y => PySem.HandSPX.refsVE_contains Y bm hbm) (I1.kIn _ _ hC) (PySem.W.looks_findIn I1.kIn iC) (fun self => PySem.W.bind_fn I1.kIn self tI) hus
    (codeAny_mono (F1.run _ X.stack _ _ ⟨Value.ref (hp.objs.size + 1) :: us, []⟩ (Value.ref (hp.objs.size + 1) :: us) _ _ (fun _ _ _ => False) (hr.make C us []) (I2.env0.make C us []) hb' r2 hq) fun r s' hq' => ?_))
  cases r with
  | error er => exact hx pins σ _ _ er s' I2 hq'
  | ok fl =>
    cases fl with
    | ret u =>
      obtain ⟨v, H', I3, rv, ev, q3⟩ := I2.after hq'
      subst ev
      exact ⟨rv, ⟨V.ref (hp.objs.size + 1), H', I3, rfl, q3⟩⟩
    | next => exact False.elim hq'
    | brk => exact False.elim hq'
    | cont => exact False.elim hq'
end
end Rp

/-! C(k = v, ..), C a class of the program over ValueError with an __init__ of its own: BaseException.__new__ leaves the keywords to __init__, which then has the new object ahead of them. -/
namespace Rp
open PySem PySem.W PySem.Calls PySem.HandSPX PyProof.Rows Builtin Builtin.ObjectAttr
section
variable {prog : Program} {w : World} {A : Around} {E : Value → Shared → Prop} {R : Result → Shared → Prop} {h : Heap} {g : Array GenState} {d : Drawn} {t : Nat} {os : OsState} {C N fI : Addr} {nm q : Str}
  {bs bm : List Value} {sn : List Str} {sub : List Value} {ab : Bool} {col : Option Bool} {dd : Option Addr} {k0 k1 k2 k3 k5 : Option Value} {kw : List (Str × Value)}
/-- what stands in the mro behind C -/
structure MroVE (C : Addr) (bm : List Value) : Prop where
  own : (Value.ref C :: bm).contains (.ref C) = true
  base : (Value.ref C :: bm).contains (.type "ValueError") = true
  attr : (Value.ref C :: bm).contains (.type "AttributeError") = false
  name : (Value.ref C :: bm).contains (.type "NameError") = false
theorem mroVE (hb : refsVE bm = true) : MroVE C bm := by
  have z := fun X : String => refsVE_contains X bm hb
  have c := F.excBase_ValueError
  refine ⟨by simp, ?_, ?_, ?_⟩ <;> rw [List.contains_cons, z]
  · rw [c.hasB, Bool.or_true]
  · rw [c.noAttr]; rfl
  · rw [c.noName]; rfl
theorem kw_checked {M : Model} {Q : Unit → Shared → Prop} (m : MroVE C bm) (hC : h.get? C = some (excClassObj nm q C N bs bm true sn sub ab col dd k0 k1 k2 k3 k5 "ValueError.__new__")) (hq : Q () ⟨h, g, d, t, os⟩) :
    wpAny M A (checkBuiltinCall "ValueError.__new__" ⟨[.ref C], kw⟩) Q E ⟨h, g, d, t, os⟩ := by
  have c := F.excBase_ValueError
  have star := c.noStar
  have base := m.base
  simp only [checkBuiltinCall, c.newKind, c.newSplit, c.newRow]
  repeat (first | refine wpAny_loadPart_at hC ?_ | (refine wpAny_isSubtype_exc hC ?_; rw [base]) | refine wpAny_staticBase_exc hC ?_ | refine wpAny_madeBy_exc hC ?_ | simp only [bne_self_eq_false, Bool.false_eq_true, if_false] | wp_step)
  exact hq
theorem kw_call (hb : refsVE bm = true) (hC : h.get? C = some (excClassObj nm q C N bs bm true sn sub ab col dd k0 k1 k2 k3 k5 "ValueError.__new__"))
    (hi : Looks (model prog w) h (typeLookup (.ref C) "__init__") (some (.ref fI))) (hs : ∀ self, Looks (model prog w) h (bindSpecial (.ref fI) self) (.ref fI, [self]))
    (hq : codeAny (model prog w) (A.under (.builtin "type.__call__" ⟨[.ref C], kw⟩)) (.call (.ref fI) ⟨[.ref (h.objs.size + 1)], kw⟩) (InitBack (h.objs.size + 1) R) ⟨(h.push (kdv_tup [])).push (excO C h.objs.size), g, d, t, os⟩) :
    codeAny (model prog w) A (.call (.ref C) ⟨[], kw⟩) R ⟨h, g, d, t, os⟩ := by
  have m := mroVE (C := C) hb
  have c := F.excBase_ValueError
  have keep : ∀ b o, h.get? b = some o → ((h.push (kdv_tup [])).push (excO C h.objs.size)).get? b = some o := fun b o e => Heap.get?_push_of_some _ (Heap.get?_push_of_some _ e)
  have hO : ((h.push (kdv_tup [])).push (excO C h.objs.size)).get? (h.objs.size + 1) = some (excO C h.objs.size) := by heap_get
  have i1 := hi.keeps keep
  have i2 := (hs (.ref (h.objs.size + 1))).keeps keep
  have own := m.own
  have t1 := tc_lookup
  have t2 := tc_bind (.ref C)
  have ty : (⟨h, g, d, t, os⟩ : Shared).TypeIs (.ref C) "type" := ⟨_, hC, rfl⟩
  refine codeAny_of_tree ?_
  show wpAny _ _ (callAny (.ref C) _) _ _ _
  repeat (any_goals (first | assumption | with_reducible refine wpAny_loadPart_at hC ?_ | wp_step))
  refine ⟨rfl, codeAny_call_builtin_at (Code.quiet_builtin _ (by decide +kernel)) entry_typeCall (wpAny_check_type_call_sub hC ?_)⟩
  -- type.__call__: the object is made, the keywords aren't looked at
  have ends := c.ends
  have no1 := m.attr
  have no2 := m.name
  have base := m.base
  repeat (first | with_reducible refine wpAny_loadPart_at hC ?_ | with_reducible refine wpAny_madeBy_exc hC ?_ | wp_step)
  refine codeAny_call_builtin_code (Code.quiet_builtin _ c.quiet) (kw_checked m hC (codeAny_builtinAt c.entry ?_))
  unfold Builtin.«BaseException.__new__»
  refine PySem.wpAt_bind ?_
  show PySem.wpAt _ _ _ (stack >>= _) _ _ _
  refine PySem.wpAt_bind (PySem.wpAt_stack fun _ _ => PySem.wpAt_of_wpAny ?_)
  wp_walk
  refine PySem.wpAt_of_wpAny ?_
  rw [c.owner]
  repeat (first | with_reducible refine wpAny_madeHere_exc c.canon hC ?_ | with_reducible refine wpAny_loadPart_at hC ?_ | (with_reducible refine wpAny_isSubtype_exc hC ?_; first | rw [base] | rw [no1] | rw [no2]) | wp_step)
  -- it is one of C's, so its __init__ is asked with what was handed in
  rw [Heap.size_push]
  have hC' := keep _ _ hC
  show wpAny _ _ (isSubtype (.ref C) (.ref C)) _ _ ⟨(h.push (kdv_tup [])).push (excO C h.objs.size), g, d, t, os⟩
  repeat (first | with_reducible refine wpAny_loadPart_at hO ?_ | (with_reducible refine wpAny_isSubtype_exc hC' ?_; rw [own]) | wp_step)
  show wpAny _ _ (typeLookup (.ref C) _) _ _ _
  refine i1.at (wpAny_holding (wpAny_bind (i2.at (wpAny_bind (wpAny_call (codeAny_mono hq fun r s' z => ?_))))))
  cases r with
  | error e => exact z
  | ok fl =>
    cases fl with
    | ret v =>
      obtain ⟨rfl, z⟩ := z
      first | exact wpAny_pure (wpAny_pure z) | (wp_walk; exact z) | (wp_walk; done)
    | next => exact z.elim
    | brk => exact z.elim
    | cont => exact z.elim
end
end Rp

/-! RingError and the classes under it: made, asked for their kind, read. -/
namespace Rp
open PySem PySem.Spec PyProof.Rows L2
def clsBody : Stmt → List Stmt
  | .ClassDef _ _ _ b _ _ _ _ _ _ _ => b
  | _ => []
abbrev sInitM : Stmt := (clsBody sInit).getD 0 (.Pass ⟨0, 0, 0, 0⟩)
def oexIn (K : PySem.W.Frag) (C : Addr) : Bool := match K.lookup C with
  | some ⟨.type "type", _, .cls cd, sl⟩ => (match cd.mro, sl.toList with
    | .ref C' :: bm, [_, _, _, _, some (.builtin n), _] => C' == C && n == "ValueError.__new__" && !cd.hasDel && cd.hasDict && PySem.HandSPX.refsVE bm
    | _, _ => false)
  | _ => false
theorem oexIn_ok {K : PySem.W.Frag} {C : Addr} (q : oexIn K C = true) : ∃ nm q N bs bm sn sub ab col dd k0 k1 k2 k3 k5, K.lookup C = some (excClassObj nm q C N bs bm true sn sub ab col dd k0 k1 k2 k3 k5 "ValueError.__new__") ∧ PySem.HandSPX.refsVE bm = true := by
  unfold oexIn at q
  split at q
  · rename_i dd cd sl ho
    split at q
    · rename_i C' bm k0 k1 k2 k3 n k5 hm hs
      simp only [Bool.and_eq_true, beq_iff_eq, Bool.not_eq_true'] at q
      obtain ⟨⟨⟨⟨rfl, hn⟩, hdel⟩, hdct⟩, ht⟩ := q
      subst hn
      obtain ⟨nm, bs, mro, ns, qn, hd, sn, sub, ab, col, del⟩ := cd
      dsimp only at hm hdel hdct
      subst hm hdel hdct
      have hsl : sl = #[k0, k1, k2, k3, some (.builtin "ValueError.__new__"), k5] := by
        obtain ⟨l⟩ := sl
        simp only at hs
        rw [hs]
      subst hsl
      exact ⟨nm, qn, ns, bs, bm, sn, sub, ab, col, dd, k0, k1, k2, k3, k5, ho, ht⟩
    · cases q
  · cases q
theorem cls_some {K : PySem.W.Frag} {C : Addr} (h : PySem.W.hasDictIn K C = true) : (PySem.W.clsIn K C).isSome = true := by
  obtain ⟨cd, hc, _⟩ := PySem.W.any_some h
  rw [hc]; rfl
structure Kls (K : PySem.W.Frag) (fI C : Addr) : Prop where
  oex : OexC K C
  ini : PySem.W.findIn K (.ref C) "__init__" = some (some (.ref fI))
  wh : PySem.W.findIn K (.ref C) "what" = some none
  exc : ExcC K C
  xf : XfC K C
def spInit (K : PySem.W.Frag) : Sp := fun vs H Q _ => ∃ (a C : Addr) (y : V), vs = [.ref a, y] ∧ OexC K C ∧ PySem.W.findIn K (.ref C) "what" = some none ∧ H a = some (exo a C none) ∧
  ∀ d H', H d = none → d ≠ a → H' = upd (upd H d (exd d [("what", y)])) a (exo a C (some d)) → Q .non H'
section
variable {P : Program} {w : World} {K : PySem.W.Frag} {mg : Str → Option Value} {base : Heap}
theorem scInit : FnScope ["self", "what"] ["self", "what"] (defScope sInitM) := ⟨rfl, rfl, rfl, by decide +kernel, rfl, by decide +kernel, by decide +kernel⟩
theorem ok_init {f : Addr} {fd : FuncData} (F : Fun K "__init__" "RingError.__init__" sInitM f fd) (mV : mg "ValueError" = none) (vV : PySem.W.findCls K (.type "ValueError") (.type "type") "__init__" = some (.val (.builtin "ValueError.__init__"))) :
    FnOk P w K mg base CX0 1 f fd ["self", "what"] (spInit K) := by
  refine F.ok scInit (fun vs H Q E h => ?_) (fun cdv A outer s H vs Q E hr h => ?_)
  · obtain ⟨a, C, y, rfl, _⟩ := h
    rfl
  obtain ⟨a, C, y, rfl, T, hw, ha, fin⟩ := h
  refine ⟨_, pss_cons (ps_expr (pe_veinit (by rfl) mV vV (pa_cons (pv 0) (pa_cons (pv 1) pa_nil)))) (pss_one (ps_ost (pv 0) (pv 1))), ?_⟩
  refine ⟨_, rfl, _, rfl, a, C, [y], rfl, by simp, T, ha, ?_⟩
  exact ⟨_, rfl, _, rfl, a, C, rfl, T, hw, .inl ⟨ha, fun dx hdx ne => fin dx _ hdx ne rfl⟩⟩
end
/-- an exception object: its class, what it's told with -/
def ExAt (H : Hp) (v : V) (C : Addr) (y : V) : Prop := ∃ a d, v = .ref a ∧ H a = some (exo a C (some d)) ∧ H d = some (exd d [("what", y)])
theorem ExAt.same {H H' : Hp} {v : V} {C : Addr} {y : V} (h : ExAt H v C y) (s : ∀ b u, H b = some u → H' b = some u) : ExAt H' v C y := by
  obtain ⟨a, d, e, h1, h2⟩ := h
  exact ⟨a, d, e, s _ _ h1, s _ _ h2⟩
section
variable {X : Cx} {p pos : Pos} {e : Expr} {es : List Expr} {ta : TA} {te : TE}
def tMkE (C : Addr) (te : TE) : TE := fun σ H Q => te σ H fun y H1 => ∀ v H2, ExAt H2 v C y → (∀ b u, H1 b = some u → H2 b = some u) → Q v H2
theorem mk_at {C : Addr} {y : V} {H1 H' : Hp} {a d : Addr} (ha : H1 a = none) (hd : upd H1 a (exo a C none) d = none) (ne : d ≠ a) (e : H' = upd (upd (upd H1 a (exo a C none)) d (exd d [("what", y)])) a (exo a C (some d))) :
    ExAt H' (.ref a) C y ∧ ∀ b u, H1 b = some u → H' b = some u := by
  subst e
  have hd0 : H1 d = none := by rw [upd_ne ne] at hd; exact hd
  refine ⟨⟨a, d, rfl, upd_same, by rw [upd_ne ne, upd_same]⟩, fun b u z => ?_⟩
  have nb : b ≠ a := fun e => by rw [e, ha] at z; cases z
  have nd : b ≠ d := fun e => by rw [e, hd0] at z; cases z
  rw [upd_ne nb, upd_ne nd, upd_ne nb]
  exact z
def tMkK (C : Addr) (sp : Sp) (tk : TA) : TE := fun σ H Q => tk σ H fun zs H1 => ∃ y, zs = [y] ∧ ∀ a, H1 a = none → sp [.ref a, y] (upd H1 a (exo a C none)) (fun v H2 => v = .non ∧ Q (.ref a) H2) (fun _ _ _ => False)
theorem pe_oexK {x : Str} {C fI : Addr} {k : Nat} {fd : FuncData} {sp : Sp} {CX : CXT} {kws : List Keyword} {tk : TA} (T : OexC X.K C) (iC : PySem.W.findIn X.K (.ref C) "__init__" = some (some (.ref fI))) (tI : PySem.W.typeIn X.K (.ref fI) = some (.type "function"))
    (F1 : FnOk X.prog X.w X.K X.mg X.base CX k fI fd ["self", "what"] sp) (hr : Room (k + 1) X.A) (hb : ∀ (s : Shared) (a b : Value), X.K.In s.heap → BindsTo s fd ⟨[a], [("what", b)]⟩ [("self", a), ("what", b)]) (hx : Passes CX X (fun _ _ _ => False)) (hg : Gl X x) (hm : X.mg x = some (.ref C)) (hkw : PK X kws tk)
    (hall : (backToKw pos (keywordEach kws X.env)).all (·.1.isSome) = true := by rfl) (hks : (backToKw pos (keywordEach kws X.env)).filterMap (·.1) = [Str.ofString "what"] := by rfl)
    (hdb : (x == ("__debug__" : Str)) = false := by decide) (hpl : ((backTo pos (starEach [] X.env)).any (·.1) || (backToKw pos (keywordEach kws X.env)).any (·.1.isNone)) = false := by rfl) :
    PE X (.Call (.Name x p) [] kws pos) (tMkK C sp tk) := by
  refine ⟨fun pins s σ H Q I h => ?_⟩
  obtain ⟨nm, q, N, bs, bm, sn, sub, ab, col, dd, k0, k1, k2, k3, k5, hC, hbm⟩ := T.cls
  refine wpAny_Call_Name_kw (ld_glob I hg hm ?_ hdb)
  refine PySem.W.callWith_KW0 (h₀ := X.base) I.ok.mod.kin T.kC hall ?_ hpl
  refine thn (hkw.run pos pins s σ H _ I h) fun ws s1 ⟨zs, H1, I1, rz, y, e, q1⟩ => ⟨I1.kIn, ?_⟩
  subst e
  cases rz with
  | @cons _ u0 _ ur ru rr =>
  cases rr
  rw [hks]
  show wpAny _ _ (call (.ref C) [] [("what", u0)]) _ _ _
  obtain ⟨hp, g, dr, tk', os⟩ := s1
  have hsz : hp.objs.size ≤ hp.objs.size + 1 := Nat.le_succ _
  have hn : H1 (hp.objs.size + 1) = none := I1.hok.fresh hsz
  have hq := q1 (hp.objs.size + 1) hn
  have kk : ∀ b o, hp.get? b = some o → ((hp.push (PySem.W.kdv_tup [])).push (PySem.HandSPX.excO C hp.objs.size)).get? b = some o := fun b o e => Heap.get?_push_of_some _ (Heap.get?_push_of_some _ e)
  have hget : ((hp.push (PySem.W.kdv_tup [])).push (PySem.HandSPX.excO C hp.objs.size)).get? (hp.objs.size + 1) = some (PySem.HandSPX.excO C hp.objs.size) := by heap_get
  have I2 : Inv X pins σ (upd H1 (hp.objs.size + 1) (exo (hp.objs.size + 1) C none)) ⟨(hp.push (PySem.W.kdv_tup [])).push (PySem.HandSPX.excO C hp.objs.size), g, dr, tk', os⟩ :=
    I1.laid (t' := tk') (a := hp.objs.size + 1) (o := exo (hp.objs.size + 1) C none) (h' := (hp.push (PySem.W.kdv_tup [])).push (PySem.HandSPX.excO C hp.objs.size)) kk hsz (exo_ok hget)
  have r2 : Vals [V.ref (hp.objs.size + 1), y] [Value.ref (hp.objs.size + 1), u0] := .cons rfl (.cons ru .nil)
  have hb' := hb ⟨(hp.push (PySem.W.kdv_tup [])).push (PySem.HandSPX.excO C hp.objs.size), g, dr, tk', os⟩ (Value.ref (hp.objs.size + 1)) u0 I2.kIn
  refine wpAny_call (kw_call hbm (I1.kIn _ _ hC) (PySem.W.looks_findIn I1.kIn iC) (fun self => PySem.W.bind_fn I1.kIn self tI)
    (codeAny_mono (F1.run _ X.stack _ _ ⟨[Value.ref (hp.objs.size + 1)], [("what", u0)]⟩ [Value.ref (hp.objs.size + 1), u0] _ _ (fun _ _ _ => False) (hr.make C [] [("what", u0)]) (I2.env0.make C [] [("what", u0)]) hb' r2 hq) fun r s' hq' => ?_))
  cases r with
  | error er => exact hx pins σ _ _ er s' I2 hq'
  | ok fl =>
    cases fl with
    | ret u =>
      obtain ⟨v, H', I3, rv, ev, q3⟩ := I2.after hq'
      subst ev
      exact ⟨rv, ⟨V.ref (hp.objs.size + 1), H', I3, rfl, q3⟩⟩
    | next => exact False.elim hq'
    | brk => exact False.elim hq'
    | cont => exact False.elim hq'
theorem ex_inst {pins : List (Addr × Obj)} {σ : L2.St} {H : Hp} {s : Shared} {v : V} {C : Addr} {y : V} (I : Inv X pins σ H s) (h : ExAt H v C y) {u : Value} (r : RelV v u) :
    ∃ (a dx : Addr) (t1 : Addr) (od : Obj), u = .ref a ∧ PySem.W.InstAt s.heap a ({ cls := .ref C, dict := some dx, data := .fields #[.ref t1, .none, .none, .none, .bool false, .none] } : Obj) C (some od) ∧ ∃ uy, PySem.W.lookIn "what" od = some (some uy) ∧ RelV y uy := by
  obtain ⟨a, d, rfl, h1, h2⟩ := h
  obtain rfl : u = Value.ref a := r
  obtain ⟨t1, ha⟩ := exo_at I.hok h1
  obtain ⟨mA, hns, hr⟩ := exd_at I.hok h2
  obtain ⟨od, ho, hl⟩ := lookIn_ns hns
  obtain ⟨uy, hu, ru⟩ := RelO.some_of (v := y) (o := mA "what") (by have := hr "what"; exact this)
  exact ⟨a, d, t1, od, rfl, ⟨ha, rfl, rfl, ho⟩, uy, by rw [hl, hu], ru⟩
/-- isinstance(e, c), e an exception object -/
def rIsX (K : PySem.W.Frag) : List V → Hp → VK → Prop := fun xs H Q => ∃ (v c : V) (C : Addr) (y : V) (cv : Value) (b : Bool), xs = [v, c] ∧ ExAt H v C y ∧ ExcC K C ∧ ClsV c cv ∧ PySem.W.kitOne K (.ref C) cv = some b ∧ Q (.bl b) H
theorem call_isX : CallR X (.builtin "isinstance") (rIsX X.K) := by
  intro pins s σ H xs us Q I r h
  obtain ⟨v, c, C, y, cv, b, rfl, hv, E, k, e, q⟩ := h
  obtain ⟨u1, u2, rfl, r1, r2⟩ := vals2 r
  have e2 := k.eq r2
  subst e2
  obtain ⟨a, dx, t1, od, rfl, J, _⟩ := ex_inst I hv r1
  exact PySem.W.kia_one (PySem.W.kitx_exc (cls_some E.hd) E.hg E.hk E.hs E.ha E.hn E.ht E.hm) I.kIn J e (fun z => nomatch z) fun tk => ⟨.bl b, H, I.tok tk, rfl, q⟩
def rIsXT (K : PySem.W.Frag) : List V → Hp → VK → Prop := fun xs H Q => ∃ (v : V) (tp : Addr) (cs : List V) (C : Addr) (y : V) (us : List Value) (b : Bool), xs = [v, .ref tp] ∧ H tp = some (.tup cs) ∧ Paired ClsV cs us ∧ ExAt H v C y ∧ ExcC K C ∧ PySem.W.kitAny K (.ref C) us = some b ∧ Q (.bl b) H
theorem call_isXT : CallR X (.builtin "isinstance") (rIsXT X.K) := by
  intro pins s σ H xs us Q I r h
  obtain ⟨v, tp, cs, C, y, ws, b, rfl, hT, k, hv, E, e, q⟩ := h
  obtain ⟨u1, u2, rfl, r1, r2⟩ := vals2 r
  cases (show u2 = Value.ref tp from r2)
  obtain ⟨a, dx, t1, od, rfl, J, _⟩ := ex_inst I hv r1
  obtain ⟨_, its, rv, o, h1, h2, n, h3⟩ := (show ObjOk X.prog X.w H s.heap tp (.tup cs) from I.hok tp _ hT)
  have e3 := ClsV.all k rv
  subst e3
  obtain ⟨oc, od', dt, sl⟩ := o
  simp only at h2 h3
  subst h2 h3
  exact PySem.W.kia_tup (PySem.W.kitx_exc (cls_some E.hd) E.hg E.hk E.hs E.ha E.hn E.ht E.hm) I.kIn J h1 e (fun z => nomatch z) fun tk => ⟨.bl b, H, I.tok tk, rfl, q⟩
/-- e.what -/
def tWhat (K : PySem.W.Frag) (te : TE) : TE := fun σ H Q => te σ H fun v H1 => ∃ (C : Addr) (y : V), ExAt H1 v C y ∧ XfC K C ∧ PySem.W.findIn K (.ref C) "what" = some none ∧ Q y H1
theorem pe_what (he : PE X e te) (hb : attributeBase e "what" X.env (eval e X.env) = eval e X.env := by rfl) : PE X (.Attribute e "what" pos) (tWhat X.K te) := by
  refine ⟨fun pins s σ H Q I h => ?_⟩
  refine attr_of hb (thn (he.run pins s σ H _ I h) fun u s1 hh => ?_)
  obtain ⟨v, H1, I1, rx, C, y, hv, T, hno, q⟩ := hh
  obtain ⟨a, dx, t1, od, rfl, J, uy, hl, ru⟩ := ex_inst I1 hv rx
  exact HandSPX.exc_get I1.kIn J T.ga T.gg T.exC (PySem.W.findObj_own T.hdC hno rfl hl) (handed_of ru) ⟨y, H1, I1.tok _, ru, q⟩
end
end Rp

set_option maxHeartbeats 16000000
/-! The law's own makings of refusals. -/
namespace Rp
open PySem PySem.Spec PyProof.Rows L2
theorem op_mulS {X : Cx} : OpR X (binaryOp .Mult) (fun x y H Q => ∃ n : Int, x = .str "x" ∧ y = .int n ∧ 0 ≤ n ∧ n < 9 ∧ ∀ z : Str, Q (.str z) H) := by
  intro pins s σ H x y v u Q I rx ry h
  obtain ⟨n, rfl, rfl, n0, n9, q⟩ := h
  obtain ⟨t, rfl⟩ := rx
  obtain ⟨t', rfl⟩ := ry
  rcases (by omega : n = 0 ∨ n = 1 ∨ n = 2 ∨ n = 3 ∨ n = 4 ∨ n = 5 ∨ n = 6 ∨ n = 7 ∨ n = 8) with rfl | rfl | rfl | rfl | rfl | rfl | rfl | rfl | rfl
  · exact PySem.P.mul_str (by decide) (fun h _ => absurd (by decide) h) (fun h _ => absurd (by decide) h) (by rw [if_pos (by decide)]; exact ⟨by decide, V.str Str.empty, H, I.tok _, ⟨_, rfl⟩, q _⟩)
  · exact PySem.P.mul_str (by decide) (fun _ _ => by decide +kernel) (fun _ _ => by decide +kernel) (by rw [if_neg (by decide), if_pos (by decide +kernel)]; exact ⟨V.str "x", H, I, ⟨_, rfl⟩, q _⟩)
  · exact PySem.P.mul_str (by decide) (fun _ _ => by decide +kernel) (fun _ _ => by decide +kernel) (by rw [if_neg (by decide), if_neg (by decide +kernel)]; exact ⟨by decide +kernel, V.str _, H, I.tok _, ⟨_, rfl⟩, q _⟩)
  · exact PySem.P.mul_str (by decide) (fun _ _ => by decide +kernel) (fun _ _ => by decide +kernel) (by rw [if_neg (by decide), if_neg (by decide +kernel)]; exact ⟨by decide +kernel, V.str _, H, I.tok _, ⟨_, rfl⟩, q _⟩)
  · exact PySem.P.mul_str (by decide) (fun _ _ => by decide +kernel) (fun _ _ => by decide +kernel) (by rw [if_neg (by decide), if_neg (by decide +kernel)]; exact ⟨by decide +kernel, V.str _, H, I.tok _, ⟨_, rfl⟩, q _⟩)
  · exact PySem.P.mul_str (by decide) (fun _ _ => by decide +kernel) (fun _ _ => by decide +kernel) (by rw [if_neg (by decide), if_neg (by decide +kernel)]; exact ⟨by decide +kernel, V.str _, H, I.tok _, ⟨_, rfl⟩, q _⟩)
  · exact PySem.P.mul_str (by decide) (fun _ _ => by decide +kernel) (fun _ _ => by decide +kernel) (by rw [if_neg (by decide), if_neg (by decide +kernel)]; exact ⟨by decide +kernel, V.str _, H, I.tok _, ⟨_, rfl⟩, q _⟩)
  · exact PySem.P.mul_str (by decide) (fun _ _ => by decide +kernel) (fun _ _ => by decide +kernel) (by rw [if_neg (by decide), if_neg (by decide +kernel)]; exact ⟨by decide +kernel, V.str _, H, I.tok _, ⟨_, rfl⟩, q _⟩)
  · exact PySem.P.mul_str (by decide) (fun _ _ => by decide +kernel) (fun _ _ => by decide +kernel) (by rw [if_neg (by decide), if_neg (by decide +kernel)]; exact ⟨by decide +kernel, V.str _, H, I.tok _, ⟨_, rfl⟩, q _⟩)
def ThAt (H : Hp) (v : V) : Prop := Plain v ∨ ∃ p, v = .ref p ∧ (H p = some (.lst [.int 1, .int 2]) ∨ (∃ q, H p = some (.tup [.str "even", .ref q]) ∧ H q = some (.tup [.str "0"])) ∨ H p = some (.tup []))
theorem ThAt.keep {H H' : Hp} {v : V} (h : ThAt H v) (s : ∀ b u, H b = some u → (∀ xs, u = .lst xs → xs = [.int 1, .int 2]) → H' b = some u) : ThAt H' v := by
  rcases h with h | ⟨p, e, h⟩
  · exact .inl h
  · refine .inr ⟨p, e, ?_⟩
    rcases h with h | ⟨q, h1, h2⟩ | h
    · exact .inl (s _ _ h fun xs e => by cases e; rfl)
    · exact .inr (.inl ⟨q, s _ _ h1 (fun xs e => by cases e), s _ _ h2 (fun xs e => by cases e)⟩)
    · exact .inr (.inr (s _ _ h fun xs e => by cases e))
theorem ThAt.same {H H' : Hp} {v : V} (h : ThAt H v) (s : Same H H') : ThAt H' v := h.keep fun b u z _ => s _ _ z
theorem alike_self {H : Hp} {n : Nat} {v : V} (p : Plain v) : Alike H n v v := by
  cases n with
  | zero => unfold Alike; exact ⟨p, rfl⟩
  | succ n => unfold Alike; exact .inl ⟨p, rfl⟩
theorem ThAt.alike {H : Hp} {v : V} (h : ThAt H v) : Alike H 3 v v := by
  rcases h with h | ⟨p, rfl, h⟩
  · exact alike_self h
  · rcases h with h | ⟨q, h1, h2⟩ | h
    · unfold Alike
      refine .inr ⟨p, p, _, _, rfl, rfl, .inl ⟨h, h⟩, rfl, by simp, fun i u w e1 e2 => ?_⟩
      obtain rfl : u = w := Option.some.inj (e1.symm.trans e2)
      match i with
      | 0 => simp at e1; subst e1; exact alike_self trivial
      | 1 => simp at e1; subst e1; exact alike_self trivial
      | i + 2 => simp at e1
    · unfold Alike
      refine .inr ⟨p, p, _, _, rfl, rfl, .inr ⟨h1, h1⟩, rfl, by simp, fun i u w e1 e2 => ?_⟩
      obtain rfl : u = w := Option.some.inj (e1.symm.trans e2)
      match i with
      | 0 => simp at e1; subst e1; exact alike_self trivial
      | 1 =>
        simp at e1; subst e1
        unfold Alike
        refine .inr ⟨q, q, _, _, rfl, rfl, .inr ⟨h2, h2⟩, rfl, by simp, fun i u w e1 e2 => ?_⟩
        obtain rfl : u = w := Option.some.inj (e1.symm.trans e2)
        match i with
        | 0 => simp at e1; subst e1; exact alike_self trivial
        | i + 1 => simp at e1
      | i + 2 => simp at e1
    · unfold Alike
      refine .inr ⟨p, p, _, _, rfl, rfl, .inr ⟨h, h⟩, rfl, by simp, fun i u w e1 e2 => ?_⟩
      simp at e1
theorem ne_box {H : Hp} {a b : Addr} {j : Nat} (B : BoxAt H b j) (h : H a = none) : a ≠ b := by
  obtain ⟨y, hb⟩ := B.some
  exact (ne_of_none hb h).symm
def spThing : Sp := fun vs H Q _ => ∃ (b : Addr) (j : Nat), vs = [.ref b] ∧ BoxAt H b j ∧ j + 3 ≤ 1000000 ∧ ∀ v H', ThAt H' v → BoxAt H' b (j + 3) → But b H H' → Q v H'
section
variable {P : Program} {w : World} {K : PySem.W.Frag} {mg : Str → Option Value} {base : Heap}
theorem scThing : FnScope ["_law_box_here", "_law_things"] ["_law_box_here"] (defScope sThing) := ⟨rfl, rfl, rfl, by decide +kernel, rfl, by decide +kernel, by decide +kernel⟩
theorem ok_thing {f fT fP : Addr} {fd dT dP : FuncData} (F : Fun K "_law_thing" "_law_thing" sThing f fd)
    (GT : FnOk P w K mg base CX0 1 fT dT ["_law_box_here", "_law_reach"] spTake) (kT : PySem.W.keepIn K (.ref fT) = true) (bT : Binds K dT ["_law_box_here", "_law_reach"] []) (mT : mg "_law_take" = some (.ref fT))
    (GP : FnOk P w K mg base CX0 2 fP dP ["_law_box_here", "_law_things"] spPick) (kP : PySem.W.keepIn K (.ref fP) = true) (bP : Binds K dP ["_law_box_here", "_law_things"] []) (mP : mg "_law_pick" = some (.ref fP)) : FnOk P w K mg base CX0 3 f fd ["_law_box_here"] spThing := by
  refine F.ok scThing (fun vs H Q E h => ?_) (fun cdv A outer s H vs Q E hr h => ?_)
  · obtain ⟨b, j, rfl, _⟩ := h
    rfl
  obtain ⟨b, j, rfl, B, hj, q⟩ := h
  have r1 : Room 1 _ := hr.mono (by decide)
  refine ⟨_, pss_cons (ps_set (i := 1) scThing.nd rfl (Or.inl rfl) (pe_lst (pa_cons (pe_call GT r1 rfl mT kT bT .nil pass0 (pa_cons (pv 0) (pa_cons pe_int pa_nil))) (pa_cons pe_int (pa_cons pe_str (pa_cons pe_str (pa_cons (pe_tup (pa_cons pe_str (pa_cons (pe_tup (pa_cons pe_str pa_nil)) pa_nil)))
      (pa_cons (pe_lst (pa_cons pe_int (pa_cons pe_int pa_nil))) (pa_cons (pe_tup pa_nil) (pa_cons (pe_un un_neg pe_int) (pa_cons (pe_op op_mulS pe_str (pe_call GT r1 rfl mT kT bT .nil pass0 (pa_cons (pv 0) (pa_cons pe_int pa_nil)))) pa_nil)))))))))))
    (pss_one (ps_ret (pe_call GP hr rfl mP kP bP .nil pass0 (pa_cons (pv 0) (pa_cons (pv 1) pa_nil))))), ?_⟩
  refine ⟨_, rfl, b, _, j, rfl, B, by omega, by decide, by decide, fun r1' H1 a0 a1 B1 o1 => ?_⟩
  refine ⟨(by show 1 ≤ sizeLine; decide), fun t1 ht1 => ⟨(by show 2 ≤ sizeLine; decide), fun t2 ht2 => ⟨(by show 2 ≤ sizeLine; decide), fun l1 hl1 => ⟨(by show 0 ≤ sizeLine; decide), fun t3 ht3 => ?_⟩⟩⟩⟩
  have s1 := same_new ht1 (.tup [V.str "0"])
  have s2 := same_new ht2 (.tup [V.str "even", .ref t1])
  have s3 := same_new hl1 (.lst [V.int 1, .int 2])
  have s4 := same_new ht3 (.tup ([] : List V))
  have e1 := s4 _ _ (s3 _ _ (s2 _ _ (upd_same : (upd H1 t1 (.tup [V.str "0"])) t1 = _)))
  have e2 := s4 _ _ (s3 _ _ (upd_same : (upd (upd H1 t1 (.tup [V.str "0"])) t2 (.tup [V.str "even", .ref t1])) t2 = _))
  have e3 := s4 _ _ (upd_same : (upd (upd (upd H1 t1 (.tup [V.str "0"])) t2 (.tup [V.str "even", .ref t1])) l1 (.lst [V.int 1, .int 2])) l1 = _)
  have e4 : (upd (upd (upd (upd H1 t1 (.tup [V.str "0"])) t2 (.tup [V.str "even", .ref t1])) l1 (.lst [V.int 1, .int 2])) t3 (.tup ([] : List V))) t3 = some (.tup []) := upd_same
  have l1b : l1 ≠ b := ne_box ((B1.same s1).same s2) hl1
  have B4 := (((B1.same s1).same s2).same s3).same s4
  have o4 := o1.trans ((but_of s1).trans ((but_of s2).trans ((but_of s3).trans (but_of s4))))
  generalize upd (upd (upd (upd H1 t1 (.tup [V.str "0"])) t2 (.tup [V.str "even", .ref t1])) l1 (.lst [V.int 1, .int 2])) t3 (.tup ([] : List V)) = H4 at e1 e2 e3 e4 B4 o4 ⊢
  refine ⟨_, rfl, ?_⟩
  refine ⟨_, rfl, b, _, _, rfl, B4, by omega, by decide, by decide, fun r5 H5 c0 c1 B5 o5 => ?_⟩
  have nt : ∀ {t : Addr} {xs : List V}, H4 t = some (.tup xs) → t ≠ b := fun h => by
    obtain ⟨y, hb⟩ := B4.some
    exact ne_of h hb (by intro z; cases z)
  refine ⟨_, rfl, rfl, c0, c1, fun z => ⟨(by show 9 ≤ sizeLine; decide), fun l2 hl2 => ?_⟩⟩
  have s6 := same_new hl2 (.lst [V.int r1', .int 0, .str "", .str "even", .ref t2, .ref l1, .ref t3, .int (-1), .str z])
  have l2b : l2 ≠ b := ne_box B5 hl2
  refine ⟨_, rfl, _, rfl, b, l2, _, _, rfl, B5.same s6, by omega, upd_same, l2b, by simp, by simp, fun v H7 hv B7 o7 => ?_⟩
  have e1' := s6 _ _ (o5 _ _ e1 (nt e1))
  have e2' := s6 _ _ (o5 _ _ e2 (nt e2))
  have e3' := s6 _ _ (o5 _ _ e3 l1b)
  have e4' := s6 _ _ (o5 _ _ e4 (nt e4))
  refine q v H7 ?_ (B7.more (by omega)) (o4.trans (o5.trans ((but_of s6).trans o7)))
  simp only [List.mem_cons, List.not_mem_nil, or_false] at hv
  rcases hv with rfl | rfl | rfl | rfl | rfl | rfl | rfl | rfl | rfl
  · exact .inl trivial
  · exact .inl trivial
  · exact .inl trivial
  · exact .inl trivial
  · exact .inr ⟨t2, rfl, .inr (.inl ⟨t1, o7 _ _ e2' (nt e2), o7 _ _ e1' (nt e1)⟩)⟩
  · exact .inr ⟨l1, rfl, .inl (o7 _ _ e3' l1b)⟩
  · exact .inr ⟨t3, rfl, .inr (.inr (o7 _ _ e4' (nt e4)))⟩
  · exact .inl trivial
  · exact .inl trivial
end
structure ClsG (K : PySem.W.Frag) (mg : Str → Option Value) (fI : Addr) (Cs : Nat → Addr) : Prop where
  kl : ∀ k, k < 15 → Kls K fI (Cs k)
  m0 : mg "BadText" = some (.ref (Cs 0))
  m1 : mg "BadRow" = some (.ref (Cs 1))
  m2 : mg "Clash" = some (.ref (Cs 2))
  m3 : mg "NoRule" = some (.ref (Cs 3))
  m4 : mg "BadStep" = some (.ref (Cs 4))
  m5 : mg "BadChart" = some (.ref (Cs 5))
  m6 : mg "Leans" = some (.ref (Cs 6))
  m7 : mg "NotLetBy" = some (.ref (Cs 7))
  m8 : mg "NoWorld" = some (.ref (Cs 8))
  m9 : mg "TooLong" = some (.ref (Cs 9))
  m10 : mg "Known" = some (.ref (Cs 10))
  m11 : mg "Unknown" = some (.ref (Cs 11))
  m12 : mg "TooMany" = some (.ref (Cs 12))
  m13 : mg "Leant" = some (.ref (Cs 13))
  m14 : mg "BadDeed" = some (.ref (Cs 14))
def spMade (Cs : Nat → Addr) : Sp := fun vs H Q _ => ∃ (k : Nat) (y : V), vs = [.int (k : Nat), y] ∧ k < 15 ∧ ∀ p v1 v2 H', H' p = some (.lst [v1, v2]) → ExAt H' v1 (Cs k) y → ExAt H' v2 (Cs k) y → Same H H' → Q (.ref p) H'
def spMore (Cs : Nat → Addr) : Sp := fun vs H Q _ => ∃ (k : Nat) (y : V), vs = [.int (k : Nat), y] ∧ 8 ≤ k ∧ k < 15 ∧ ∀ p v1 v2 H', H' p = some (.lst [v1, v2]) → ExAt H' v1 (Cs k) y → ExAt H' v2 (Cs k) y → Same H H' → Q (.ref p) H'
section
variable {P : Program} {w : World} {K : PySem.W.Frag} {mg : Str → Option Value} {base : Heap} {Cs : Nat → Addr} {fI : Addr} {dI : FuncData}
theorem scMore : FnScope ["_law_way", "_law_own"] ["_law_way", "_law_own"] (defScope sMore) := ⟨rfl, rfl, rfl, by decide +kernel, rfl, by decide +kernel, by decide +kernel⟩
theorem ok_more {f : Addr} {fd : FuncData} (F : Fun K "_law_made_more" "_law_made_more" sMore f fd) (G : ClsG K mg fI Cs) (tI : PySem.W.typeIn K (.ref fI) = some (.type "function")) (GI : FnOk P w K mg base CX0 1 fI dI ["self", "what"] (spInit K)) (bI : Binds K dI ["self", "what"] [])
    (bK : ∀ (s : Shared) (a b : Value), K.In s.heap → BindsTo s dI ⟨[a], [("what", b)]⟩ [("self", a), ("what", b)]) : FnOk P w K mg base CX0 3 f fd ["_law_way", "_law_own"] (spMore Cs) := by
  refine F.ok scMore (fun vs H Q E h => ?_) (fun cdv A outer s H vs Q E hr h => ?_)
  · obtain ⟨k, y, rfl, _⟩ := h
    rfl
  obtain ⟨k, y, rfl, kl, kh, fin⟩ := h
  have r1 : Room 2 _ := hr.mono (by decide)
  refine ⟨_,
    (pss_cons (ps_if (pt_cmpR op_eq (pv 0) pe_int (nomark _)) (pss_one (ps_ret (pe_lst (pa_cons (pe_oexV (G.kl 8 (by decide)).oex (G.kl 8 (by decide)).ini tI GI r1 bI pass0 (by rfl) G.m8 (pa_cons (pv 1) pa_nil)) (pa_cons (pe_oexK (G.kl 8 (by decide)).oex (G.kl 8 (by decide)).ini tI GI r1 bK pass0 (by rfl) G.m8 (pk_cons (pv 1) pk_nil)) pa_nil))))) pss_nil)
    (pss_cons (ps_if (pt_cmpR op_eq (pv 0) pe_int (nomark _)) (pss_one (ps_ret (pe_lst (pa_cons (pe_oexV (G.kl 9 (by decide)).oex (G.kl 9 (by decide)).ini tI GI r1 bI pass0 (by rfl) G.m9 (pa_cons (pv 1) pa_nil)) (pa_cons (pe_oexK (G.kl 9 (by decide)).oex (G.kl 9 (by decide)).ini tI GI r1 bK pass0 (by rfl) G.m9 (pk_cons (pv 1) pk_nil)) pa_nil))))) pss_nil)
    (pss_cons (ps_if (pt_cmpR op_eq (pv 0) pe_int (nomark _)) (pss_one (ps_ret (pe_lst (pa_cons (pe_oexV (G.kl 10 (by decide)).oex (G.kl 10 (by decide)).ini tI GI r1 bI pass0 (by rfl) G.m10 (pa_cons (pv 1) pa_nil)) (pa_cons (pe_oexK (G.kl 10 (by decide)).oex (G.kl 10 (by decide)).ini tI GI r1 bK pass0 (by rfl) G.m10 (pk_cons (pv 1) pk_nil)) pa_nil))))) pss_nil)
    (pss_cons (ps_if (pt_cmpR op_eq (pv 0) pe_int (nomark _)) (pss_one (ps_ret (pe_lst (pa_cons (pe_oexV (G.kl 11 (by decide)).oex (G.kl 11 (by decide)).ini tI GI r1 bI pass0 (by rfl) G.m11 (pa_cons (pv 1) pa_nil)) (pa_cons (pe_oexK (G.kl 11 (by decide)).oex (G.kl 11 (by decide)).ini tI GI r1 bK pass0 (by rfl) G.m11 (pk_cons (pv 1) pk_nil)) pa_nil))))) pss_nil)
    (pss_cons (ps_if (pt_cmpR op_eq (pv 0) pe_int (nomark _)) (pss_one (ps_ret (pe_lst (pa_cons (pe_oexV (G.kl 12 (by decide)).oex (G.kl 12 (by decide)).ini tI GI r1 bI pass0 (by rfl) G.m12 (pa_cons (pv 1) pa_nil)) (pa_cons (pe_oexK (G.kl 12 (by decide)).oex (G.kl 12 (by decide)).ini tI GI r1 bK pass0 (by rfl) G.m12 (pk_cons (pv 1) pk_nil)) pa_nil))))) pss_nil)
    (pss_one (ps_ret (pe_ifExp (pt_cmpR op_eq (pv 0) pe_int (nomark _)) (pe_lst (pa_cons (pe_oexV (G.kl 13 (by decide)).oex (G.kl 13 (by decide)).ini tI GI r1 bI pass0 (by rfl) G.m13 (pa_cons (pv 1) pa_nil)) (pa_cons (pe_oexK (G.kl 13 (by decide)).oex (G.kl 13 (by decide)).ini tI GI r1 bK pass0 (by rfl) G.m13 (pk_cons (pv 1) pk_nil)) pa_nil))) (pe_lst (pa_cons (pe_oexV (G.kl 14 (by decide)).oex (G.kl 14 (by decide)).ini tI GI r1 bI pass0 (by rfl) G.m14 (pa_cons (pv 1) pa_nil)) (pa_cons (pe_oexK (G.kl 14 (by decide)).oex (G.kl 14 (by decide)).ini tI GI r1 bK pass0 (by rfl) G.m14 (pk_cons (pv 1) pk_nil)) pa_nil))))))))))), ?_⟩
  rcases (by omega : k = 8 ∨ k = 9 ∨ k = 10 ∨ k = 11 ∨ k = 12 ∨ k = 13 ∨ k = 14) with rfl | rfl | rfl | rfl | rfl | rfl | rfl
  · refine ⟨_, rfl, rfl, true, congrArg V.bl (decide_eq_true rfl), iteT ?_⟩
    refine ⟨_, rfl, by simp, fun a1 ha1 => ⟨a1, Cs 8, y, rfl, (G.kl 8 (by decide)).oex, (G.kl 8 (by decide)).wh, upd_same, fun d1 H1 hd1 ne1 e1 => ⟨rfl, ?_⟩⟩⟩
    obtain ⟨E1, s1⟩ := mk_at ha1 hd1 ne1 e1
    refine ⟨_, rfl, y, rfl, fun a2 ha2 => ⟨a2, Cs 8, y, rfl, (G.kl 8 (by decide)).oex, (G.kl 8 (by decide)).wh, upd_same, fun d2 H2 hd2 ne2 e2 => ⟨rfl, ?_⟩⟩⟩
    obtain ⟨E2, s2⟩ := mk_at ha2 hd2 ne2 e2
    refine ⟨(by show 2 ≤ sizeLine; decide), fun p hp => ?_⟩
    have s3 := same_new hp (.lst [V.ref a1, .ref a2])
    exact fin p _ _ _ upd_same ((E1.same s2).same fun b u z => s3 _ _ z) (E2.same fun b u z => s3 _ _ z) (fun b u z => s3 _ _ (s2 _ _ (s1 _ _ z)))
  · refine ⟨_, rfl, rfl, false, congrArg V.bl (decide_eq_false fun z => by injection z with z; exact absurd z (by decide)), iteF ?_⟩
    refine ⟨_, rfl, rfl, true, congrArg V.bl (decide_eq_true rfl), iteT ?_⟩
    refine ⟨_, rfl, by simp, fun a1 ha1 => ⟨a1, Cs 9, y, rfl, (G.kl 9 (by decide)).oex, (G.kl 9 (by decide)).wh, upd_same, fun d1 H1 hd1 ne1 e1 => ⟨rfl, ?_⟩⟩⟩
    obtain ⟨E1, s1⟩ := mk_at ha1 hd1 ne1 e1
    refine ⟨_, rfl, y, rfl, fun a2 ha2 => ⟨a2, Cs 9, y, rfl, (G.kl 9 (by decide)).oex, (G.kl 9 (by decide)).wh, upd_same, fun d2 H2 hd2 ne2 e2 => ⟨rfl, ?_⟩⟩⟩
    obtain ⟨E2, s2⟩ := mk_at ha2 hd2 ne2 e2
    refine ⟨(by show 2 ≤ sizeLine; decide), fun p hp => ?_⟩
    have s3 := same_new hp (.lst [V.ref a1, .ref a2])
    exact fin p _ _ _ upd_same ((E1.same s2).same fun b u z => s3 _ _ z) (E2.same fun b u z => s3 _ _ z) (fun b u z => s3 _ _ (s2 _ _ (s1 _ _ z)))
  · refine ⟨_, rfl, rfl, false, congrArg V.bl (decide_eq_false fun z => by injection z with z; exact absurd z (by decide)), iteF ?_⟩
    refine ⟨_, rfl, rfl, false, congrArg V.bl (decide_eq_false fun z => by injection z with z; exact absurd z (by decide)), iteF ?_⟩
    refine ⟨_, rfl, rfl, true, congrArg V.bl (decide_eq_true rfl), iteT ?_⟩
    refine ⟨_, rfl, by simp, fun a1 ha1 => ⟨a1, Cs 10, y, rfl, (G.kl 10 (by decide)).oex, (G.kl 10 (by decide)).wh, upd_same, fun d1 H1 hd1 ne1 e1 => ⟨rfl, ?_⟩⟩⟩
    obtain ⟨E1, s1⟩ := mk_at ha1 hd1 ne1 e1
    refine ⟨_, rfl, y, rfl, fun a2 ha2 => ⟨a2, Cs 10, y, rfl, (G.kl 10 (by decide)).oex, (G.kl 10 (by decide)).wh, upd_same, fun d2 H2 hd2 ne2 e2 => ⟨rfl, ?_⟩⟩⟩
    obtain ⟨E2, s2⟩ := mk_at ha2 hd2 ne2 e2
    refine ⟨(by show 2 ≤ sizeLine; decide), fun p hp => ?_⟩
    have s3 := same_new hp (.lst [V.ref a1, .ref a2])
    exact fin p _ _ _ upd_same ((E1.same s2).same fun b u z => s3 _ _ z) (E2.same fun b u z => s3 _ _ z) (fun b u z => s3 _ _ (s2 _ _ (s1 _ _ z)))
  · refine ⟨_, rfl, rfl, false, congrArg V.bl (decide_eq_false fun z => by injection z with z; exact absurd z (by decide)), iteF ?_⟩
    refine ⟨_, rfl, rfl, false, congrArg V.bl (decide_eq_false fun z => by injection z with z; exact absurd z (by decide)), iteF ?_⟩
    refine ⟨_, rfl, rfl, false, congrArg V.bl (decide_eq_false fun z => by injection z with z; exact absurd z (by decide)), iteF ?_⟩
    refine ⟨_, rfl, rfl, true, congrArg V.bl (decide_eq_true rfl), iteT ?_⟩
    refine ⟨_, rfl, by simp, fun a1 ha1 => ⟨a1, Cs 11, y, rfl, (G.kl 11 (by decide)).oex, (G.kl 11 (by decide)).wh, upd_same, fun d1 H1 hd1 ne1 e1 => ⟨rfl, ?_⟩⟩⟩
    obtain ⟨E1, s1⟩ := mk_at ha1 hd1 ne1 e1
    refine ⟨_, rfl, y, rfl, fun a2 ha2 => ⟨a2, Cs 11, y, rfl, (G.kl 11 (by decide)).oex, (G.kl 11 (by decide)).wh, upd_same, fun d2 H2 hd2 ne2 e2 => ⟨rfl, ?_⟩⟩⟩
    obtain ⟨E2, s2⟩ := mk_at ha2 hd2 ne2 e2
    refine ⟨(by show 2 ≤ sizeLine; decide), fun p hp => ?_⟩
    have s3 := same_new hp (.lst [V.ref a1, .ref a2])
    exact fin p _ _ _ upd_same ((E1.same s2).same fun b u z => s3 _ _ z) (E2.same fun b u z => s3 _ _ z) (fun b u z => s3 _ _ (s2 _ _ (s1 _ _ z)))
  · refine ⟨_, rfl, rfl, false, congrArg V.bl (decide_eq_false fun z => by injection z with z; exact absurd z (by decide)), iteF ?_⟩
    refine ⟨_, rfl, rfl, false, congrArg V.bl (decide_eq_false fun z => by injection z with z; exact absurd z (by decide)), iteF ?_⟩
    refine ⟨_, rfl, rfl, false, congrArg V.bl (decide_eq_false fun z => by injection z with z; exact absurd z (by decide)), iteF ?_⟩
    refine ⟨_, rfl, rfl, false, congrArg V.bl (decide_eq_false fun z => by injection z with z; exact absurd z (by decide)), iteF ?_⟩
    refine ⟨_, rfl, rfl, true, congrArg V.bl (decide_eq_true rfl), iteT ?_⟩
    refine ⟨_, rfl, by simp, fun a1 ha1 => ⟨a1, Cs 12, y, rfl, (G.kl 12 (by decide)).oex, (G.kl 12 (by decide)).wh, upd_same, fun d1 H1 hd1 ne1 e1 => ⟨rfl, ?_⟩⟩⟩
    obtain ⟨E1, s1⟩ := mk_at ha1 hd1 ne1 e1
    refine ⟨_, rfl, y, rfl, fun a2 ha2 => ⟨a2, Cs 12, y, rfl, (G.kl 12 (by decide)).oex, (G.kl 12 (by decide)).wh, upd_same, fun d2 H2 hd2 ne2 e2 => ⟨rfl, ?_⟩⟩⟩
    obtain ⟨E2, s2⟩ := mk_at ha2 hd2 ne2 e2
    refine ⟨(by show 2 ≤ sizeLine; decide), fun p hp => ?_⟩
    have s3 := same_new hp (.lst [V.ref a1, .ref a2])
    exact fin p _ _ _ upd_same ((E1.same s2).same fun b u z => s3 _ _ z) (E2.same fun b u z => s3 _ _ z) (fun b u z => s3 _ _ (s2 _ _ (s1 _ _ z)))
  · refine ⟨_, rfl, rfl, false, congrArg V.bl (decide_eq_false fun z => by injection z with z; exact absurd z (by decide)), iteF ?_⟩
    refine ⟨_, rfl, rfl, false, congrArg V.bl (decide_eq_false fun z => by injection z with z; exact absurd z (by decide)), iteF ?_⟩
    refine ⟨_, rfl, rfl, false, congrArg V.bl (decide_eq_false fun z => by injection z with z; exact absurd z (by decide)), iteF ?_⟩
    refine ⟨_, rfl, rfl, false, congrArg V.bl (decide_eq_false fun z => by injection z with z; exact absurd z (by decide)), iteF ?_⟩
    refine ⟨_, rfl, rfl, false, congrArg V.bl (decide_eq_false fun z => by injection z with z; exact absurd z (by decide)), iteF ?_⟩
    refine ⟨_, rfl, rfl, true, congrArg V.bl (decide_eq_true rfl), iteT ?_⟩
    refine ⟨_, rfl, by simp, fun a1 ha1 => ⟨a1, Cs 13, y, rfl, (G.kl 13 (by decide)).oex, (G.kl 13 (by decide)).wh, upd_same, fun d1 H1 hd1 ne1 e1 => ⟨rfl, ?_⟩⟩⟩
    obtain ⟨E1, s1⟩ := mk_at ha1 hd1 ne1 e1
    refine ⟨_, rfl, y, rfl, fun a2 ha2 => ⟨a2, Cs 13, y, rfl, (G.kl 13 (by decide)).oex, (G.kl 13 (by decide)).wh, upd_same, fun d2 H2 hd2 ne2 e2 => ⟨rfl, ?_⟩⟩⟩
    obtain ⟨E2, s2⟩ := mk_at ha2 hd2 ne2 e2
    refine ⟨(by show 2 ≤ sizeLine; decide), fun p hp => ?_⟩
    have s3 := same_new hp (.lst [V.ref a1, .ref a2])
    exact fin p _ _ _ upd_same ((E1.same s2).same fun b u z => s3 _ _ z) (E2.same fun b u z => s3 _ _ z) (fun b u z => s3 _ _ (s2 _ _ (s1 _ _ z)))
  · refine ⟨_, rfl, rfl, false, congrArg V.bl (decide_eq_false fun z => by injection z with z; exact absurd z (by decide)), iteF ?_⟩
    refine ⟨_, rfl, rfl, false, congrArg V.bl (decide_eq_false fun z => by injection z with z; exact absurd z (by decide)), iteF ?_⟩
    refine ⟨_, rfl, rfl, false, congrArg V.bl (decide_eq_false fun z => by injection z with z; exact absurd z (by decide)), iteF ?_⟩
    refine ⟨_, rfl, rfl, false, congrArg V.bl (decide_eq_false fun z => by injection z with z; exact absurd z (by decide)), iteF ?_⟩
    refine ⟨_, rfl, rfl, false, congrArg V.bl (decide_eq_false fun z => by injection z with z; exact absurd z (by decide)), iteF ?_⟩
    refine ⟨_, rfl, rfl, false, congrArg V.bl (decide_eq_false fun z => by injection z with z; exact absurd z (by decide)), iteF ?_⟩
    refine ⟨_, rfl, by simp, fun a1 ha1 => ⟨a1, Cs 14, y, rfl, (G.kl 14 (by decide)).oex, (G.kl 14 (by decide)).wh, upd_same, fun d1 H1 hd1 ne1 e1 => ⟨rfl, ?_⟩⟩⟩
    obtain ⟨E1, s1⟩ := mk_at ha1 hd1 ne1 e1
    refine ⟨_, rfl, y, rfl, fun a2 ha2 => ⟨a2, Cs 14, y, rfl, (G.kl 14 (by decide)).oex, (G.kl 14 (by decide)).wh, upd_same, fun d2 H2 hd2 ne2 e2 => ⟨rfl, ?_⟩⟩⟩
    obtain ⟨E2, s2⟩ := mk_at ha2 hd2 ne2 e2
    refine ⟨(by show 2 ≤ sizeLine; decide), fun p hp => ?_⟩
    have s3 := same_new hp (.lst [V.ref a1, .ref a2])
    exact fin p _ _ _ upd_same ((E1.same s2).same fun b u z => s3 _ _ z) (E2.same fun b u z => s3 _ _ z) (fun b u z => s3 _ _ (s2 _ _ (s1 _ _ z)))
theorem scMade : FnScope ["_law_way", "_law_own"] ["_law_way", "_law_own"] (defScope sMade) := ⟨rfl, rfl, rfl, by decide +kernel, rfl, by decide +kernel, by decide +kernel⟩
theorem ok_made {f : Addr} {fd : FuncData} {fM : Addr} {dM : FuncData} (F : Fun K "_law_made" "_law_made" sMade f fd) (G : ClsG K mg fI Cs) (tI : PySem.W.typeIn K (.ref fI) = some (.type "function")) (GI : FnOk P w K mg base CX0 1 fI dI ["self", "what"] (spInit K)) (bI : Binds K dI ["self", "what"] [])
    (bK : ∀ (s : Shared) (a b : Value), K.In s.heap → BindsTo s dI ⟨[a], [("what", b)]⟩ [("self", a), ("what", b)])
    (GM : FnOk P w K mg base CX0 3 fM dM ["_law_way", "_law_own"] (spMore Cs)) (kM : PySem.W.keepIn K (.ref fM) = true) (bM : Binds K dM ["_law_way", "_law_own"] []) (mM : mg "_law_made_more" = some (.ref fM)) : FnOk P w K mg base CX0 4 f fd ["_law_way", "_law_own"] (spMade Cs) := by
  refine F.ok scMade (fun vs H Q E h => ?_) (fun cdv A outer s H vs Q E hr h => ?_)
  · obtain ⟨k, y, rfl, _⟩ := h
    rfl
  obtain ⟨k, y, rfl, kh, fin⟩ := h
  have r1 : Room 2 _ := hr.mono (by decide)
  refine ⟨_,
    (pss_cons (ps_if (pt_cmpR op_eq (pv 0) pe_int (nomark _)) (pss_one (ps_ret (pe_lst (pa_cons (pe_oexV (G.kl 0 (by decide)).oex (G.kl 0 (by decide)).ini tI GI r1 bI pass0 (by rfl) G.m0 (pa_cons (pv 1) pa_nil)) (pa_cons (pe_oexK (G.kl 0 (by decide)).oex (G.kl 0 (by decide)).ini tI GI r1 bK pass0 (by rfl) G.m0 (pk_cons (pv 1) pk_nil)) pa_nil))))) pss_nil)
    (pss_cons (ps_if (pt_cmpR op_eq (pv 0) pe_int (nomark _)) (pss_one (ps_ret (pe_lst (pa_cons (pe_oexV (G.kl 1 (by decide)).oex (G.kl 1 (by decide)).ini tI GI r1 bI pass0 (by rfl) G.m1 (pa_cons (pv 1) pa_nil)) (pa_cons (pe_oexK (G.kl 1 (by decide)).oex (G.kl 1 (by decide)).ini tI GI r1 bK pass0 (by rfl) G.m1 (pk_cons (pv 1) pk_nil)) pa_nil))))) pss_nil)
    (pss_cons (ps_if (pt_cmpR op_eq (pv 0) pe_int (nomark _)) (pss_one (ps_ret (pe_lst (pa_cons (pe_oexV (G.kl 2 (by decide)).oex (G.kl 2 (by decide)).ini tI GI r1 bI pass0 (by rfl) G.m2 (pa_cons (pv 1) pa_nil)) (pa_cons (pe_oexK (G.kl 2 (by decide)).oex (G.kl 2 (by decide)).ini tI GI r1 bK pass0 (by rfl) G.m2 (pk_cons (pv 1) pk_nil)) pa_nil))))) pss_nil)
    (pss_cons (ps_if (pt_cmpR op_eq (pv 0) pe_int (nomark _)) (pss_one (ps_ret (pe_lst (pa_cons (pe_oexV (G.kl 3 (by decide)).oex (G.kl 3 (by decide)).ini tI GI r1 bI pass0 (by rfl) G.m3 (pa_cons (pv 1) pa_nil)) (pa_cons (pe_oexK (G.kl 3 (by decide)).oex (G.kl 3 (by decide)).ini tI GI r1 bK pass0 (by rfl) G.m3 (pk_cons (pv 1) pk_nil)) pa_nil))))) pss_nil)
    (pss_cons (ps_if (pt_cmpR op_eq (pv 0) pe_int (nomark _)) (pss_one (ps_ret (pe_lst (pa_cons (pe_oexV (G.kl 4 (by decide)).oex (G.kl 4 (by decide)).ini tI GI r1 bI pass0 (by rfl) G.m4 (pa_cons (pv 1) pa_nil)) (pa_cons (pe_oexK (G.kl 4 (by decide)).oex (G.kl 4 (by decide)).ini tI GI r1 bK pass0 (by rfl) G.m4 (pk_cons (pv 1) pk_nil)) pa_nil))))) pss_nil)
    (pss_cons (ps_if (pt_cmpR op_eq (pv 0) pe_int (nomark _)) (pss_one (ps_ret (pe_lst (pa_cons (pe_oexV (G.kl 5 (by decide)).oex (G.kl 5 (by decide)).ini tI GI r1 bI pass0 (by rfl) G.m5 (pa_cons (pv 1) pa_nil)) (pa_cons (pe_oexK (G.kl 5 (by decide)).oex (G.kl 5 (by decide)).ini tI GI r1 bK pass0 (by rfl) G.m5 (pk_cons (pv 1) pk_nil)) pa_nil))))) pss_nil)
    (pss_cons (ps_if (pt_cmpR op_eq (pv 0) pe_int (nomark _)) (pss_one (ps_ret (pe_lst (pa_cons (pe_oexV (G.kl 6 (by decide)).oex (G.kl 6 (by decide)).ini tI GI r1 bI pass0 (by rfl) G.m6 (pa_cons (pv 1) pa_nil)) (pa_cons (pe_oexK (G.kl 6 (by decide)).oex (G.kl 6 (by decide)).ini tI GI r1 bK pass0 (by rfl) G.m6 (pk_cons (pv 1) pk_nil)) pa_nil))))) pss_nil)
    (pss_one (ps_ret (pe_ifExp (pt_cmpR op_eq (pv 0) pe_int (nomark _)) (pe_lst (pa_cons (pe_oexV (G.kl 7 (by decide)).oex (G.kl 7 (by decide)).ini tI GI r1 bI pass0 (by rfl) G.m7 (pa_cons (pv 1) pa_nil)) (pa_cons (pe_oexK (G.kl 7 (by decide)).oex (G.kl 7 (by decide)).ini tI GI r1 bK pass0 (by rfl) G.m7 (pk_cons (pv 1) pk_nil)) pa_nil))) (pe_call GM hr rfl mM kM bM .nil pass0 (pa_cons (pv 0) (pa_cons (pv 1) pa_nil))))))))))))), ?_⟩
  rcases (by omega : k = 0 ∨ k = 1 ∨ k = 2 ∨ k = 3 ∨ k = 4 ∨ k = 5 ∨ k = 6 ∨ k = 7 ∨ 8 ≤ k) with rfl | rfl | rfl | rfl | rfl | rfl | rfl | rfl | h8
  · refine ⟨_, rfl, rfl, true, congrArg V.bl (decide_eq_true rfl), iteT ?_⟩
    refine ⟨_, rfl, by simp, fun a1 ha1 => ⟨a1, Cs 0, y, rfl, (G.kl 0 (by decide)).oex, (G.kl 0 (by decide)).wh, upd_same, fun d1 H1 hd1 ne1 e1 => ⟨rfl, ?_⟩⟩⟩
    obtain ⟨E1, s1⟩ := mk_at ha1 hd1 ne1 e1
    refine ⟨_, rfl, y, rfl, fun a2 ha2 => ⟨a2, Cs 0, y, rfl, (G.kl 0 (by decide)).oex, (G.kl 0 (by decide)).wh, upd_same, fun d2 H2 hd2 ne2 e2 => ⟨rfl, ?_⟩⟩⟩
    obtain ⟨E2, s2⟩ := mk_at ha2 hd2 ne2 e2
    refine ⟨(by show 2 ≤ sizeLine; decide), fun p hp => ?_⟩
    have s3 := same_new hp (.lst [V.ref a1, .ref a2])
    exact fin p _ _ _ upd_same ((E1.same s2).same fun b u z => s3 _ _ z) (E2.same fun b u z => s3 _ _ z) (fun b u z => s3 _ _ (s2 _ _ (s1 _ _ z)))
  · refine ⟨_, rfl, rfl, false, congrArg V.bl (decide_eq_false fun z => by injection z with z; exact absurd z (by decide)), iteF ?_⟩
    refine ⟨_, rfl, rfl, true, congrArg V.bl (decide_eq_true rfl), iteT ?_⟩
    refine ⟨_, rfl, by simp, fun a1 ha1 => ⟨a1, Cs 1, y, rfl, (G.kl 1 (by decide)).oex, (G.kl 1 (by decide)).wh, upd_same, fun d1 H1 hd1 ne1 e1 => ⟨rfl, ?_⟩⟩⟩
    obtain ⟨E1, s1⟩ := mk_at ha1 hd1 ne1 e1
    refine ⟨_, rfl, y, rfl, fun a2 ha2 => ⟨a2, Cs 1, y, rfl, (G.kl 1 (by decide)).oex, (G.kl 1 (by decide)).wh, upd_same, fun d2 H2 hd2 ne2 e2 => ⟨rfl, ?_⟩⟩⟩
    obtain ⟨E2, s2⟩ := mk_at ha2 hd2 ne2 e2
    refine ⟨(by show 2 ≤ sizeLine; decide), fun p hp => ?_⟩
    have s3 := same_new hp (.lst [V.ref a1, .ref a2])
    exact fin p _ _ _ upd_same ((E1.same s2).same fun b u z => s3 _ _ z) (E2.same fun b u z => s3 _ _ z) (fun b u z => s3 _ _ (s2 _ _ (s1 _ _ z)))
  · refine ⟨_, rfl, rfl, false, congrArg V.bl (decide_eq_false fun z => by injection z with z; exact absurd z (by decide)), iteF ?_⟩
    refine ⟨_, rfl, rfl, false, congrArg V.bl (decide_eq_false fun z => by injection z with z; exact absurd z (by decide)), iteF ?_⟩
    refine ⟨_, rfl, rfl, true, congrArg V.bl (decide_eq_true rfl), iteT ?_⟩
    refine ⟨_, rfl, by simp, fun a1 ha1 => ⟨a1, Cs 2, y, rfl, (G.kl 2 (by decide)).oex, (G.kl 2 (by decide)).wh, upd_same, fun d1 H1 hd1 ne1 e1 => ⟨rfl, ?_⟩⟩⟩
    obtain ⟨E1, s1⟩ := mk_at ha1 hd1 ne1 e1
    refine ⟨_, rfl, y, rfl, fun a2 ha2 => ⟨a2, Cs 2, y, rfl, (G.kl 2 (by decide)).oex, (G.kl 2 (by decide)).wh, upd_same, fun d2 H2 hd2 ne2 e2 => ⟨rfl, ?_⟩⟩⟩
    obtain ⟨E2, s2⟩ := mk_at ha2 hd2 ne2 e2
    refine ⟨(by show 2 ≤ sizeLine; decide), fun p hp => ?_⟩
    have s3 := same_new hp (.lst [V.ref a1, .ref a2])
    exact fin p _ _ _ upd_same ((E1.same s2).same fun b u z => s3 _ _ z) (E2.same fun b u z => s3 _ _ z) (fun b u z => s3 _ _ (s2 _ _ (s1 _ _ z)))
  · refine ⟨_, rfl, rfl, false, congrArg V.bl (decide_eq_false fun z => by injection z with z; exact absurd z (by decide)), iteF ?_⟩
    refine ⟨_, rfl, rfl, false, congrArg V.bl (decide_eq_false fun z => by injection z with z; exact absurd z (by decide)), iteF ?_⟩
    refine ⟨_, rfl, rfl, false, congrArg V.bl (decide_eq_false fun z => by injection z with z; exact absurd z (by decide)), iteF ?_⟩
    refine ⟨_, rfl, rfl, true, congrArg V.bl (decide_eq_true rfl), iteT ?_⟩
    refine ⟨_, rfl, by simp, fun a1 ha1 => ⟨a1, Cs 3, y, rfl, (G.kl 3 (by decide)).oex, (G.kl 3 (by decide)).wh, upd_same, fun d1 H1 hd1 ne1 e1 => ⟨rfl, ?_⟩⟩⟩
    obtain ⟨E1, s1⟩ := mk_at ha1 hd1 ne1 e1
    refine ⟨_, rfl, y, rfl, fun a2 ha2 => ⟨a2, Cs 3, y, rfl, (G.kl 3 (by decide)).oex, (G.kl 3 (by decide)).wh, upd_same, fun d2 H2 hd2 ne2 e2 => ⟨rfl, ?_⟩⟩⟩
    obtain ⟨E2, s2⟩ := mk_at ha2 hd2 ne2 e2
    refine ⟨(by show 2 ≤ sizeLine; decide), fun p hp => ?_⟩
    have s3 := same_new hp (.lst [V.ref a1, .ref a2])
    exact fin p _ _ _ upd_same ((E1.same s2).same fun b u z => s3 _ _ z) (E2.same fun b u z => s3 _ _ z) (fun b u z => s3 _ _ (s2 _ _ (s1 _ _ z)))
  · refine ⟨_, rfl, rfl, false, congrArg V.bl (decide_eq_false fun z => by injection z with z; exact absurd z (by decide)), iteF ?_⟩
    refine ⟨_, rfl, rfl, false, congrArg V.bl (decide_eq_false fun z => by injection z with z; exact absurd z (by decide)), iteF ?_⟩
    refine ⟨_, rfl, rfl, false, congrArg V.bl (decide_eq_false fun z => by injection z with z; exact absurd z (by decide)), iteF ?_⟩
    refine ⟨_, rfl, rfl, false, congrArg V.bl (decide_eq_false fun z => by injection z with z; exact absurd z (by decide)), iteF ?_⟩
    refine ⟨_, rfl, rfl, true, congrArg V.bl (decide_eq_true rfl), iteT ?_⟩
    refine ⟨_, rfl, by simp, fun a1 ha1 => ⟨a1, Cs 4, y, rfl, (G.kl 4 (by decide)).oex, (G.kl 4 (by decide)).wh, upd_same, fun d1 H1 hd1 ne1 e1 => ⟨rfl, ?_⟩⟩⟩
    obtain ⟨E1, s1⟩ := mk_at ha1 hd1 ne1 e1
    refine ⟨_, rfl, y, rfl, fun a2 ha2 => ⟨a2, Cs 4, y, rfl, (G.kl 4 (by decide)).oex, (G.kl 4 (by decide)).wh, upd_same, fun d2 H2 hd2 ne2 e2 => ⟨rfl, ?_⟩⟩⟩
    obtain ⟨E2, s2⟩ := mk_at ha2 hd2 ne2 e2
    refine ⟨(by show 2 ≤ sizeLine; decide), fun p hp => ?_⟩
    have s3 := same_new hp (.lst [V.ref a1, .ref a2])
    exact fin p _ _ _ upd_same ((E1.same s2).same fun b u z => s3 _ _ z) (E2.same fun b u z => s3 _ _ z) (fun b u z => s3 _ _ (s2 _ _ (s1 _ _ z)))
  · refine ⟨_, rfl, rfl, false, congrArg V.bl (decide_eq_false fun z => by injection z with z; exact absurd z (by decide)), iteF ?_⟩
    refine ⟨_, rfl, rfl, false, congrArg V.bl (decide_eq_false fun z => by injection z with z; exact absurd z (by decide)), iteF ?_⟩
    refine ⟨_, rfl, rfl, false, congrArg V.bl (decide_eq_false fun z => by injection z with z; exact absurd z (by decide)), iteF ?_⟩
    refine ⟨_, rfl, rfl, false, congrArg V.bl (decide_eq_false fun z => by injection z with z; exact absurd z (by decide)), iteF ?_⟩
    refine ⟨_, rfl, rfl, false, congrArg V.bl (decide_eq_false fun z => by injection z with z; exact absurd z (by decide)), iteF ?_⟩
    refine ⟨_, rfl, rfl, true, congrArg V.bl (decide_eq_true rfl), iteT ?_⟩
    refine ⟨_, rfl, by simp, fun a1 ha1 => ⟨a1, Cs 5, y, rfl, (G.kl 5 (by decide)).oex, (G.kl 5 (by decide)).wh, upd_same, fun d1 H1 hd1 ne1 e1 => ⟨rfl, ?_⟩⟩⟩
    obtain ⟨E1, s1⟩ := mk_at ha1 hd1 ne1 e1
    refine ⟨_, rfl, y, rfl, fun a2 ha2 => ⟨a2, Cs 5, y, rfl, (G.kl 5 (by decide)).oex, (G.kl 5 (by decide)).wh, upd_same, fun d2 H2 hd2 ne2 e2 => ⟨rfl, ?_⟩⟩⟩
    obtain ⟨E2, s2⟩ := mk_at ha2 hd2 ne2 e2
    refine ⟨(by show 2 ≤ sizeLine; decide), fun p hp => ?_⟩
    have s3 := same_new hp (.lst [V.ref a1, .ref a2])
    exact fin p _ _ _ upd_same ((E1.same s2).same fun b u z => s3 _ _ z) (E2.same fun b u z => s3 _ _ z) (fun b u z => s3 _ _ (s2 _ _ (s1 _ _ z)))
  · refine ⟨_, rfl, rfl, false, congrArg V.bl (decide_eq_false fun z => by injection z with z; exact absurd z (by decide)), iteF ?_⟩
    refine ⟨_, rfl, rfl, false, congrArg V.bl (decide_eq_false fun z => by injection z with z; exact absurd z (by decide)), iteF ?_⟩
    refine ⟨_, rfl, rfl, false, congrArg V.bl (decide_eq_false fun z => by injection z with z; exact absurd z (by decide)), iteF ?_⟩
    refine ⟨_, rfl, rfl, false, congrArg V.bl (decide_eq_false fun z => by injection z with z; exact absurd z (by decide)), iteF ?_⟩
    refine ⟨_, rfl, rfl, false, congrArg V.bl (decide_eq_false fun z => by injection z with z; exact absurd z (by decide)), iteF ?_⟩
    refine ⟨_, rfl, rfl, false, congrArg V.bl (decide_eq_false fun z => by injection z with z; exact absurd z (by decide)), iteF ?_⟩
    refine ⟨_, rfl, rfl, true, congrArg V.bl (decide_eq_true rfl), iteT ?_⟩
    refine ⟨_, rfl, by simp, fun a1 ha1 => ⟨a1, Cs 6, y, rfl, (G.kl 6 (by decide)).oex, (G.kl 6 (by decide)).wh, upd_same, fun d1 H1 hd1 ne1 e1 => ⟨rfl, ?_⟩⟩⟩
    obtain ⟨E1, s1⟩ := mk_at ha1 hd1 ne1 e1
    refine ⟨_, rfl, y, rfl, fun a2 ha2 => ⟨a2, Cs 6, y, rfl, (G.kl 6 (by decide)).oex, (G.kl 6 (by decide)).wh, upd_same, fun d2 H2 hd2 ne2 e2 => ⟨rfl, ?_⟩⟩⟩
    obtain ⟨E2, s2⟩ := mk_at ha2 hd2 ne2 e2
    refine ⟨(by show 2 ≤ sizeLine; decide), fun p hp => ?_⟩
    have s3 := same_new hp (.lst [V.ref a1, .ref a2])
    exact fin p _ _ _ upd_same ((E1.same s2).same fun b u z => s3 _ _ z) (E2.same fun b u z => s3 _ _ z) (fun b u z => s3 _ _ (s2 _ _ (s1 _ _ z)))
  · refine ⟨_, rfl, rfl, false, congrArg V.bl (decide_eq_false fun z => by injection z with z; exact absurd z (by decide)), iteF ?_⟩
    refine ⟨_, rfl, rfl, false, congrArg V.bl (decide_eq_false fun z => by injection z with z; exact absurd z (by decide)), iteF ?_⟩
    refine ⟨_, rfl, rfl, false, congrArg V.bl (decide_eq_false fun z => by injection z with z; exact absurd z (by decide)), iteF ?_⟩
    refine ⟨_, rfl, rfl, false, congrArg V.bl (decide_eq_false fun z => by injection z with z; exact absurd z (by decide)), iteF ?_⟩
    refine ⟨_, rfl, rfl, false, congrArg V.bl (decide_eq_false fun z => by injection z with z; exact absurd z (by decide)), iteF ?_⟩
    refine ⟨_, rfl, rfl, false, congrArg V.bl (decide_eq_false fun z => by injection z with z; exact absurd z (by decide)), iteF ?_⟩
    refine ⟨_, rfl, rfl, false, congrArg V.bl (decide_eq_false fun z => by injection z with z; exact absurd z (by decide)), iteF ?_⟩
    refine ⟨_, rfl, rfl, true, congrArg V.bl (decide_eq_true rfl), iteT ?_⟩
    refine ⟨_, rfl, by simp, fun a1 ha1 => ⟨a1, Cs 7, y, rfl, (G.kl 7 (by decide)).oex, (G.kl 7 (by decide)).wh, upd_same, fun d1 H1 hd1 ne1 e1 => ⟨rfl, ?_⟩⟩⟩
    obtain ⟨E1, s1⟩ := mk_at ha1 hd1 ne1 e1
    refine ⟨_, rfl, y, rfl, fun a2 ha2 => ⟨a2, Cs 7, y, rfl, (G.kl 7 (by decide)).oex, (G.kl 7 (by decide)).wh, upd_same, fun d2 H2 hd2 ne2 e2 => ⟨rfl, ?_⟩⟩⟩
    obtain ⟨E2, s2⟩ := mk_at ha2 hd2 ne2 e2
    refine ⟨(by show 2 ≤ sizeLine; decide), fun p hp => ?_⟩
    have s3 := same_new hp (.lst [V.ref a1, .ref a2])
    exact fin p _ _ _ upd_same ((E1.same s2).same fun b u z => s3 _ _ z) (E2.same fun b u z => s3 _ _ z) (fun b u z => s3 _ _ (s2 _ _ (s1 _ _ z)))
  · refine ⟨_, rfl, rfl, false, congrArg V.bl (decide_eq_false fun z => by injection z with z; omega), iteF ?_⟩
    refine ⟨_, rfl, rfl, false, congrArg V.bl (decide_eq_false fun z => by injection z with z; omega), iteF ?_⟩
    refine ⟨_, rfl, rfl, false, congrArg V.bl (decide_eq_false fun z => by injection z with z; omega), iteF ?_⟩
    refine ⟨_, rfl, rfl, false, congrArg V.bl (decide_eq_false fun z => by injection z with z; omega), iteF ?_⟩
    refine ⟨_, rfl, rfl, false, congrArg V.bl (decide_eq_false fun z => by injection z with z; omega), iteF ?_⟩
    refine ⟨_, rfl, rfl, false, congrArg V.bl (decide_eq_false fun z => by injection z with z; omega), iteF ?_⟩
    refine ⟨_, rfl, rfl, false, congrArg V.bl (decide_eq_false fun z => by injection z with z; omega), iteF ?_⟩
    refine ⟨_, rfl, rfl, false, congrArg V.bl (decide_eq_false fun z => by injection z with z; omega), iteF ?_⟩
    exact ⟨_, rfl, _, rfl, k, y, rfl, h8, kh, fin⟩
end
end Rp

set_option maxHeartbeats 16000000
/-! Kinds of refusals; the law. -/
namespace Rp
open PySem PySem.Spec PyProof.Rows L2
def bs (j : Nat) : List Bool := [decide (j = 0), decide (j = 1), decide (j = 2), decide (j = 3), decide (j = 4), decide (j = 5), decide (j = 6), decide (j = 7), decide (j = 8), decide (j = 9), decide (j = 10), decide (j = 11), decide (j = 12), decide (j = 13), decide (j = 14)]
theorem dp_bools {K : PySem.W.Frag} {H : Hp} : ∀ l : List Bool, DpAll K H (l.map V.bl) (l.map PyData.bool)
  | [] => .nil
  | b :: l => .cons (.bl b) (dp_bools l)
theorem bools_lay : ∀ l : List Bool, PyData.canLayAll0 (l.map PyData.bool) = true ∧ PyData.depthAll (l.map PyData.bool) ≤ 1
  | [] => ⟨rfl, by decide⟩
  | b :: l => by
    have ih := bools_lay l
    simp only [List.map_cons, PyData.canLayAll0, PyData.canLay0, PyData.depthAll, PyData.depth, ih.1]
    exact ⟨rfl, by omega⟩
theorem shaped_of {d : PyData} (h : d.canLay0 = true) (h' : d.depth ≤ 64) : SeqAt.shaped d = true := by
  show (d.canLay0 && decide (d.depth ≤ 64)) = true
  rw [h, decide_eq_true h']
  rfl
theorem bools_shaped (l : List Bool) : SeqAt.shaped (.list (l.map PyData.bool)) = true := shaped_of (bools_lay l).1 (by have := (bools_lay l).2; show PyData.depthAll _ + 1 ≤ 64; omega)
theorem bools_same (l : List Bool) : PyData.eqv (.list (l.map PyData.bool)) (.list (l.map PyData.bool)) = true := SeqAt.eqv_refl _ (bools_lay l).1
theorem ThAt.but {H H' : Hp} {b : Addr} {v : V} {j : Nat} (T : ThAt H v) (o : But b H H') (B : BoxAt H b j) : ThAt H' v := by
  obtain ⟨x, y, z, hb, _⟩ := B.ex
  refine T.keep fun c u h hx => o _ _ h fun e => ?_
  subst e
  rw [hb] at h
  have := hx _ (Option.some.inj h).symm
  simp at this
theorem Alike.up1 {H : Hp} : ∀ {n : Nat} {x y : V}, Alike H n x y → Alike H (n + 1) x y
  | 0, x, y, h => by unfold Alike at h ⊢; exact .inl h
  | n + 1, x, y, h => by
    unfold Alike at h ⊢
    rcases h with h | ⟨a, b, xs, ys, h1, h2, h3, h4, h5, h6⟩
    · exact .inl h
    · exact .inr ⟨a, b, xs, ys, h1, h2, h3, h4, h5, fun i u v p q => Alike.up1 (h6 i u v p q)⟩
def spKinds (Cs : Nat → Addr) : Sp := fun vs H Q _ => ∃ (v y : V) (j : Nat), vs = [v] ∧ j < 15 ∧ ExAt H v (Cs j) y ∧ ∀ p H', H' p = some (.lst ((bs j).map V.bl)) → Same H H' → Q (.ref p) H'
section
variable {P : Program} {w : World} {K : PySem.W.Frag} {mg : Str → Option Value} {base : Heap} {Cs : Nat → Addr} {fI : Addr}
theorem scKinds : FnScope ["_law_caught", "_law_found"] ["_law_caught"] (defScope sKinds) := ⟨rfl, rfl, rfl, by decide +kernel, rfl, by decide +kernel, by decide +kernel⟩
theorem ok_kinds {f : Addr} {fd : FuncData} (F : Fun K "_law_kinds" "_law_kinds" sKinds f fd) (G : ClsG K mg fI Cs) (kit : ∀ j k, j < 15 → k < 15 → PySem.W.kitOne K (.ref (Cs j)) (.ref (Cs k)) = some (decide (j = k))) (mIsi : mg "isinstance" = none) :
    FnOk P w K mg base CX0 1 f fd ["_law_caught"] (spKinds Cs) := by
  refine F.ok scKinds (fun vs H Q E h => ?_) (fun cdv A outer s H vs Q E hr h => ?_)
  · obtain ⟨v, y, j, rfl, _⟩ := h
    rfl
  obtain ⟨v, y, j, rfl, hj, Ex, fin⟩ := h
  refine ⟨_, pss_cons (ps_set (i := 1) scKinds.nd rfl (Or.inl rfl) (pe_lst (pa_cons (pe_callB (id := "isinstance") call_isX (by rfl) mIsi (by decide +kernel) (pa_cons (pv 0) (pa_cons (pe_glob (v := .ref (Cs 0)) rfl G.m0 rfl) pa_nil))) (pa_cons (pe_callB (id := "isinstance") call_isX (by rfl) mIsi (by decide +kernel) (pa_cons (pv 0) (pa_cons (pe_glob (v := .ref (Cs 1)) rfl G.m1 rfl) pa_nil))) (pa_cons (pe_callB (id := "isinstance") call_isX (by rfl) mIsi (by decide +kernel) (pa_cons (pv 0) (pa_cons (pe_glob (v := .ref (Cs 2)) rfl G.m2 rfl) pa_nil))) pa_nil)))))
    (pss_cons (ps_set (i := 1) scKinds.nd rfl (Or.inl rfl) (pe_op op_cat (pv 1) (pe_lst (pa_cons (pe_callB (id := "isinstance") call_isX (by rfl) mIsi (by decide +kernel) (pa_cons (pv 0) (pa_cons (pe_glob (v := .ref (Cs 3)) rfl G.m3 rfl) pa_nil))) (pa_cons (pe_callB (id := "isinstance") call_isX (by rfl) mIsi (by decide +kernel) (pa_cons (pv 0) (pa_cons (pe_glob (v := .ref (Cs 4)) rfl G.m4 rfl) pa_nil))) (pa_cons (pe_callB (id := "isinstance") call_isX (by rfl) mIsi (by decide +kernel) (pa_cons (pv 0) (pa_cons (pe_glob (v := .ref (Cs 5)) rfl G.m5 rfl) pa_nil))) pa_nil))))))
    (pss_cons (ps_set (i := 1) scKinds.nd rfl (Or.inl rfl) (pe_op op_cat (pv 1) (pe_lst (pa_cons (pe_callB (id := "isinstance") call_isX (by rfl) mIsi (by decide +kernel) (pa_cons (pv 0) (pa_cons (pe_glob (v := .ref (Cs 6)) rfl G.m6 rfl) pa_nil))) (pa_cons (pe_callB (id := "isinstance") call_isX (by rfl) mIsi (by decide +kernel) (pa_cons (pv 0) (pa_cons (pe_glob (v := .ref (Cs 7)) rfl G.m7 rfl) pa_nil))) (pa_cons (pe_callB (id := "isinstance") call_isX (by rfl) mIsi (by decide +kernel) (pa_cons (pv 0) (pa_cons (pe_glob (v := .ref (Cs 8)) rfl G.m8 rfl) pa_nil))) pa_nil))))))
    (pss_cons (ps_set (i := 1) scKinds.nd rfl (Or.inl rfl) (pe_op op_cat (pv 1) (pe_lst (pa_cons (pe_callB (id := "isinstance") call_isX (by rfl) mIsi (by decide +kernel) (pa_cons (pv 0) (pa_cons (pe_glob (v := .ref (Cs 9)) rfl G.m9 rfl) pa_nil))) (pa_cons (pe_callB (id := "isinstance") call_isX (by rfl) mIsi (by decide +kernel) (pa_cons (pv 0) (pa_cons (pe_glob (v := .ref (Cs 10)) rfl G.m10 rfl) pa_nil))) (pa_cons (pe_callB (id := "isinstance") call_isX (by rfl) mIsi (by decide +kernel) (pa_cons (pv 0) (pa_cons (pe_glob (v := .ref (Cs 11)) rfl G.m11 rfl) pa_nil))) pa_nil))))))
    (pss_one (ps_ret (pe_op op_cat (pv 1) (pe_lst (pa_cons (pe_callB (id := "isinstance") call_isX (by rfl) mIsi (by decide +kernel) (pa_cons (pv 0) (pa_cons (pe_glob (v := .ref (Cs 12)) rfl G.m12 rfl) pa_nil))) (pa_cons (pe_callB (id := "isinstance") call_isX (by rfl) mIsi (by decide +kernel) (pa_cons (pv 0) (pa_cons (pe_glob (v := .ref (Cs 13)) rfl G.m13 rfl) pa_nil))) (pa_cons (pe_callB (id := "isinstance") call_isX (by rfl) mIsi (by decide +kernel) (pa_cons (pv 0) (pa_cons (pe_glob (v := .ref (Cs 14)) rfl G.m14 rfl) pa_nil))) pa_nil)))))))))), ?_⟩
  refine ⟨_, rfl, v, .ref (Cs 0), Cs j, y, _, _, rfl, Ex, (G.kl j hj).exc, .own _, kit j 0 hj (by decide), _, rfl, v, .ref (Cs 1), Cs j, y, _, _, rfl, Ex, (G.kl j hj).exc, .own _, kit j 1 hj (by decide), _, rfl, v, .ref (Cs 2), Cs j, y, _, _, rfl, Ex, (G.kl j hj).exc, .own _, kit j 2 hj (by decide), (by show 3 ≤ sizeLine; decide), fun p0 hp0 => ?_⟩
  have s0 := same_new hp0 (.lst [V.bl (decide (j = 0)), .bl (decide (j = 1)), .bl (decide (j = 2))])
  have h0 : (upd H p0 (.lst [V.bl (decide (j = 0)), .bl (decide (j = 1)), .bl (decide (j = 2))])) p0 = some (.lst ([decide (j = 0), decide (j = 1), decide (j = 2)].map V.bl)) := upd_same
  replace Ex := Ex.same s0
  generalize upd H p0 (.lst [V.bl (decide (j = 0)), .bl (decide (j = 1)), .bl (decide (j = 2))]) = H0 at s0 h0 Ex ⊢
  refine ⟨_, rfl, _, rfl, v, .ref (Cs 3), Cs j, y, _, _, rfl, Ex, (G.kl j hj).exc, .own _, kit j 3 hj (by decide), _, rfl, v, .ref (Cs 4), Cs j, y, _, _, rfl, Ex, (G.kl j hj).exc, .own _, kit j 4 hj (by decide), _, rfl, v, .ref (Cs 5), Cs j, y, _, _, rfl, Ex, (G.kl j hj).exc, .own _, kit j 5 hj (by decide), (by show 3 ≤ sizeLine; decide), fun q3 hq3 => ?_⟩
  have u3 := same_new hq3 (.lst [V.bl (decide (j = 3)), V.bl (decide (j = 4)), V.bl (decide (j = 5))])
  refine ⟨p0, q3, _, _, rfl, rfl, u3 _ _ h0, upd_same, (by show 6 ≤ sizeLine; decide), fun p1 hp1 => ?_⟩
  have w3 := same_new hp1 (.lst ([decide (j = 0), decide (j = 1), decide (j = 2)].map V.bl ++ [V.bl (decide (j = 3)), V.bl (decide (j = 4)), V.bl (decide (j = 5))]))
  have h1 : (upd (upd H0 q3 (.lst [V.bl (decide (j = 3)), V.bl (decide (j = 4)), V.bl (decide (j = 5))])) p1 (.lst ([decide (j = 0), decide (j = 1), decide (j = 2)].map V.bl ++ [V.bl (decide (j = 3)), V.bl (decide (j = 4)), V.bl (decide (j = 5))]))) p1 = some (.lst ([decide (j = 0), decide (j = 1), decide (j = 2), decide (j = 3), decide (j = 4), decide (j = 5)].map V.bl)) := upd_same
  have s1 := s0.trans (u3.trans w3)
  replace Ex := Ex.same (u3.trans w3)
  generalize upd (upd H0 q3 (.lst [V.bl (decide (j = 3)), V.bl (decide (j = 4)), V.bl (decide (j = 5))])) p1 (.lst ([decide (j = 0), decide (j = 1), decide (j = 2)].map V.bl ++ [V.bl (decide (j = 3)), V.bl (decide (j = 4)), V.bl (decide (j = 5))])) = H1 at s1 h1 Ex ⊢
  refine ⟨_, rfl, _, rfl, v, .ref (Cs 6), Cs j, y, _, _, rfl, Ex, (G.kl j hj).exc, .own _, kit j 6 hj (by decide), _, rfl, v, .ref (Cs 7), Cs j, y, _, _, rfl, Ex, (G.kl j hj).exc, .own _, kit j 7 hj (by decide), _, rfl, v, .ref (Cs 8), Cs j, y, _, _, rfl, Ex, (G.kl j hj).exc, .own _, kit j 8 hj (by decide), (by show 3 ≤ sizeLine; decide), fun q6 hq6 => ?_⟩
  have u6 := same_new hq6 (.lst [V.bl (decide (j = 6)), V.bl (decide (j = 7)), V.bl (decide (j = 8))])
  refine ⟨p1, q6, _, _, rfl, rfl, u6 _ _ h1, upd_same, (by show 9 ≤ sizeLine; decide), fun p2 hp2 => ?_⟩
  have w6 := same_new hp2 (.lst ([decide (j = 0), decide (j = 1), decide (j = 2), decide (j = 3), decide (j = 4), decide (j = 5)].map V.bl ++ [V.bl (decide (j = 6)), V.bl (decide (j = 7)), V.bl (decide (j = 8))]))
  have h2 : (upd (upd H1 q6 (.lst [V.bl (decide (j = 6)), V.bl (decide (j = 7)), V.bl (decide (j = 8))])) p2 (.lst ([decide (j = 0), decide (j = 1), decide (j = 2), decide (j = 3), decide (j = 4), decide (j = 5)].map V.bl ++ [V.bl (decide (j = 6)), V.bl (decide (j = 7)), V.bl (decide (j = 8))]))) p2 = some (.lst ([decide (j = 0), decide (j = 1), decide (j = 2), decide (j = 3), decide (j = 4), decide (j = 5), decide (j = 6), decide (j = 7), decide (j = 8)].map V.bl)) := upd_same
  have s2 := s1.trans (u6.trans w6)
  replace Ex := Ex.same (u6.trans w6)
  generalize upd (upd H1 q6 (.lst [V.bl (decide (j = 6)), V.bl (decide (j = 7)), V.bl (decide (j = 8))])) p2 (.lst ([decide (j = 0), decide (j = 1), decide (j = 2), decide (j = 3), decide (j = 4), decide (j = 5)].map V.bl ++ [V.bl (decide (j = 6)), V.bl (decide (j = 7)), V.bl (decide (j = 8))])) = H2 at s2 h2 Ex ⊢
  refine ⟨_, rfl, _, rfl, v, .ref (Cs 9), Cs j, y, _, _, rfl, Ex, (G.kl j hj).exc, .own _, kit j 9 hj (by decide), _, rfl, v, .ref (Cs 10), Cs j, y, _, _, rfl, Ex, (G.kl j hj).exc, .own _, kit j 10 hj (by decide), _, rfl, v, .ref (Cs 11), Cs j, y, _, _, rfl, Ex, (G.kl j hj).exc, .own _, kit j 11 hj (by decide), (by show 3 ≤ sizeLine; decide), fun q9 hq9 => ?_⟩
  have u9 := same_new hq9 (.lst [V.bl (decide (j = 9)), V.bl (decide (j = 10)), V.bl (decide (j = 11))])
  refine ⟨p2, q9, _, _, rfl, rfl, u9 _ _ h2, upd_same, (by show 12 ≤ sizeLine; decide), fun p3 hp3 => ?_⟩
  have w9 := same_new hp3 (.lst ([decide (j = 0), decide (j = 1), decide (j = 2), decide (j = 3), decide (j = 4), decide (j = 5), decide (j = 6), decide (j = 7), decide (j = 8)].map V.bl ++ [V.bl (decide (j = 9)), V.bl (decide (j = 10)), V.bl (decide (j = 11))]))
  have h3 : (upd (upd H2 q9 (.lst [V.bl (decide (j = 9)), V.bl (decide (j = 10)), V.bl (decide (j = 11))])) p3 (.lst ([decide (j = 0), decide (j = 1), decide (j = 2), decide (j = 3), decide (j = 4), decide (j = 5), decide (j = 6), decide (j = 7), decide (j = 8)].map V.bl ++ [V.bl (decide (j = 9)), V.bl (decide (j = 10)), V.bl (decide (j = 11))]))) p3 = some (.lst ([decide (j = 0), decide (j = 1), decide (j = 2), decide (j = 3), decide (j = 4), decide (j = 5), decide (j = 6), decide (j = 7), decide (j = 8), decide (j = 9), decide (j = 10), decide (j = 11)].map V.bl)) := upd_same
  have s3 := s2.trans (u9.trans w9)
  replace Ex := Ex.same (u9.trans w9)
  generalize upd (upd H2 q9 (.lst [V.bl (decide (j = 9)), V.bl (decide (j = 10)), V.bl (decide (j = 11))])) p3 (.lst ([decide (j = 0), decide (j = 1), decide (j = 2), decide (j = 3), decide (j = 4), decide (j = 5), decide (j = 6), decide (j = 7), decide (j = 8)].map V.bl ++ [V.bl (decide (j = 9)), V.bl (decide (j = 10)), V.bl (decide (j = 11))])) = H3 at s3 h3 Ex ⊢
  refine ⟨_, rfl, _, rfl, v, .ref (Cs 12), Cs j, y, _, _, rfl, Ex, (G.kl j hj).exc, .own _, kit j 12 hj (by decide), _, rfl, v, .ref (Cs 13), Cs j, y, _, _, rfl, Ex, (G.kl j hj).exc, .own _, kit j 13 hj (by decide), _, rfl, v, .ref (Cs 14), Cs j, y, _, _, rfl, Ex, (G.kl j hj).exc, .own _, kit j 14 hj (by decide), (by show 3 ≤ sizeLine; decide), fun q12 hq12 => ?_⟩
  have u12 := same_new hq12 (.lst [V.bl (decide (j = 12)), V.bl (decide (j = 13)), V.bl (decide (j = 14))])
  refine ⟨p3, q12, _, _, rfl, rfl, u12 _ _ h3, upd_same, (by show 15 ≤ sizeLine; decide), fun p4 hp4 => ?_⟩
  have w12 := same_new hp4 (.lst ([decide (j = 0), decide (j = 1), decide (j = 2), decide (j = 3), decide (j = 4), decide (j = 5), decide (j = 6), decide (j = 7), decide (j = 8), decide (j = 9), decide (j = 10), decide (j = 11)].map V.bl ++ [V.bl (decide (j = 12)), V.bl (decide (j = 13)), V.bl (decide (j = 14))]))
  have h4 : (upd (upd H3 q12 (.lst [V.bl (decide (j = 12)), V.bl (decide (j = 13)), V.bl (decide (j = 14))])) p4 (.lst ([decide (j = 0), decide (j = 1), decide (j = 2), decide (j = 3), decide (j = 4), decide (j = 5), decide (j = 6), decide (j = 7), decide (j = 8), decide (j = 9), decide (j = 10), decide (j = 11)].map V.bl ++ [V.bl (decide (j = 12)), V.bl (decide (j = 13)), V.bl (decide (j = 14))]))) p4 = some (.lst ([decide (j = 0), decide (j = 1), decide (j = 2), decide (j = 3), decide (j = 4), decide (j = 5), decide (j = 6), decide (j = 7), decide (j = 8), decide (j = 9), decide (j = 10), decide (j = 11), decide (j = 12), decide (j = 13), decide (j = 14)].map V.bl)) := upd_same
  have s4 := s3.trans (u12.trans w12)
  exact fin p4 _ h4 s4
def spLaw (K : PySem.W.Frag) : Sp := fun vs H Q _ => ∃ (a : Addr) (ns : List Int), vs = [.ref a] ∧ SqL K H a (ns.map V.int) ∧ ns.length ≤ 63 ∧ ∀ H', Q (.bl true) H'
def teDue : TE := tOp rEq (tVar 10) (tVar 3)
def teWh (K : PySem.W.Frag) : TE := tWhat K (tVar 8)
theorem alike_two {H : Hp} {n : Nat} {p q : Addr} {x y u v : V} (hp : H p = some (.lst [x, y])) (hq : H q = some (.lst [u, v])) (h1 : Alike H n x u) (h2 : Alike H n y v) : Alike H (n + 1) (.ref p) (.ref q) := by
  unfold Alike
  refine .inr ⟨p, q, _, _, rfl, rfl, .inl ⟨hp, hq⟩, rfl, by simp, fun i a b e1 e2 => ?_⟩
  match i with
  | 0 => simp at e1 e2; subst e1 e2; exact h1
  | 1 => simp at e1 e2; subst e1 e2; exact h2
  | i + 2 => simp at e1
abbrev NL : List Str := ["_law_script", "_law_k", "_law_box_here", "_law_way", "_law_own", "_law_other", "_law_made_here", "_law_beside", "_law_one", "_law_due", "_law_at"]
theorem scLaw : FnScope NL ["_law_script"] (defScope sLaw) := ⟨rfl, rfl, rfl, by decide +kernel, rfl, by decide +kernel, by decide +kernel⟩
theorem ok_law {f fB fTh fM fK fS CR : Addr} {fd dB dTh dM dK dS : FuncData} {t1 t2 : Tok} (F : Fun K "law" "law" sLaw f fd) (G : ClsG K mg fI Cs)
    (kitR : ∀ j, j < 15 → PySem.W.kitOne K (.ref (Cs j)) (.ref CR) = some true) (kitV : ∀ j, j < 15 → PySem.W.kitOne K (.ref (Cs j)) (.type "ValueError") = some true) (kitA : ∀ j, j < 15 → PySem.W.kitAny K (.ref (Cs j)) [.type "KeyError", .type "TypeError", .type "IndexError"] = some false)
    (mR : mg "RingError" = some (.ref CR)) (mV : mg "ValueError" = none) (mKe : mg "KeyError" = none) (mTe : mg "TypeError" = none) (mIe : mg "IndexError" = none) (mSi : mg "SIZE" = some (.int 3 t1)) (mSh : mg "SHELF" = some (.int 8 t2))
    (GB : FnOk P w K mg base CX0 1 fB dB ["_law_script", "_law_k"] (spBox K)) (kB : PySem.W.keepIn K (.ref fB) = true) (bB : Binds K dB ["_law_script", "_law_k"] []) (mB : mg "_law_box" = some (.ref fB))
    (GTh : FnOk P w K mg base CX0 3 fTh dTh ["_law_box_here"] spThing) (kTh : PySem.W.keepIn K (.ref fTh) = true) (bTh : Binds K dTh ["_law_box_here"] []) (mTh : mg "_law_thing" = some (.ref fTh))
    (GM : FnOk P w K mg base CX0 4 fM dM ["_law_way", "_law_own"] (spMade Cs)) (kM : PySem.W.keepIn K (.ref fM) = true) (bM : Binds K dM ["_law_way", "_law_own"] []) (mM : mg "_law_made" = some (.ref fM))
    (GK : FnOk P w K mg base CX0 1 fK dK ["_law_caught"] (spKinds Cs)) (kK : PySem.W.keepIn K (.ref fK) = true) (bK : Binds K dK ["_law_caught"] []) (mK : mg "_law_kinds" = some (.ref fK))
    (GS : FnOk P w K mg base CX0 5 fS dS ["_law_found", "_law_due"] (spSame 5)) (kS : PySem.W.keepIn K (.ref fS) = true) (bS : Binds K dS ["_law_found", "_law_due"] []) (mS : mg "_law_same" = some (.ref fS))
    (mIsi : mg "isinstance" = none) (mRange : mg "range" = none) (mMax : mg "max" = none) (mMin : mg "min" = none) (mLen : mg "len" = none) : FnOk P w K mg base CX0 6 f fd ["_law_script"] (spLaw K) := by
  refine F.ok scLaw (fun vs H Q E h => ?_) (fun cdv A outer s H vs Q E hr h => ?_)
  · obtain ⟨a, ns, rfl, _⟩ := h
    rfl
  obtain ⟨a, ns, rfl, hS, hl, q⟩ := h
  have r1 : Room 1 _ := hr.mono (by decide)
  have r3 : Room 3 _ := hr.mono (by decide)
  have r4 : Room 4 _ := hr.mono (by decide)
  refine ⟨_, pss_cons (ps_if (pt_not (pt_val (pe_call GS hr rfl mS kS bS .nil pass0 (pa_cons (pe_lst (pa_cons (pe_glob (v := .int 3) rfl mSi ⟨_, rfl⟩) (pa_cons (pe_glob (v := .int 8) rfl mSh ⟨_, rfl⟩) pa_nil))) (pa_cons (pe_lst (pa_cons pe_int (pa_cons pe_int pa_nil))) pa_nil))))) (pss_one (ps_ret pe_bl)) pss_nil)
    (pss_cons (ps_for PassesOwn.never rfl (pi_range1 rfl mRange (pa_cons (pe_callB (call_max2 rfl) (by rfl) mMax (by decide +kernel) (pa_cons pe_int (pa_cons (pe_callB (call_min2 rfl) (by rfl) mMin (by decide +kernel) (pa_cons pe_int (pa_cons (pe_callB call_len_seq (by rfl) mLen PySem.boot_len (pa_cons (pv 0) pa_nil)) pa_nil))) pa_nil))) pa_nil)) (pg_name (i := 1) scLaw.nd rfl (Or.inl rfl))
      (pss_cons (ps_set (i := 2) scLaw.nd rfl (Or.inl rfl) (pe_call GB r1 rfl mB kB bB .nil pass0 (pa_cons (pv 0) (pa_cons (pv 1) pa_nil))))
      (pss_one (ps_for PassesOwn.never rfl (pi_range1 rfl mRange (pa_cons pe_int pa_nil)) (pg_name (i := 3) scLaw.nd rfl (Or.inr rfl))
        (pss_cons (ps_par (i := 4) (j := 5) rfl scLaw.nd rfl rfl (by decide) rfl rfl (pa_cons (pe_call GTh r3 rfl mTh kTh bTh .nil pass0 (pa_cons (pv 2) pa_nil)) (pa_cons (pe_call GTh r3 rfl mTh kTh bTh .nil pass0 (pa_cons (pv 2) pa_nil)) pa_nil)) (by rfl))
        (pss_cons (ps_par (i := 6) (j := 7) rfl scLaw.nd rfl rfl (by decide) rfl rfl (pa_cons (pe_call GM r4 rfl mM kM bM .nil pass0 (pa_cons (pv 3) (pa_cons (pv 4) pa_nil))) (pa_cons (pe_call GM r4 rfl mM kM bM .nil pass0 (pa_cons (pv 3) (pa_cons (pv 5) pa_nil))) pa_nil)) (by rfl))
        (pss_cons (ps_for PassesOwn.never rfl (pi_list (pv 6)) (pg_name (i := 8) scLaw.nd rfl (Or.inl rfl))
          (pss_cons (ps_setLc (i := 9) (own := [("_law_at", 10)]) (g := gName 10) (tt := tYes) (te := teDue) rfl scLaw.nd rfl rfl (by rfl) (pi_range1 (by rfl) mRange (pa_cons pe_int pa_nil))
            (blkOk_by (N := NL) (sc := defScope sLaw) (by decide +kernel)) (fun _ _ _ _ _ => pg_name (i := 10) scLaw.nd rfl (Or.inl rfl)) (fun _ _ _ _ _ => pts_nil) (fun _ _ _ _ _ => pe_cmpR op_eq (pv 10) (pv 3) (nomark _)))
          (pss_cons (ps_if (PW.pt (pw_or (pt_cmpR (op_neD hr.units) (pe_call GK r1 rfl mK kK bK .nil pass0 (pa_cons (pv 8) pa_nil)) (pv 9) (nomark _))
              (pw_or (pt_not (pt_val (pe_callB (id := "isinstance") call_isX (by rfl) mIsi (by decide +kernel) (pa_cons (pv 8) (pa_cons (pe_glob (v := .ref CR) rfl mR rfl) pa_nil)))))
              (pw_or1 (pt_not (pt_val (pe_callB (id := "isinstance") call_isX (by rfl) mIsi (by decide +kernel) (pa_cons (pv 8) (pa_cons (pe_bltn (v := .ty "ValueError") (by rfl) mV (by decide +kernel) rfl) pa_nil))))))))) (pss_one (ps_ret pe_bl)) pss_nil)
          (pss_one (ps_if (PW.pt (pw_or (pt_val (pe_callB (id := "isinstance") call_isXT (by rfl) mIsi (by decide +kernel) (pa_cons (pv 8) (pa_cons (pe_tup (pa_cons (pe_bltn (v := .ty "KeyError") (by rfl) mKe (by decide +kernel) rfl) (pa_cons (pe_bltn (v := .ty "TypeError") (by rfl) mTe (by decide +kernel) rfl) (pa_cons (pe_bltn (v := .ty "IndexError") (by rfl) mIe (by decide +kernel) rfl) pa_nil)))) pa_nil))))
              (pw_or1 (pt_not (pt_val (pe_call GS hr rfl mS kS bS .nil pass0 (pa_cons (pe_what (pv 8)) (pa_cons (pv 4) pa_nil)))))))) (pss_one (ps_ret pe_bl)) pss_nil)))))
        (pss_one (ps_if (pt_not (pt_val (pe_call GS hr rfl mS kS bS .nil pass0 (pa_cons (pe_lc (own := [("_law_one", 8)]) (g := gName 8) (tt := tYes) (te := teWh K) rfl scLaw.nd (pi_list (pv 7)) (blkOk_by (N := NL) (sc := defScope sLaw) (by decide +kernel))
            (fun _ _ _ _ _ => pg_name (i := 8) scLaw.nd rfl (Or.inl rfl)) (fun _ _ _ _ _ => pts_nil) (fun _ _ _ _ _ => pe_what (pv 8))) (pa_cons (pe_lst (pa_cons (pv 5) (pa_cons (pv 5) pa_nil))) pa_nil))))) (pss_one (ps_ret pe_bl)) pss_nil))))))))) 
    (pss_one (ps_ret pe_bl))), ?_⟩
  have lim : ∀ n : Int, 0 ≤ n → 0 ≤ (if (if n < 4 then n else 4) > (1 : Int) then (if n < 4 then n else 4) else 1) ∧ (if (if n < 4 then n else 4) > (1 : Int) then (if n < 4 then n else 4) else 1) ≤ 4 := by
    intro n hn
    split <;> split <;> omega
  have lim2 := lim (((ns.map V.int).length : Nat) : Int) (by omega)
  refine ⟨(by show 2 ≤ sizeLine; decide), fun p1 hp1 => ?_⟩
  have z1 := same_new hp1 (.lst [V.int 3, .int 8])
  refine ⟨(by show 2 ≤ sizeLine; decide), fun p2 hp2 => ?_⟩
  have z2 := same_new hp2 (.lst [V.int 3, .int 8])
  refine ⟨_, _, 4, rfl, rfl, alike_two (n := 3) (z2 _ _ upd_same) upd_same (alike_self trivial) (alike_self trivial), fun H0 z3 => ⟨true, rfl, iteF ?_⟩⟩
  have z := z1.trans (z2.trans z3)
  refine ⟨_, rfl, a, _, rfl, .inl (z.seq hS), _, _, rfl, _, _, rfl, _, rfl, by omega, by omega, for_range (lo := 0) (fun i σ H2 => ∃ (x1 x2 x3 x4 x5 x6 x7 x8 x9 : Option V), σ = [some (.ref a), x1, x2, x3, x4, x5, x6, x7, x8, x9, none] ∧ Same H H2)
    ⟨_, _, _, _, _, _, _, _, _, rfl, z⟩ ?_ (fun σ H2 ⟨_, _, _, _, _, _, _, _, _, e, _⟩ => q H2)⟩
  rintro i σ H2 hi ⟨x1, x2, x3, x4, x5, x6, x7, x8, x9, rfl, s2⟩
  have i5 : (i : Int) < 4 := by omega
  clear lim lim2
  refine ⟨_, rfl, _, rfl, a, ns, _, rfl, s2.seq hS, hl, by omega, by omega, fun b H3 hb B3 s3 => ?_⟩
  have fresh : ∀ {H' : Hp}, But b H3 H' → Same H H' := fun o x u z => o _ _ (s3 _ _ (s2 _ _ z)) (ne_of_none (s2 _ _ z) hb)
  refine ⟨_, rfl, by decide, by decide, for_range (lo := 0) (n := (15 : Int).toNat) (fun t σ H4 => ∃ (x3 x4 x5 x6 x7 x8 x9 : Option V), σ = [some (.ref a), some (.int (0 + (i : Nat))), some (.ref b), x3, x4, x5, x6, x7, x8, x9, none] ∧ BoxAt H4 b (6 * t) ∧ But b H3 H4)
    ⟨_, _, _, _, _, _, _, rfl, B3, fun _ _ h _ => h⟩ ?_ (fun σ H4 ⟨_, _, _, _, _, _, _, e, _, o⟩ => ⟨_, _, _, _, _, _, _, _, _, e, fresh o⟩)⟩
  rintro t σ H4 ht ⟨x3, x4, x5, x6, x7, x8, x9, rfl, B4, o4⟩
  have t15 : t < 15 := by omega
  have ew : V.int (0 + (t : Int)) = V.int (t : Nat) := by rw [Int.zero_add]
  rw [ew]
  refine ⟨_, rfl, b, _, rfl, B4, by omega, fun own H5 T5 B5 o5 => ⟨_, rfl, b, _, rfl, B5, by omega, fun oth H6 O6 B6 o6 => ⟨_, _, rfl, ?_⟩⟩⟩
  have T6 := T5.but o6 B5
  refine ⟨_, rfl, _, rfl, t, own, rfl, t15, fun m1 a1 a2 H7 hm1 A1 A2 s7 => ?_⟩
  refine ⟨_, rfl, _, rfl, t, oth, rfl, t15, fun m2 b1 b2 H8 hm2 D1 D2 s8 => ⟨_, _, rfl, ?_⟩⟩
  have s68 := s7.trans s8
  have T8 := T6.same s68
  have O8 := O6.same s68
  have A1' := A1.same s8
  have A2' := A2.same s8
  have hm1' := s8 _ _ hm1
  have o8 : But b H3 H8 := o4.trans (o5.trans (o6.trans (but_of s68)))
  have B8 := (B6.same s68).more (k := 6 * (t + 1)) (by omega)
  clear A1 A2 hm1 T5 T6 O6 s7 s8 s68 B4 B5 B6 o4 o5 o6 ew
  refine ⟨_, rfl, m1, rfl, ⟨_, .inl (.inl hm1')⟩, for_list (K := K) (a := m1) (xs := [a1, a2]) (fun e σ H9 => ∃ (x8 x9 : Option V), σ = [some (.ref a), some (.int (0 + (i : Nat))), some (.ref b), some (.int (t : Nat)), some own, some oth, some (.ref m1), some (.ref m2), x8, x9, none] ∧ Same H8 H9)
    ⟨_, _, rfl, Same.refl _⟩ (fun e σ H9 _ ⟨_, _, _, h⟩ => .inl (.inl (h _ _ hm1'))) ?_ ?_⟩
  · rintro e x σ H9 he ⟨x8, x9, rfl, s9⟩
    have Ex8 : ExAt H8 x (Cs t) own := by
      match e with
      | 0 => simp at he; subst he; exact A1'
      | 1 => simp at he; subst he; exact A2'
      | e + 2 => simp at he
    have Ex := Ex8.same s9
    refine ⟨_, rfl, by decide, by decide, fun D hD => lc_range (lo := 0) (n := (15 : Int).toNat) (fun k H10 => H10 D = some (.lst (((bs t).take k).map V.bl)) ∧ Same H9 H10) ⟨upd_same, same_new hD _⟩ ?_ ?_⟩
    · rintro k H10 hk ⟨h10, s10⟩
      have k15 : k < 15 := by omega
      refine ⟨rfl, ?_⟩
      unfold teDue
      have bl : (bs t).length = 15 := rfl
      refine ⟨_, rfl, _, rfl, rfl, _, h10, ?_, ?_, ?_⟩
      · rw [List.length_map, List.length_take]; show _ < sizeLine; have : (100 : Nat) ≤ sizeLine := by decide
        omega
      · have val : (bs t)[k]? = some (decide (V.int (0 + (k : Int)) = V.int (t : Nat))) := by
          have e : decide (V.int (0 + (k : Int)) = V.int (t : Nat)) = decide (t = k) := by
            by_cases h : t = k
            · subst h
              rw [Int.zero_add, decide_eq_true rfl, decide_eq_true rfl]
            · rw [decide_eq_false h, decide_eq_false fun z => h (by injection z with z; omega)]
          rw [e]
          rcases (by omega : k = 0 ∨ k = 1 ∨ k = 2 ∨ k = 3 ∨ k = 4 ∨ k = 5 ∨ k = 6 ∨ k = 7 ∨ k = 8 ∨ k = 9 ∨ k = 10 ∨ k = 11 ∨ k = 12 ∨ k = 13 ∨ k = 14) with h | h | h | h | h | h | h | h | h | h | h | h | h | h | h <;> subst h <;> rfl
        have tk : (bs t).take (k + 1) = (bs t).take k ++ [decide (V.int (0 + (k : Int)) = V.int (t : Nat))] := by rw [List.take_add_one, val]; rfl
        rw [upd_same, tk, List.map_append]; rfl
      · intro c o z
        rw [upd_ne (ne_of_none z hD)]
        exact s10 _ _ z
    · rintro H10 ⟨h10, s10⟩
      have h10 : H10 D = some (.lst ((bs t).map V.bl)) := h10
      have Ex10 := Ex.same s10
      refine ⟨_, rfl, x, own, t, rfl, t15, Ex10, fun pk H11 hpk s11 => ?_⟩
      refine ⟨_, rfl, .list ((bs t).map .bool), .list ((bs t).map .bool), .lst (.inl (.inl hpk)) (dp_bools _), .lst (.inl (.inl (s11 _ _ h10))) (dp_bools _), bools_shaped _, bools_shaped _, false, by rw [bools_same]; rfl, iteF ?_⟩
      have Ex11 := Ex10.same s11
      refine ⟨_, rfl, x, .ref CR, Cs t, own, _, true, rfl, Ex11, (G.kl t t15).exc, .own _, kitR t t15, true, rfl, iteF ?_⟩
      refine ⟨_, rfl, x, .ty "ValueError", Cs t, own, _, true, rfl, Ex11, (G.kl t t15).exc, .ty _, kitV t t15, true, rfl, iteF ?_⟩
      refine ⟨_, rfl, (by show 3 ≤ sizeLine; decide), fun tp htp => ?_⟩
      have s12 := same_new htp (.tup [V.ty "KeyError", .ty "TypeError", .ty "IndexError"])
      have Ex12 := Ex11.same s12
      refine ⟨x, tp, _, Cs t, own, _, false, rfl, upd_same, .cons (.ty _) (.cons (.ty _) (.cons (.ty _) .nil)), Ex12, (G.kl t t15).exc, kitA t t15, false, rfl, iteF ?_⟩
      have s812 := s9.trans (s10.trans (s11.trans s12))
      refine ⟨_, rfl, Cs t, own, Ex12, (G.kl t t15).xf, (G.kl t t15).wh, _, rfl, own, own, 4, rfl, rfl, ((T8.same s812).alike).up1, fun H13 s13 => ⟨true, rfl, iteF ⟨_, _, rfl, s812.trans s13⟩⟩⟩
  · rintro σ H9 ⟨x8, x9, rfl, s9⟩
    have hm2' := s9 _ _ hm2
    have D1' := D1.same s9
    have D2' := D2.same s9
    refine ⟨_, rfl, m2, rfl, ⟨_, .inl (.inl hm2')⟩, fun D hD => lc_list (K := K) (a := m2) (xs := [b1, b2]) (fun k H10 => H10 D = some (.lst ([oth, oth].take k)) ∧ Same H9 H10) ⟨upd_same, same_new hD _⟩ (fun k H10 _ h => .inl (.inl (h.2 _ _ hm2'))) ?_ ?_⟩
    · rintro k x H10 hk ⟨h10, s10⟩
      have Ex : ExAt H9 x (Cs t) oth ∧ k < 2 := by
        match k with
        | 0 => simp at hk; subst hk; exact ⟨D1', by omega⟩
        | 1 => simp at hk; subst hk; exact ⟨D2', by omega⟩
        | k + 2 => simp at hk
      obtain ⟨Ex, k2⟩ := Ex
      refine ⟨rfl, ?_⟩
      unfold teWh
      refine ⟨_, rfl, Cs t, oth, Ex.same s10, (G.kl t t15).xf, (G.kl t t15).wh, _, h10, ?_, ?_, ?_⟩
      · rw [List.length_take]; show _ < sizeLine; have : (100 : Nat) ≤ sizeLine := by decide
        simp; omega
      · rw [upd_same]
        match k, k2 with
        | 0, _ => rfl
        | 1, _ => rfl
      · intro c o z
        rw [upd_ne (ne_of_none z hD)]
        exact s10 _ _ z
    · rintro H10 ⟨h10, s10⟩
      have h10 : H10 D = some (.lst [oth, oth]) := h10
      refine ⟨_, rfl, _, rfl, (by show 2 ≤ sizeLine; decide), fun p hp => ?_⟩
      have s11 := same_new hp (.lst [oth, oth])
      have s811 := s9.trans (s10.trans s11)
      have al := (O8.same s811).alike
      refine ⟨_, _, 4, rfl, rfl, alike_two (s11 _ _ h10) upd_same al al, fun H12 s12 => ⟨true, rfl, iteF ?_⟩⟩
      have s812 := s811.trans s12
      exact ⟨_, _, _, _, _, _, _, rfl, B8.same s812, o8.trans (but_of s812)⟩
end
end Rp

namespace Rp
open PySem L2
theorem gn_of {P : Program} {w : World} {K : PySem.W.Frag} {mg : Str → Option Value} {base : Heap} {k : Nat} {f : Addr} {fd : FuncData} {ps : List Str} {sp : Sp} (F : FnOk P w K mg base CX0 k f fd ps sp) : GnOk P w K mg base k f fd ps sp :=
  ⟨F.len, fun A outer s H args us vs Q E _ hr e0 hb r h => F.run A outer s H args us vs Q E hr e0 hb r h⟩
def klsB (K : PySem.W.Frag) (fI C : Addr) : Bool := oexIn K C && (decide (PySem.W.findIn K (.ref C) "__setattr__" = some (some (.builtin "object.__setattr__"))) && (decide (PySem.W.subIn K (.ref C) (.type "BaseException") = some true) && (decide (PySem.W.typeIn K (.ref C) = some (.type "type")) && (PySem.W.keepIn K (.ref C) &&
  (decide (PySem.W.findIn K (.ref C) "__init__" = some (some (.ref fI))) && (decide (PySem.W.findIn K (.ref C) "what" = some none) && (decide (PySem.W.findIn K (.ref C) "__getattribute__" = some (some (.builtin "BaseException.__getattribute__"))) && (decide (PySem.W.findIn K (.ref C) "__getattr__" = some none) && (PySem.W.hasDictIn K C &&
  (decide (PySem.W.findIn K (.ref C) "__class__" = some (some (.builtin "object.__class__"))) && (decide (PySem.W.specialIn K (.builtin "object.__class__") "__get__" = some (some (.builtin "getset_descriptor.__get__"))) && (decide (PySem.W.takesIn K (.builtin "object.__class__") = some true) && decide (PySem.W.mroIn K C (.type "object") = some true)))))))))))))
theorem klsB_ok {K : PySem.W.Frag} {fI C : Addr} (h : klsB K fI C = true) : Kls K fI C := by
  unfold klsB at h
  obtain ⟨h0, h⟩ := Bool.and_eq_true_iff.mp h
  obtain ⟨h1, h⟩ := Bool.and_eq_true_iff.mp h
  obtain ⟨h2, h⟩ := Bool.and_eq_true_iff.mp h
  obtain ⟨h3, h⟩ := Bool.and_eq_true_iff.mp h
  obtain ⟨h4, h⟩ := Bool.and_eq_true_iff.mp h
  obtain ⟨h5, h⟩ := Bool.and_eq_true_iff.mp h
  obtain ⟨h6, h⟩ := Bool.and_eq_true_iff.mp h
  obtain ⟨h7, h⟩ := Bool.and_eq_true_iff.mp h
  obtain ⟨h8, h⟩ := Bool.and_eq_true_iff.mp h
  obtain ⟨h9, h⟩ := Bool.and_eq_true_iff.mp h
  obtain ⟨h10, h⟩ := Bool.and_eq_true_iff.mp h
  obtain ⟨h11, h⟩ := Bool.and_eq_true_iff.mp h
  obtain ⟨h12, h13⟩ := Bool.and_eq_true_iff.mp h
  exact ⟨⟨oexIn_ok h0, of_decide_eq_true h1, of_decide_eq_true h2, of_decide_eq_true h3, h4⟩, of_decide_eq_true h5, of_decide_eq_true h6, ⟨of_decide_eq_true h7, of_decide_eq_true h8, of_decide_eq_true h2, h9, of_decide_eq_true h10, of_decide_eq_true h11, of_decide_eq_true h12, of_decide_eq_true h13⟩,
    ⟨of_decide_eq_true h7, of_decide_eq_true h8, of_decide_eq_true h2, h9⟩⟩
theorem all_mk {l : PySem.W.OpenLaw} {w : World} {K : PySem.W.Frag} {h : Heap} {mg : Str → Option Value} {fa f1 f2 f3 f4 f5 f6 f7 f8 f9 : Addr} (X : K.In h) (G : h.Ns mainGlobals mg) (hfa : mg "law" = some (.ref fa))
    {od1 an1 od2 an2 od3 an3 od4 an4 od5 an5 od6 an6 od7 an7 od8 an8 od9 an9 : Option Addr} {sl1 sl2 sl3 sl4 sl5 sl6 sl7 sl8 sl9 : Array (Option Value)} {oc1 kV1 dc1 pm1 cd1 ct1 oc2 kV2 dc2 pm2 cd2 ct2 oc3 kV3 dc3 pm3 cd3 ct3 oc4 kV4 dc4 pm4 cd4 ct4 oc5 kV5 dc5 pm5 cd5 ct5 oc6 kV6 dc6 pm6 cd6 ct6 oc7 kV7 dc7 pm7 cd7 ct7 oc8 kV8 dc8 pm8 cd8 ct8 oc9 kV9 dc9 pm9 cd9 ct9 : Value}
    {fI CR C0 C1 C2 C3 C4 C5 C6 C7 C8 C9 C10 C11 C12 C13 C14 : Addr} {odI anI : Option Addr} {slI : Array (Option Value)} {ocI kVI dcI pmI cdI ctI : Value} {t1 t2 : Tok}
    (a1 : PySem.W.nsIn K mainGlobals "_law_box" = some (some (.ref f1))) (l1 : K.lookup f1 = some ⟨oc1, od1, .func (PySem.W.fnOf "_law_box" "_law_box" (defArgs sBox) (defBody sBox) (defScope sBox) .none kV1 dc1 pm1 an1 cd1 ct1), sl1⟩) (c1 : PySem.W.codeIn K cd1 "_law_box" = true) (k1 : PySem.W.keepIn K (.ref f1) = true)
    (a2 : PySem.W.nsIn K mainGlobals "_law_take" = some (some (.ref f2))) (l2 : K.lookup f2 = some ⟨oc2, od2, .func (PySem.W.fnOf "_law_take" "_law_take" (defArgs sTake) (defBody sTake) (defScope sTake) .none kV2 dc2 pm2 an2 cd2 ct2), sl2⟩) (c2 : PySem.W.codeIn K cd2 "_law_take" = true) (k2 : PySem.W.keepIn K (.ref f2) = true)
    (a3 : PySem.W.nsIn K mainGlobals "_law_pick" = some (some (.ref f3))) (l3 : K.lookup f3 = some ⟨oc3, od3, .func (PySem.W.fnOf "_law_pick" "_law_pick" (defArgs sPick) (defBody sPick) (defScope sPick) .none kV3 dc3 pm3 an3 cd3 ct3), sl3⟩) (c3 : PySem.W.codeIn K cd3 "_law_pick" = true) (k3 : PySem.W.keepIn K (.ref f3) = true)
    (a4 : PySem.W.nsIn K mainGlobals "_law_same" = some (some (.ref f4))) (l4 : K.lookup f4 = some ⟨oc4, od4, .func (PySem.W.fnOf "_law_same" "_law_same" (defArgs sSame) (defBody sSame) (defScope sSame) .none kV4 dc4 pm4 an4 cd4 ct4), sl4⟩) (c4 : PySem.W.codeIn K cd4 "_law_same" = true) (k4 : PySem.W.keepIn K (.ref f4) = true)
    (a5 : PySem.W.nsIn K mainGlobals "_law_made" = some (some (.ref f5))) (l5 : K.lookup f5 = some ⟨oc5, od5, .func (PySem.W.fnOf "_law_made" "_law_made" (defArgs sMade) (defBody sMade) (defScope sMade) .none kV5 dc5 pm5 an5 cd5 ct5), sl5⟩) (c5 : PySem.W.codeIn K cd5 "_law_made" = true) (k5 : PySem.W.keepIn K (.ref f5) = true)
    (a6 : PySem.W.nsIn K mainGlobals "_law_made_more" = some (some (.ref f6))) (l6 : K.lookup f6 = some ⟨oc6, od6, .func (PySem.W.fnOf "_law_made_more" "_law_made_more" (defArgs sMore) (defBody sMore) (defScope sMore) .none kV6 dc6 pm6 an6 cd6 ct6), sl6⟩) (c6 : PySem.W.codeIn K cd6 "_law_made_more" = true) (k6 : PySem.W.keepIn K (.ref f6) = true)
    (a7 : PySem.W.nsIn K mainGlobals "_law_kinds" = some (some (.ref f7))) (l7 : K.lookup f7 = some ⟨oc7, od7, .func (PySem.W.fnOf "_law_kinds" "_law_kinds" (defArgs sKinds) (defBody sKinds) (defScope sKinds) .none kV7 dc7 pm7 an7 cd7 ct7), sl7⟩) (c7 : PySem.W.codeIn K cd7 "_law_kinds" = true) (k7 : PySem.W.keepIn K (.ref f7) = true)
    (a8 : PySem.W.nsIn K mainGlobals "_law_thing" = some (some (.ref f8))) (l8 : K.lookup f8 = some ⟨oc8, od8, .func (PySem.W.fnOf "_law_thing" "_law_thing" (defArgs sThing) (defBody sThing) (defScope sThing) .none kV8 dc8 pm8 an8 cd8 ct8), sl8⟩) (c8 : PySem.W.codeIn K cd8 "_law_thing" = true) (k8 : PySem.W.keepIn K (.ref f8) = true)
    (a9 : PySem.W.nsIn K mainGlobals "law" = some (some (.ref f9))) (l9 : K.lookup f9 = some ⟨oc9, od9, .func (PySem.W.fnOf "law" "law" (defArgs sLaw) (defBody sLaw) (defScope sLaw) .none kV9 dc9 pm9 an9 cd9 ct9), sl9⟩) (c9 : PySem.W.codeIn K cd9 "law" = true) (k9 : PySem.W.keepIn K (.ref f9) = true)
    (z1 : PySem.W.nsIn K mainGlobals "isinstance" = some none)
    (z2 : PySem.W.nsIn K mainGlobals "int" = some none)
    (z3 : PySem.W.nsIn K mainGlobals "len" = some none)
    (z4 : PySem.W.nsIn K mainGlobals "list" = some none)
    (z5 : PySem.W.nsIn K mainGlobals "tuple" = some none)
    (z6 : PySem.W.nsIn K mainGlobals "all" = some none)
    (z7 : PySem.W.nsIn K mainGlobals "zip" = some none)
    (z8 : PySem.W.nsIn K mainGlobals "str" = some none)
    (z9 : PySem.W.nsIn K mainGlobals "bool" = some none)
    (z10 : PySem.W.nsIn K mainGlobals "range" = some none)
    (z11 : PySem.W.nsIn K mainGlobals "abs" = some none)
    (z12 : PySem.W.nsIn K mainGlobals "min" = some none)
    (z13 : PySem.W.nsIn K mainGlobals "max" = some none)
    (z14 : PySem.W.nsIn K mainGlobals "ValueError" = some none)
    (z15 : PySem.W.nsIn K mainGlobals "KeyError" = some none)
    (z16 : PySem.W.nsIn K mainGlobals "TypeError" = some none)
    (z17 : PySem.W.nsIn K mainGlobals "IndexError" = some none)
    (cR : PySem.W.nsIn K mainGlobals "RingError" = some (some (.ref CR)))
    (iI : PySem.W.findIn K (.ref CR) "__init__" = some (some (.ref fI)))
    (lI : K.lookup fI = some ⟨ocI, odI, .func (PySem.W.fnOf "__init__" "RingError.__init__" (defArgs sInitM) (defBody sInitM) (defScope sInitM) .none kVI dcI pmI anI cdI ctI), slI⟩)
    (cI : PySem.W.codeIn K cdI "RingError.__init__" = true)
    (kI : PySem.W.keepIn K (.ref fI) = true)
    (tI : PySem.W.typeIn K (.ref fI) = some (.type "function"))
    (vV : PySem.W.findCls K (.type "ValueError") (.type "type") "__init__" = some (.val (.builtin "ValueError.__init__")))
    (xS : PySem.W.nsIn K mainGlobals "SIZE" = some (some (.int 3 t1)))
    (xH : PySem.W.nsIn K mainGlobals "SHELF" = some (some (.int 8 t2)))
    (xcls0 : PySem.W.nsIn K mainGlobals "BadText" = some (some (.ref C0)))
    (xcls1 : PySem.W.nsIn K mainGlobals "BadRow" = some (some (.ref C1)))
    (xcls2 : PySem.W.nsIn K mainGlobals "Clash" = some (some (.ref C2)))
    (xcls3 : PySem.W.nsIn K mainGlobals "NoRule" = some (some (.ref C3)))
    (xcls4 : PySem.W.nsIn K mainGlobals "BadStep" = some (some (.ref C4)))
    (xcls5 : PySem.W.nsIn K mainGlobals "BadChart" = some (some (.ref C5)))
    (xcls6 : PySem.W.nsIn K mainGlobals "Leans" = some (some (.ref C6)))
    (xcls7 : PySem.W.nsIn K mainGlobals "NotLetBy" = some (some (.ref C7)))
    (xcls8 : PySem.W.nsIn K mainGlobals "NoWorld" = some (some (.ref C8)))
    (xcls9 : PySem.W.nsIn K mainGlobals "TooLong" = some (some (.ref C9)))
    (xcls10 : PySem.W.nsIn K mainGlobals "Known" = some (some (.ref C10)))
    (xcls11 : PySem.W.nsIn K mainGlobals "Unknown" = some (some (.ref C11)))
    (xcls12 : PySem.W.nsIn K mainGlobals "TooMany" = some (some (.ref C12)))
    (xcls13 : PySem.W.nsIn K mainGlobals "Leant" = some (some (.ref C13)))
    (xcls14 : PySem.W.nsIn K mainGlobals "BadDeed" = some (some (.ref C14)))
    (xK : ((List.range 15).all fun k => klsB K fI ([C0, C1, C2, C3, C4, C5, C6, C7, C8, C9, C10, C11, C12, C13, C14].getD k 0)) = true)
    (xT : ((List.range 15).all fun j => (List.range 15).all fun k => decide (PySem.W.kitOne K (.ref ([C0, C1, C2, C3, C4, C5, C6, C7, C8, C9, C10, C11, C12, C13, C14].getD j 0)) (.ref ([C0, C1, C2, C3, C4, C5, C6, C7, C8, C9, C10, C11, C12, C13, C14].getD k 0)) = some (decide (j = k)))) = true)
    (xR : ((List.range 15).all fun k => decide (PySem.W.kitOne K (.ref ([C0, C1, C2, C3, C4, C5, C6, C7, C8, C9, C10, C11, C12, C13, C14].getD k 0)) (.ref CR) = some true) && decide (PySem.W.kitOne K (.ref ([C0, C1, C2, C3, C4, C5, C6, C7, C8, C9, C10, C11, C12, C13, C14].getD k 0)) (.type "ValueError") = some true) && decide (PySem.W.kitAny K (.ref ([C0, C1, C2, C3, C4, C5, C6, C7, C8, C9, C10, C11, C12, C13, C14].getD k 0)) [.type "KeyError", .type "TypeError", .type "IndexError"] = some false)) = true)
    : ∃ fd : FuncData, (∀ (s : Shared) (v : Value), BindsTo s fd ⟨[v], []⟩ [("_law_script", v)]) ∧ ∀ base : Heap, K.In base → base.Ns mainGlobals mg → GnOk l.prog w K mg base 6 fa fd ["_law_script"] (spLaw K) := by
  have e := hfa.symm.trans (PySem.W.mg_of X G a9)
  cases e
  have F1 := fun_mk (st := sBox) l1 c1 k1
  have b1 := F1.binds (ps := ["_law_script", "_law_k"]) fun _ _ _ _ _ _ us hl => match us, hl with | [_, _], _ => rfl
  have m1 := PySem.W.mg_of X G a1
  have F2 := fun_mk (st := sTake) l2 c2 k2
  have b2 := F2.binds (ps := ["_law_box_here", "_law_reach"]) fun _ _ _ _ _ _ us hl => match us, hl with | [_, _], _ => rfl
  have m2 := PySem.W.mg_of X G a2
  have F3 := fun_mk (st := sPick) l3 c3 k3
  have b3 := F3.binds (ps := ["_law_box_here", "_law_things"]) fun _ _ _ _ _ _ us hl => match us, hl with | [_, _], _ => rfl
  have m3 := PySem.W.mg_of X G a3
  have F4 := fun_mk (st := sSame) l4 c4 k4
  have b4 := F4.binds (ps := ["_law_found", "_law_due"]) fun _ _ _ _ _ _ us hl => match us, hl with | [_, _], _ => rfl
  have m4 := PySem.W.mg_of X G a4
  have F5 := fun_mk (st := sMade) l5 c5 k5
  have b5 := F5.binds (ps := ["_law_way", "_law_own"]) fun _ _ _ _ _ _ us hl => match us, hl with | [_, _], _ => rfl
  have m5 := PySem.W.mg_of X G a5
  have F6 := fun_mk (st := sMore) l6 c6 k6
  have b6 := F6.binds (ps := ["_law_way", "_law_own"]) fun _ _ _ _ _ _ us hl => match us, hl with | [_, _], _ => rfl
  have m6 := PySem.W.mg_of X G a6
  have F7 := fun_mk (st := sKinds) l7 c7 k7
  have b7 := F7.binds (ps := ["_law_caught"]) fun _ _ _ _ _ _ us hl => match us, hl with | [_], _ => rfl
  have m7 := PySem.W.mg_of X G a7
  have F8 := fun_mk (st := sThing) l8 c8 k8
  have b8 := F8.binds (ps := ["_law_box_here"]) fun _ _ _ _ _ _ us hl => match us, hl with | [_], _ => rfl
  have m8 := PySem.W.mg_of X G a8
  have F9 := fun_mk (st := sLaw) l9 c9 k9
  have y1 := PySem.W.mg_none_of X G z1
  have y2 := PySem.W.mg_none_of X G z2
  have y3 := PySem.W.mg_none_of X G z3
  have y4 := PySem.W.mg_none_of X G z4
  have y5 := PySem.W.mg_none_of X G z5
  have y6 := PySem.W.mg_none_of X G z6
  have y7 := PySem.W.mg_none_of X G z7
  have y8 := PySem.W.mg_none_of X G z8
  have y9 := PySem.W.mg_none_of X G z9
  have y10 := PySem.W.mg_none_of X G z10
  have y11 := PySem.W.mg_none_of X G z11
  have y12 := PySem.W.mg_none_of X G z12
  have y13 := PySem.W.mg_none_of X G z13
  have y14 := PySem.W.mg_none_of X G z14
  have y15 := PySem.W.mg_none_of X G z15
  have y16 := PySem.W.mg_none_of X G z16
  have y17 := PySem.W.mg_none_of X G z17
  refine ⟨PySem.W.fnOf "law" "law" (defArgs sLaw) (defBody sLaw) (defScope sLaw) .none kV9 dc9 pm9 an9 cd9 ct9, fun s v => .of_eq rfl, fun base _ _ => ?_⟩
  have kl : ∀ k, k < 15 → Kls K fI ([C0, C1, C2, C3, C4, C5, C6, C7, C8, C9, C10, C11, C12, C13, C14].getD k 0) := fun k hk => klsB_ok (List.all_eq_true.mp xK k (List.mem_range.mpr hk))
  have kit : ∀ j k, j < 15 → k < 15 → PySem.W.kitOne K (.ref ([C0, C1, C2, C3, C4, C5, C6, C7, C8, C9, C10, C11, C12, C13, C14].getD j 0)) (.ref ([C0, C1, C2, C3, C4, C5, C6, C7, C8, C9, C10, C11, C12, C13, C14].getD k 0)) = some (decide (j = k)) := fun j k hj hk => of_decide_eq_true (List.all_eq_true.mp (List.all_eq_true.mp xT j (List.mem_range.mpr hj)) k (List.mem_range.mpr hk))
  have kr : ∀ k, k < 15 → _ := fun k hk => List.all_eq_true.mp xR k (List.mem_range.mpr hk)
  have kitR : ∀ j, j < 15 → PySem.W.kitOne K (.ref ([C0, C1, C2, C3, C4, C5, C6, C7, C8, C9, C10, C11, C12, C13, C14].getD j 0)) (.ref CR) = some true := fun j hj => of_decide_eq_true (Bool.and_eq_true_iff.mp (Bool.and_eq_true_iff.mp (kr j hj)).1).1
  have kitV : ∀ j, j < 15 → PySem.W.kitOne K (.ref ([C0, C1, C2, C3, C4, C5, C6, C7, C8, C9, C10, C11, C12, C13, C14].getD j 0)) (.type "ValueError") = some true := fun j hj => of_decide_eq_true (Bool.and_eq_true_iff.mp (Bool.and_eq_true_iff.mp (kr j hj)).1).2
  have kitA : ∀ j, j < 15 → PySem.W.kitAny K (.ref ([C0, C1, C2, C3, C4, C5, C6, C7, C8, C9, C10, C11, C12, C13, C14].getD j 0)) [.type "KeyError", .type "TypeError", .type "IndexError"] = some false := fun j hj => of_decide_eq_true (Bool.and_eq_true_iff.mp (kr j hj)).2
  have CG : ClsG K mg fI (fun k => [C0, C1, C2, C3, C4, C5, C6, C7, C8, C9, C10, C11, C12, C13, C14].getD k 0) := ⟨kl, (PySem.W.mg_of X G xcls0), (PySem.W.mg_of X G xcls1), (PySem.W.mg_of X G xcls2), (PySem.W.mg_of X G xcls3), (PySem.W.mg_of X G xcls4), (PySem.W.mg_of X G xcls5), (PySem.W.mg_of X G xcls6), (PySem.W.mg_of X G xcls7), (PySem.W.mg_of X G xcls8), (PySem.W.mg_of X G xcls9), (PySem.W.mg_of X G xcls10), (PySem.W.mg_of X G xcls11), (PySem.W.mg_of X G xcls12), (PySem.W.mg_of X G xcls13), (PySem.W.mg_of X G xcls14)⟩
  have FI := fun_mk (st := sInitM) lI cI kI
  have bI := FI.binds (ps := ["self", "what"]) fun _ _ _ _ _ _ us hl => match us, hl with | [_, _], _ => rfl
  have bK : ∀ (s : Shared) (a b : Value), K.In s.heap → BindsTo s (PySem.W.fnOf "__init__" "RingError.__init__" (defArgs sInitM) (defBody sInitM) (defScope sInitM) .none kVI dcI pmI anI cdI ctI) ⟨[a], [("what", b)]⟩ [("self", a), ("what", b)] := fun s a b _ => .of_eq rfl
  have M : SameG mg := ⟨y1, y4, y5, y3, y6, y7, y8, y2, y9⟩
  have GI := ok_init (P := l.prog) (w := w) (base := base) FI y14 vV
  have GS := same_ok (P := l.prog) (w := w) (base := base) F4 b4 m4 M 5
  have GTk := ok_take (P := l.prog) (w := w) (mg := mg) (base := base) F2
  have GPk := ok_pick (P := l.prog) (w := w) (base := base) F3 F2 b2 m2 y3
  have GBx := ok_box (P := l.prog) (w := w) (base := base) F1 y3 y11 y2
  have GTh := ok_thing F8 GTk k2 b2 m2 GPk k3 b3 m3
  have GMo := ok_more F6 CG tI GI bI bK
  have GMa := ok_made F5 CG tI GI bI bK GMo k6 b6 m6
  have GKi := ok_kinds (P := l.prog) (w := w) (base := base) F7 CG kit y1
  exact gn_of (ok_law F9 CG kitR kitV kitA (PySem.W.mg_of X G cR) y14 y15 y16 y17 (PySem.W.mg_of X G xS) (PySem.W.mg_of X G xH) GBx k1 b1 m1 GTh k8 b8 m8 GMa k5 b5 m5 GKi k7 b7 m7 GS k4 b4 m4 y1 y10 y13 y12 y3)
theorem walk {l : PySem.W.OpenLaw} {q : Program} {loose : List Str} {XP : (Str → Option Value) → Heap → Prop} {YP : World → Heap → Prop} {d : DefRec} {K : Params → PySem.W.Frag} (hn : l.most = some 63) (hdf : d.params.defaults = [])
    (hY : ∀ (w : World) (h : Heap), YP w h → (K w.params).In h)
    (F : ∀ (w : World) (mg : Str → Option Value) (fa : Addr) (h : Heap), (K w.params).In h → h.Ns mainGlobals mg → mg d.name = some (.ref fa) →
      ∃ fd : FuncData, (∀ (s : Shared) (u : Value), BindsTo s fd ⟨[u], []⟩ [("_law_script", u)]) ∧ ∀ base : Heap, (K w.params).In base → base.Ns mainGlobals mg → GnOk l.prog w (K w.params) mg base 6 fa fd ["_law_script"] (spLaw (K w.params))) :
    PySem.W.WalkO q loose XP YP l.row.toRowW d [] (fun f vs => PySem.call f vs) :=
  walk_ofG (n := 63) (k := 6) (x := "_law_script") (sp := spLaw) hn (by decide) hdf ⟨rfl, by decide, by decide⟩ hY F (fun _ _ a ns hl _ hS => ⟨a, ns, rfl, hS, hl, fun _ => rfl⟩)
end Rp
open PySem PySem.W PyProof.Rows
set_option maxRecDepth 100000 in
set_option maxHeartbeats 0 in
theorem PySem.Challenge.cw_ringproofs_k01_words_and_refusals_holds : PySem.Challenge.rw_ringproofs_k01_words_and_refusals.Holds := by
  w_on; o_law; k_head; (case hw => w_witness2)
  k_fill
  refine Rp.walk (l := PySem.Challenge.rw_ringproofs_k01_words_and_refusals) rfl rfl (fun w h Y => PySem.W.kIn_of Y) ?F
  case F =>
    intro w mg fa h KX G hmg
    refine' Rp.all_mk KX G hmg ?a1 ?l1 ?c1 ?k1 ?a2 ?l2 ?c2 ?k2 ?a3 ?l3 ?c3 ?k3 ?a4 ?l4 ?c4 ?k4 ?a5 ?l5 ?c5 ?k5 ?a6 ?l6 ?c6 ?k6 ?a7 ?l7 ?c7 ?k7 ?a8 ?l8 ?c8 ?k8 ?a9 ?l9 ?c9 ?k9 ?z1 ?z2 ?z3 ?z4 ?z5 ?z6 ?z7 ?z8 ?z9 ?z10 ?z11 ?z12 ?z13 ?z14 ?z15 ?z16 ?z17 ?cR ?iI ?lI ?cI ?kI ?tI ?vV ?xS ?xH ?xcls0 ?xcls1 ?xcls2 ?xcls3 ?xcls4 ?xcls5 ?xcls6 ?xcls7 ?xcls8 ?xcls9 ?xcls10 ?xcls11 ?xcls12 ?xcls13 ?xcls14 ?xK ?xT ?xR
    (case a1 => k_is); (case l1 => k_is); (case c1 => k_is); (case k1 => k_is)
    (case a2 => k_is); (case l2 => k_is); (case c2 => k_is); (case k2 => k_is)
    (case a3 => k_is); (case l3 => k_is); (case c3 => k_is); (case k3 => k_is)
    (case a4 => k_is); (case l4 => k_is); (case c4 => k_is); (case k4 => k_is)
    (case a5 => k_is); (case l5 => k_is); (case c5 => k_is); (case k5 => k_is)
    (case a6 => k_is); (case l6 => k_is); (case c6 => k_is); (case k6 => k_is)
    (case a7 => k_is); (case l7 => k_is); (case c7 => k_is); (case k7 => k_is)
    (case a8 => k_is); (case l8 => k_is); (case c8 => k_is); (case k8 => k_is)
    (case a9 => k_is); (case l9 => k_is); (case c9 => k_is); (case k9 => k_is)
    (case z1 => k_is); (case z2 => k_is); (case z3 => k_is); (case z4 => k_is)
    (case z5 => k_is); (case z6 => k_is); (case z7 => k_is); (case z8 => k_is)
    (case z9 => k_is); (case z10 => k_is); (case z11 => k_is); (case z12 => k_is)
    (case z13 => k_is); (case z14 => k_is); (case z15 => k_is); (case z16 => k_is)
    (case z17 => k_is); (case cR => k_is); (case iI => k_is); (case lI => k_is)
    (case cI => k_is); (case kI => k_is); (case tI => k_is); (case vV => k_is)
    (case xS => k_is); (case xH => k_is); (case xcls0 => k_is); (case xcls1 => k_is)
    (case xcls2 => k_is); (case xcls3 => k_is); (case xcls4 => k_is); (case xcls5 => k_is)
    (case xcls6 => k_is); (case xcls7 => k_is); (case xcls8 => k_is); (case xcls9 => k_is)
    (case xcls10 => k_is); (case xcls11 => k_is); (case xcls12 => k_is); (case xcls13 => k_is)
    (case xcls14 => k_is); (case xK => kernel_rfl); (case xT => kernel_rfl); (case xR => kernel_rfl)

