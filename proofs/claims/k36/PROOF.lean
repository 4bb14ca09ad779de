import PyProof.Rows.All
import Wide.All
import OpenK.AllK
import Wide.FinOn
import HandS.ForMost
import HandS.IsInst
import HandS.Style
import HandS.Set
import HandS.Strs
import HandS.SetBool
import HandS.SetFor
import PySem.Challenge.RW_ringproofs_k36_charts_as_texts
import HandS.Zip
import HandS.Deep
import HandS.Flow
import PyProof.Rows.RegFStrParts
import HandS.FStr
import HandS.Text
import HandS.CallLocal
import HandS.Codes
import PyProof.StrLaws
import HandS.Rev
import HandS.StrMore
import HandS.ReplaceLit
import HandS.ReplaceDef
import HandS.TupAny
import KE.KUnpackStar
import HandS.Walk
import HandS.Steps
import HandS.Star
import HandS.Conv
import HandS.NoneIn
import HandS.RaiseMore
set_option Elab.async false
set_option linter.all false
set_option maxRecDepth 100000
set_option maxHeartbeats 4000000
/-! Two rules that the layer lacks: a comprehension that makes a set of ints, and set(xs) of a list of ints whose table is known well enough to be sorted afterwards. -/
namespace Rp
open PySem PySem.Spec PyProof.Rows L2 PpSet

section addi
variable {X : Cx}
/-- an int goes into a tracked set of ints -/
theorem putInt {pins : List (Addr × Obj)} {σ : L2.St} {H : Hp} {s : Shared} {E : Value → Shared → Prop} {D : Addr} {S : Int → Bool} {n : Nat} {y : Int} {t : Tok} {Q : Value → Shared → Prop}
    (I : Inv X pins σ H s) (hD : H D = some (SetO X.w D S n)) (few : n + 1 < scanBound)
    (go : ∀ s', Inv X pins σ (upd H D (SetO X.w D (fun j => S j || decide (j = y)) (if S y = true then n else n + 1))) s' → Q .none s') :
    wpAny (model X.prog X.w) X.A (call (.builtin "set.add") [.ref D, .int y t]) Q E s :=
  setR_add (setO_get I hD) few fun h' same now =>
    have there : ∃ u, h'.get? D = some u := let ⟨o, _, _, _, ho, _⟩ := now; ⟨o, ho⟩
    go _ (I.write (e := D) (t' := s.toks + 1) (by rw [hD]; trivial) (.inl rfl) (fun b u ne hu => (same.2 b ne).trans hu) there (setO_new now))

/-- what {e for x in .. if ..} asks where e is an int -/
def tScI (w : World) (wi : TI) (g : TG) (tt : TT) (te : TE) (vs : List Nat) : TE := fun σ H Q => wi σ H fun J H1 => ∀ D, H1 D = none →
  ∃ W : Nat → Nat → Hp → Prop, (∃ m, W 0 m (upd H1 D (SetO w D (fun _ => false) 0))) ∧ ∀ i m H, W i m H → (J.stop i H ∧ Q (.ref D) H) ∨
    (J.go i H ∧ ∃ Nx : Hp → Prop, (∀ H', Nx H' → ∃ m', m' < m ∧ W (i + 1) m' H') ∧ ∀ x H', J.yld i H x H' → g x (wipe σ vs) H' fun σ2 H2 => wipe σ2 vs = wipe σ vs ∧
      tt σ2 H2 fun b H3 => if b = true then te σ2 H3 fun y H4 => ∃ (k : Int) (S : Int → Bool) (n : Nat), y = .int k ∧ H4 D = some (SetO w D S n) ∧ n + 1 < scanBound ∧
        Nx (upd H4 D (SetO w D (fun j => S j || decide (j = k)) (if S k = true then n else n + 1))) else Nx H3)

abbrev emptySet (w : World) : Obj := { cls := .type "set", dict := none, data := .set #[] 0 (.fresh 0 0 (!w.params.followText "set-order")) }

theorem pe_scI {elt tg iter : Expr} {ifs : List Expr} {scope : Scope} {own : List (PySem.Str × Nat)} {pos : Pos} {wi : TI} {g : TG} {tt : TT} {te : TE}
    (hc : X.calm = true) (hN : X.N.Nodup) (hi : PI X tg iter wi) (ok : BlkOk X.N X.env.scope scope own)
    (hg : ∀ (s : Shared) (H : Hp) (C : Addr) (cl : List (PySem.Str × Addr)) (fp : List Addr), PG (X.blk s H scope (compEnvC scope cl C X.env) fp) tg g)
    (ht : ∀ (s : Shared) (H : Hp) (C : Addr) (cl : List (PySem.Str × Addr)) (fp : List Addr), PTs (X.blk s H scope (compEnvC scope cl C X.env) fp) ifs tt)
    (he : ∀ (s : Shared) (H : Hp) (C : Addr) (cl : List (PySem.Str × Addr)) (fp : List Addr), PE (X.blk s H scope (compEnvC scope cl C X.env) fp) elt te)
    (hs : ∀ x, foldedSetIterable iter X.env x = pure x := by intro _; rfl) :
    PE X (.SetComp elt [⟨tg, iter, ifs, 0⟩] scope pos) (tScI X.w wi g tt te (own.map (·.2))) := by
  refine ⟨fun pins s σ H Q I h => ?_⟩
  rw [eval_SetComp]
  have caught : ∀ y ∈ scope.names, y.2 = .free → ∃ c, X.env.cells.lookup y.1 = some c := fun y hy e =>
    (ok.free y hy e).elim (fun k => I.ok.has _ (.inl k)) fun k => I.ok.has _ (.inr k)
  refine wpAny_comprehension_free (use := none) rfl hs (closure_ok caught) ok.kind (fun y hy e => (ok.uniq y hy).trans (by rw [e])) (thn (hi.run pins s σ H _ I h) fun xv s1 hx => thn hx fun itv s2 h2 => ?_)
  obtain ⟨it, fp, tn, J, H2, rfl, I2, T, st2, f2, q⟩ := h2
  refine newSet_ok (newEnv_comp ?_)
  -- the new set's place
  obtain ⟨D, hD⟩ : ∃ D, s2.heap.objs.size = D := ⟨_, rfl⟩
  rw [hD]
  obtain ⟨W, ⟨m0, w0⟩, turn⟩ := q D (I2.hok.fresh (Nat.le_of_eq hD))
  obtain ⟨s3, hs3⟩ : ∃ s3 : Shared, { s2 with heap := s2.heap.push (emptySet X.w) } = s3 := ⟨_, rfl⟩
  have h3 : s3.heap = s2.heap.push (emptySet X.w) := by rw [← hs3]
  have I3 : Inv X pins σ (upd H2 D (SetO X.w D (fun _ => false) 0)) s3 := by
    have z := I2.laid (a := D) (o := SetO X.w D (fun _ => false) 0) (t' := s2.toks) (h' := s2.heap.push (emptySet X.w)) (fun b o e => Heap.get?_push_of_some _ e) (Nat.le_of_eq hD) (by rw [← hD]; exact setO_new (setR_fresh X.w))
    exact hs3 ▸ z
  have low : ∀ b ∈ fp, b < s2.heap.objs.size := fun b hb => let ⟨o, e, _⟩ := T.obj _ _ st2 b hb; Heap.lt_size e
  have f3 : ∀ b ∈ fp, FpOk X pins (upd H2 D (SetO X.w D (fun _ => false) 0)) b ∧ b < s3.heap.objs.size := fun b hb =>
    ⟨⟨(upd_ne (by rw [← hD]; exact Nat.ne_of_lt (low b hb))).trans (f2 b hb).1, (f2 b hb).2⟩, by rw [h3, Heap.size_push]; exact Nat.lt_succ_of_lt (low b hb)⟩
  have st3 : tn 0 s3.heap := T.keep _ _ _ st2 fun b _ o e => h3 ▸ Heap.get?_push_of_some _ e
  have I4 := block_start I3 ok hN f3
  obtain ⟨H3, hH3⟩ : ∃ H3, upd H2 D (SetO X.w D (fun _ => false) 0) = H3 := ⟨_, rfl⟩
  rw [hH3] at I3 f3 I4 w0
  obtain ⟨C, hC⟩ : ∃ C, s3.heap.objs.size = C := ⟨_, rfl⟩
  rw [hC] at I4
  have pg := hg s3 H3 C (cellsFrom (C + 1) scope.names (cloFrom X.env.cells scope.names [])) fp
  have pt := ht s3 H3 C (cellsFrom (C + 1) scope.names (cloFrom X.env.cells scope.names [])) fp
  have pe := he s3 H3 C (cellsFrom (C + 1) scope.names (cloFrom X.env.cells scope.names [])) fp
  subst hs3
  have hC' : (s2.heap.push (emptySet X.w)).objs.size = C := hC
  show codeAny _ _ (.compStart (.SetComp elt [⟨tg, iter, ifs, 0⟩] scope pos) 0 (.ref it) (.ref D) (compEnvC scope (cellsFrom ((s2.heap.push (emptySet X.w)).objs.size + 1) scope.names (cloFrom X.env.cells scope.names [])) (s2.heap.push (emptySet X.w)).objs.size X.env))
    (compPost (model X.prog X.w) X.A X.xe none (EP X pins σ Q) (.ref D) (s2.heap.push (emptySet X.w)).objs.size) { s2 with heap := pushCells ((s2.heap.push (emptySet X.w)).push { cls := .type "dict", data := .dict #[] }) scope.names }
  rw [hC']
  obtain ⟨ce, hce⟩ : ∃ ce, compEnvC scope (cellsFrom (C + 1) scope.names (cloFrom X.env.cells scope.names [])) C X.env = ce := ⟨_, rfl⟩
  rw [hce] at I4 pg pt pe ⊢
  have cL : ce.locals = C := by subst hce; rfl
  obtain ⟨s4, hs4⟩ : ∃ s4 : Shared, { s2 with heap := pushCells ((s2.heap.push (emptySet X.w)).push { cls := .type "dict", data := .dict #[] }) scope.names } = s4 := ⟨_, rfl⟩
  have I4 : Inv (X.blk _ H3 scope ce fp) [] (wipe σ (own.map (·.2))) H3 s4 := hs4 ▸ I4
  rw [hs4]
  have st4 : tn 0 s4.heap := T.keep _ _ _ st3 fun b _ o e => by rw [← hs4]; exact pushCells_keeps _ _ _ _ (Heap.get?_push_of_some _ e)
  obtain ⟨Y, hY⟩ : ∃ Y, X.blk { s2 with heap := s2.heap.push (emptySet X.w) } H3 scope ce fp = Y := ⟨_, rfl⟩
  have rest : ∀ {σ' : L2.St} {H' : Hp} {s' : Shared}, Inv Y [] σ' H' s' → (∀ b ∈ fp, H' b = none) → ∀ b ∈ fp, FpOk Y [] H' b := by
    subst hY
    intro σ' H' s' I' hn b hb
    exact ⟨hn b hb, (I'.ok.exf b hb).1, I'.ok.exfs b hb, .inl hb, fun x c e => (I'.ok.exf b hb).2 x c e, fun p hp => absurd (show p ∈ ([] : List (Addr × Obj)) ++ [] from hp) (by simp)⟩
  have round : codeAny (model X.prog X.w) X.A (.compLoop (.SetComp elt [⟨tg, iter, ifs, 0⟩] scope pos) 0 (.ref it) (.ref D) ce) (compPost (model X.prog X.w) X.A X.xe none (EP X pins σ Q) (.ref D) C) s4 := by
    refine compLoopS_any (fun n s' => ∃ i H', Inv Y [] (wipe σ (own.map (·.2))) H' s' ∧ tn i s'.heap ∧ (∀ b ∈ fp, H' b = none) ∧ W i n H') ?_ m0 ⟨0, H3, hY ▸ I4, st4, fun b hb => (f3 b hb).1.1, w0⟩
    rintro n s5 ⟨i, H5, I5, st5, n5, w5⟩
    rcases turn i n H5 w5 with ⟨stop, qq⟩ | ⟨go, Nx, hNx, step⟩
    · subst hY
      refine thnF (T.done (X.blk _ H3 scope ce fp) rfl rfl rfl hc i [] s5 _ H5 (fun _ _ => False) I5 (rest I5 n5) st5 stop) fun r s6 ⟨hr, I6⟩ => ?_
      subst hr
      have I7 : Inv X pins σ H5 s6 := I3.call' (ch := fp) I6.os I6.base I6.hok I6.bare fun b hb => ⟨(f3 b hb).1.2.2.2.1, (f3 b hb).1.2.1, (f3 b hb).1.2.2.2.2.1, (f3 b hb).1.2.2.2.2.2⟩
      have nC : H5 C = none := cL ▸ (show H5 ce.locals = none from I6.free)
      obtain ⟨m, hn, _⟩ := I6.loc
      have hn : s6.heap.Ns C m := cL ▸ (show s6.heap.Ns ce.locals m from hn)
      refine ⟨m, hn, fun h'' sb => ?_⟩
      obtain ⟨g0, g1, g2, g3, g4, g5⟩ := I3.fpOk (Nat.le_of_eq hC) nC
      exact ⟨.ref D, H5, I7.turned (t' := s6.toks) (fun b o hb e => (sb.2 b hb).trans e) g0 g1 g3 g4 g5, rfl, qq⟩
    · have ti := T.item Y (by subst hY; rfl) (by subst hY; rfl) (by subst hY; rfl) (by subst hY; exact hc) i [] s5 _ H5 (fun _ _ => False) I5 (rest I5 n5) st5 go
      subst hY
      refine thnF ti fun r s6 ⟨u, hr, h6⟩ => ?_
      subst hr
      refine thnF h6 fun _ s7 ⟨x, H7, I7, r7, y7, st7, n7⟩ => ?_
      refine thnF (pg.run _ s7 _ H7 x u _ (I7.pinned (rest I7 n7) (T.obj _ _ st7)) r7 (step x H7 y7)) fun _ s8 ⟨σ8, H8, I8, hw8, q8⟩ => ?_
      refine thnF (pt.run _ s8 σ8 H8 _ I8 q8) fun b s9 ⟨H9, I9, q9⟩ => ?_
      have turned : ∀ {s' : Shared} {H' : Hp}, Inv (X.blk { s2 with heap := s2.heap.push (emptySet X.w) } H3 scope ce fp) ([] ++ pinsAt fp s7.heap) σ8 H' s' → Nx H' → ∃ m, m < n ∧ ∃ i H', Inv (X.blk { s2 with heap := s2.heap.push (emptySet X.w) } H3 scope ce fp) [] (wipe σ (own.map (·.2))) H' s' ∧ tn i s'.heap ∧ (∀ b ∈ fp, H' b = none) ∧ W i m H' := by
        intro s' H' I' nx
        obtain ⟨m', hm, w'⟩ := hNx H' nx
        have pin : ∀ b ∈ fp, ∀ o, s7.heap.get? b = some o → s'.heap.get? b = some o ∧ H' b = none := fun b hb o e =>
          let z := I'.pin (b, o) (List.mem_append_right _ (List.mem_append_right _ (mem_pinsAt hb e))); ⟨z.1, z.2.1⟩
        refine ⟨m', hm, i + 1, H', (I'.unpinned (pins := [])).weak (by rw [← hw8, wipe_length]) (fun j v e => (wipe_some (by rw [hw8]; exact e)).1), T.keep _ _ _ st7 fun b hb o e => (pin b hb o e).1, fun b hb => ?_, w'⟩
        obtain ⟨o, e, _⟩ := T.obj _ _ st7 b hb
        exact (pin b hb o e).2
      cases b with
      | false => simp only [Bool.false_eq_true, if_false] at q9 ⊢; exact turned I9 q9
      | true =>
        simp only [if_true] at q9 ⊢
        refine thnF (pe.run _ s9 σ8 H9 _ I9 q9) fun z s10 ⟨yv, H10, I10, r10, k, S0, n0, ey, hD10, few, nx⟩ => ?_
        subst ey
        obtain ⟨t, rfl⟩ := r10
        exact putInt (X := X.blk _ H3 scope ce fp) I10 hD10 few fun s11 I11 => turned I11 nx
  exact codeAny_compStart_set round (T.self X.A 0 _ _ _ st4 round)

/-- the walk over a list that the block leaves as it is -/
theorem scI_list {w : World} {K : PySem.W.Frag} {a : Addr} {xs : List V} {g : TG} {tt : TT} {te : TE} {vs : List Nat} {σ : L2.St} {H1 : Hp} {D : Addr} {Qd : Hp → Prop}
    (Pv : Nat → Hp → Prop) (h0 : Pv 0 (upd H1 D (SetO w D (fun _ => false) 0))) (hl : ∀ i H, i ≤ xs.length → Pv i H → SqL K H a xs)
    (hs : ∀ i x H, xs[i]? = some x → Pv i H → g x (wipe σ vs) H fun σ2 H2 => wipe σ2 vs = wipe σ vs ∧ tt σ2 H2 fun b H3 => if b = true then te σ2 H3 fun y H4 =>
      ∃ (k : Int) (S : Int → Bool) (n : Nat), y = .int k ∧ H4 D = some (SetO w D S n) ∧ n + 1 < scanBound ∧ Pv (i + 1) (upd H4 D (SetO w D (fun j => S j || decide (j = k)) (if S k = true then n else n + 1))) else Pv (i + 1) H3)
    (hd : ∀ H, Pv xs.length H → Qd H) :
    ∃ W : Nat → Nat → Hp → Prop, (∃ m, W 0 m (upd H1 D (SetO w D (fun _ => false) 0))) ∧ ∀ i m H, W i m H → ((Itl K a).stop i H ∧ Qd H) ∨
      ((Itl K a).go i H ∧ ∃ Nx : Hp → Prop, (∀ H', Nx H' → ∃ m', m' < m ∧ W (i + 1) m' H') ∧ ∀ x H', (Itl K a).yld i H x H' → g x (wipe σ vs) H' fun σ2 H2 => wipe σ2 vs = wipe σ vs ∧
        tt σ2 H2 fun b H3 => if b = true then te σ2 H3 fun y H4 => ∃ (k : Int) (S : Int → Bool) (n : Nat), y = .int k ∧ H4 D = some (SetO w D S n) ∧ n + 1 < scanBound ∧
          Nx (upd H4 D (SetO w D (fun j => S j || decide (j = k)) (if S k = true then n else n + 1))) else Nx H3) := by
  refine ⟨fun i m H => m + i = xs.length ∧ Pv i H, ⟨xs.length, by simp, h0⟩, ?_⟩
  rintro i m H ⟨em, p⟩
  have here := hl i H (by omega) p
  rcases Nat.lt_or_ge i xs.length with lt | ge
  · refine .inr ⟨⟨xs, xs[i], here, by simp [lt]⟩, Pv (i + 1), fun H' p' => ⟨m - 1, by omega, by omega, p'⟩, fun x H' ⟨e, y⟩ => ?_⟩
    subst e
    exact hs i x _ (y xs here) p
  · have e : i = xs.length := by omega
    subst e
    exact .inl ⟨⟨xs, here, Nat.le_refl _⟩, hd H p⟩
end addi
end Rp

namespace Rp
open PySem PySem.Spec PyProof.Rows L2 PpSet
section
variable {P : Program} {w : World} {A : Around} {E : Value → Shared → Prop} {s : Shared}
set_option maxHeartbeats 6400000 in
theorem set_of_list {l : Addr} {items : Array Value} (ns : List Int) {Q : Value → Shared → Prop} (calm : A.handled = none) (hl : s.heap.IsList l items) (hi : IntsAre items.toList ns) (few : ns.length + 1 < scanBound)
    (go : ∀ (h' : Heap) (tk c : Nat), SetR w h' s.heap.objs.size (fun j => decide (j ∈ ns)) c → c ≤ ns.length → (∀ b o, s.heap.get? b = some o → h'.get? b = some o) → Q (.ref s.heap.objs.size) { s with heap := h', toks := tk }) :
    wpAny (model P w) A (call (.type "set") [.ref l]) Q E s := by
  have cnt : items.size = ns.length := by have q := IntsAre.length hi; rwa [Array.length_toList] at q
  obtain ⟨c, tl, hmro⟩ := F.called_set.mro
  have hmade := F.called_set.made
  have hsub := F.called_set.sub
  refine wpAny_call (codeAny_of_tree ?_)
  show wpAny _ _ (callAny (.type "set") _) _ _ _
  refine wpAny_pure ⟨Code.quiet_builtin _ (by decide +kernel), codeAny_builtin F.entry_type_call ?_⟩
  rw [Around.under_plain (weight_type_call_type "set" [.ref l] []) rfl]
  have h1 := F.called_set.notType
  have h2 := F.called_set.canCreate
  have hct := F.typeCall_set_1 (.ref l)
  repeat (any_goals (first | assumption | wp_step))
  refine codeAny_mono (code_set_led1 (.ref l) (E := E) (Q₁ := fun obj z => obj = .ref s.heap.objs.size ∧ z = { s with heap := s.heap.push (emptySet w) }) ⟨rfl, rfl⟩) fun r s₁ hr => ?_
  cases r with
  | error e => exact hr
  | ok fl =>
    cases fl with
    | ret obj =>
      obtain ⟨rfl, rfl⟩ := hr
      have atNew : (s.heap.push (emptySet w)).get? s.heap.objs.size = some (emptySet w) := Heap.get?_push_size _ rfl
      have hT : Shared.TypeIs { s with heap := s.heap.push (emptySet w) } (.ref s.heap.objs.size) "set" := ⟨_, atNew, rfl⟩
      have hli := F.called_set.init.lookup
      have hbi := F.called_set.init.bind (.ref s.heap.objs.size)
      repeat (any_goals (first | assumption | wp_step))
      refine codeAny_mono (codeAny_call_builtin (R := wants (fun r z => r = .none ∧ ∃ h' tk c, z = { s with heap := h', toks := tk } ∧ SetR w h' s.heap.objs.size (fun j => decide (j ∈ ns)) c ∧ c ≤ ns.length ∧
        (∀ b o, s.heap.get? b = some o → h'.get? b = some o)) E) F.called_set.init.plain F.entry_set_init (check_set_init_1 hT ?_)) fun r₂ s₂ hr₂ => ?_
      · obtain ⟨⟨ocls, odict, odata, oslots⟩, hol, hcl, nl, hdl⟩ := hl
        simp only at hcl hdl
        subst hcl hdl
        have hol' : (s.heap.push (emptySet w)).get? l = some { cls := .type "list", dict := odict, data := .seq items nl, slots := oslots } := Heap.get?_push_of_some _ hol
        have hsls := F.sub_list_set
        have hslf := F.sub_list_frozenset
        have hne : (Value.type "list" == Value.type "dict") = false := by decide
        have here : (s.heap.push (emptySet w)).IsList l items := ⟨_, hol', rfl, nl, rfl⟩
        unfold Builtin.«set.__init__» noKeywords Builtin.Frozenset.updateFrom
        generalize hPI : pyIter = PI
        wp_walk
        subst hPI
        refine wpAny_pyIter_list here (wpAny_bind (wpAny_runValue ?_))
        have below : l < s.heap.objs.size := Heap.lt_size hol
        have top : (s.heap.push (emptySet w)).objs.size = s.heap.objs.size + 1 := Heap.size_push ..
        have apart : l ≠ (s.heap.push (emptySet w)).objs.size := by rw [top]; exact Nat.ne_of_lt (Nat.lt_succ_of_lt below)
        have out : s.heap.objs.size ∉ [(s.heap.push (emptySet w)).objs.size, l] := by
          simp only [List.mem_cons, List.not_mem_nil, or_false, not_or, top]
          exact ⟨Nat.ne_of_lt (Nat.lt_succ_self _), Nat.ne_of_gt below⟩
        have each : ∀ (i : Nat) (v : Value), items[i]? = some v → ∃ k t, ns[i]? = some k ∧ v = .int k t := by
          intro i v hv
          have lt : i < ns.length := by rw [← cnt]; exact (Array.getElem?_eq_some_iff.mp hv).1
          obtain ⟨t, e⟩ := PyProof.Rows.IntsAre.int_at hi i v (by rw [Array.getElem?_toList]; exact hv)
          exact ⟨ns[i], t, List.getElem?_eq_getElem lt, by rw [e, List.getD_eq_getElem?_getD, List.getElem?_eq_getElem lt]; rfl⟩
        refine set_update_ints ((Walks.list (by simp [calm]) _ l apart items).toS) s.heap.objs.size out ns cnt few each (items.size - 0) 0 _ (by omega) (Nat.zero_le _)
          ⟨⟨_, Heap.get?_push_size _ rfl, rfl, rfl⟩, here.push _⟩ ⟨0, Nat.le_refl 0, setR_new_at (Heap.get?_push_of_some _ atNew)⟩ fun s' c' hm hc' hS' => ?_
        obtain ⟨h', g2, d', tk', os'⟩ := s'
        have eg : g2 = s.gens := hm.gens
        have ed : d' = s.drawn := hm.drawn
        have eo : os' = s.os := hm.os
        subst eg ed eo
        show wpAny _ _ _ _ _ _
        refine wpAny_pure ?_
        show wpAny _ _ (ret Value.none) _ _ _
        refine wpAny_pure ⟨rfl, h', tk', c', rfl, hS', by omega, fun b o e => ?_⟩
        have lt := Heap.lt_size e
        exact hm.heap b o (by simp only [List.mem_cons, List.not_mem_nil, or_false, not_or, top]; exact ⟨Nat.ne_of_lt lt, Nat.ne_of_lt (Nat.lt_succ_of_lt lt)⟩) (Heap.get?_push_of_some _ (Heap.get?_push_of_some _ e))
      · cases r₂ with
        | error e => exact hr₂
        | ok fl₂ =>
          cases fl₂ with
          | ret r =>
            obtain ⟨rfl, h', tk, c', rfl, hS', hc', hk'⟩ := hr₂
            repeat (any_goals (first | assumption | wp_step))
            exact go _ _ _ hS' hc' hk'
          | _ => exact hr₂.elim
    | _ => exact hr.elim
end
section
variable {X : Cx}
theorem intsOf : ∀ {ns : List Int} {us : List Value}, Vals (ns.map V.int) us → PyProof.Rows.IntsAre us ns
  | [], _, .nil => .nil
  | n :: ns, _, .cons ⟨k, e⟩ t => by subst e; exact .cons n k (intsOf t)
/-- set(xs), xs a list of ints -/
def rSetI (K : PySem.W.Frag) (w : World) : List V → Hp → VK → Prop := fun vs H Q => ∃ (a : Addr) (ns : List Int), vs = [V.ref a] ∧ SqL K H a (ns.map V.int) ∧ ns.length < 1000 ∧
  ∀ (p : Addr) (c : Nat), H p = none → c ≤ ns.length → Q (.ref p) (upd H p (SetO w p (fun j => decide (j ∈ ns)) c))
theorem cr_setI (hc : X.calm = true) : CallR X (.type "set") (rSetI X.K X.w) := by
  intro pins s σ H vs us Q I r h
  obtain ⟨a, ns, rfl, hs, hn, q⟩ := h
  rw [Vals.ref1 r]
  obtain ⟨its, rv, pl, hz⟩ := I.list hs
  refine set_of_list ns (I.ok.hd hc) pl.isList (by simpa using intsOf rv) (by unfold scanBound; omega) fun h' tk c R hc' k => ?_
  have hn : H s.heap.objs.size = none := I.hok.fresh (Nat.le_refl _)
  exact ⟨.ref _, upd H s.heap.objs.size (SetO X.w s.heap.objs.size (fun j => decide (j ∈ ns)) c), I.laid (t' := tk) k (Nat.le_refl _) (setO_new R), rfl, q _ c hn hc'⟩
end
end Rp

namespace Rp
open PySem L2
/-! ### TERMs -/
inductive Tm where
  | v (n : Int) | z | s (t : Tm) | f (l r : Tm)
  deriving DecidableEq
namespace Tm
def size : Tm → Nat
  | v _ => 1 | z => 1 | s t => t.size + 1 | f l r => l.size + r.size + 1
def deep : Tm → Nat
  | v _ => 0 | z => 0 | s t => t.deep + 1 | f l r => max l.deep r.deep + 1
def nums : Tm → List Int
  | v n => [n] | z => [] | s t => t.nums | f l r => l.nums ++ r.nums
/-- all parts, the whole first, the right-hand ones ahead of the left-hand ones -/
def rpost : Tm → List Tm
  | v n => [v n] | z => [z] | s t => s t :: t.rpost | f l r => f l r :: (r.rpost ++ l.rpost)
def kids : Tm → List Tm
  | v _ => [] | z => [] | s t => [t] | f l r => [l, r]
theorem size_pos : ∀ t : Tm, 1 ≤ t.size
  | v _ => Nat.le_refl _ | z => Nat.le_refl _ | s _ => by unfold size; omega | f _ _ => by unfold size; omega
theorem deep_lt : ∀ t : Tm, t.deep < t.size
  | v _ => Nat.zero_lt_one | z => Nat.zero_lt_one | s t => by have := deep_lt t; unfold deep size; omega
  | f l r => by have := deep_lt l; have := deep_lt r; unfold deep size; omega
theorem rpost_len : ∀ t : Tm, t.rpost.length = t.size
  | v _ => rfl | z => rfl | s t => by unfold rpost size; rw [List.length_cons, rpost_len t]
  | f l r => by unfold rpost size; rw [List.length_cons, List.length_append, rpost_len l, rpost_len r]; omega
/-- an int among the parts -/
theorem mem_rpost (n : Int) : ∀ t : Tm, v n ∈ t.rpost ↔ n ∈ t.nums
  | v m => by unfold rpost nums; simp
  | z => by unfold rpost nums; simp
  | s t => by unfold rpost nums; have := mem_rpost n t; simp [this]
  | f l r => by unfold rpost nums; have := mem_rpost n l; have := mem_rpost n r; simp [*]; exact Or.comm
theorem rpost_kids (t : Tm) : t.rpost = t :: (t.kids.reverse.flatMap rpost) := by
  cases t <;> simp [rpost, kids]
theorem kids_size (t : Tm) : (t.kids.map size).sum + 1 = t.size := by
  cases t <;> simp [kids, size] <;> omega
theorem nums_len : ∀ t : Tm, t.nums.length ≤ t.size
  | v _ => Nat.le_refl _ | z => Nat.zero_le _ | s t => by have := nums_len t; unfold nums size; omega
  | f l r => by have := nums_len l; have := nums_len r; unfold nums size; rw [List.length_append]; omega
/-- all signs, as law's leaves has them -/
def signs : Tm → List V
  | v n => [.int n] | z => [.str "0"] | s t => .str "s" :: t.signs | f l r => .str "f" :: (l.signs ++ r.signs)
theorem signs_len : ∀ t : Tm, t.signs.length = t.size
  | v _ => rfl | z => rfl | s t => by unfold signs size; rw [List.length_cons, signs_len t]
  | f l r => by unfold signs size; rw [List.length_cons, List.length_append, signs_len l, signs_len r]
end Tm
/-- the ints of a row of ints and texts -/
def rowInts : List V → List Int
  | [] => []
  | .int n :: r => n :: rowInts r
  | _ :: r => rowInts r
theorem rowInts_append : ∀ a b : List V, rowInts (a ++ b) = rowInts a ++ rowInts b
  | [], b => rfl
  | x :: r, b => by cases x <;> simp [rowInts, rowInts_append r b]
theorem signs_nums : ∀ t : Tm, rowInts t.signs = t.nums
  | .v _ => rfl | .z => rfl | .s t => by simp [Tm.signs, Tm.nums, rowInts, signs_nums t]
  | .f l r => by simp [Tm.signs, Tm.nums, rowInts, rowInts_append, signs_nums l, signs_nums r]
/-- a row of ints and texts -/
def Flat2 : V → Prop
  | .int _ => True
  | .str _ => True
  | _ => False
theorem signs_flat : ∀ t : Tm, ∀ x ∈ t.signs, Flat2 x
  | .v _, x, h => by simp [Tm.signs] at h; subst h; trivial
  | .z, x, h => by simp [Tm.signs] at h; subst h; trivial
  | .s t, x, h => by
    simp only [Tm.signs, List.mem_cons] at h
    rcases h with h | h
    · subst h; trivial
    · exact signs_flat t x h
  | .f l r, x, h => by
    simp only [Tm.signs, List.mem_cons, List.mem_append] at h
    rcases h with h | h | h
    · subst h; trivial
    · exact signs_flat l x h
    · exact signs_flat r x h
/-! ### two rising rows of the same ints are one -/
theorem rising_one : ∀ {a b : List Int}, a.Pairwise (· < ·) → b.Pairwise (· < ·) → (∀ k, k ∈ a ↔ k ∈ b) → a = b
  | [], [], _, _, _ => rfl
  | [], y :: b, _, _, h => by have := (h y).2 (by simp); simp at this
  | x :: a, [], _, _, h => by have := (h x).1 (by simp); simp at this
  | x :: a, y :: b, ha, hb, h => by
    rw [List.pairwise_cons] at ha hb
    have exy : x = y := by
      rcases List.mem_cons.mp ((h x).1 (by simp)) with e | e
      · exact e
      · rcases List.mem_cons.mp ((h y).2 (by simp)) with e' | e'
        · exact e'.symm
        · have := hb.1 x e
          have := ha.1 y e'
          omega
    subst exy
    rw [rising_one ha.2 hb.2 fun k => ?_]
    constructor
    · intro hk
      rcases List.mem_cons.mp ((h k).1 (List.mem_cons_of_mem _ hk)) with e | e
      · have := ha.1 k hk; omega
      · exact e
    · intro hk
      rcases List.mem_cons.mp ((h k).2 (List.mem_cons_of_mem _ hk)) with e | e
      · have := hb.1 k hk; omega
      · exact e
/-! ### heaps -/
/-- all but b stays -/
def But (b : Addr) (H H' : Hp) : Prop := ∀ c o, H c = some o → c ≠ b → H' c = some o
theorem But.refl (b : Addr) (H : Hp) : But b H H := fun _ _ h _ => h
theorem But.trans {b : Addr} {H H1 H2 : Hp} (x : But b H H1) (y : But b H1 H2) : But b H H2 := fun c o h n => y c o (x c o h n) n
theorem but_of {b : Addr} {H H' : Hp} (x : Same H H') : But b H H' := fun c o h _ => x c o h
theorem same_new {H : Hp} {p : Addr} (h : H p = none) (o : HO) : Same H (upd H p o) := fun b u q => by rw [upd_ne (ne_of_none q h)]; exact q
theorem but_upd {H : Hp} {b : Addr} (o : HO) : But b H (upd H b o) := fun c u h n => by rw [upd_ne n]; exact h
/-- the box of draws: j bounds how often it was drawn from -/
structure BoxAt (H : Hp) (b : Addr) (j : Nat) : Prop where
  ex : ∃ x y z : Int, H b = some (.lst [.int x, .int y, .int z]) ∧ 0 ≤ x ∧ 0 ≤ y ∧ y < 10000000000 ∧ 0 ≤ z ∧ z ≤ (j : Int)
theorem BoxAt.same {H H' : Hp} {b : Addr} {j : Nat} (B : BoxAt H b j) (e : Same H H') : BoxAt H' b j := by
  obtain ⟨x, y, z, h, r⟩ := B.ex
  exact ⟨x, y, z, e _ _ h, r⟩
theorem BoxAt.more {H : Hp} {b : Addr} {j k : Nat} (B : BoxAt H b j) (h : j ≤ k) : BoxAt H b k := by
  obtain ⟨x, y, z, e, h1, h2, h3, h4, h5⟩ := B.ex
  exact ⟨x, y, z, e, h1, h2, h3, h4, by omega⟩
theorem BoxAt.some {H : Hp} {b : Addr} {j : Nat} (B : BoxAt H b j) : ∃ xs, H b = some (.lst xs) := by
  obtain ⟨x, y, z, e, _⟩ := B.ex
  exact ⟨_, e⟩
/-- a TERM stands as the value v -/
inductive TmAt (H : Hp) : V → Tm → Prop where
  | v (n : Int) : TmAt H (.int n) (.v n)
  | z {a : Addr} (h : H a = some (.tup [.str "0"])) : TmAt H (.ref a) .z
  | s {a : Addr} {x : V} {t : Tm} (h : H a = some (.tup [.str "s", x])) (q : TmAt H x t) : TmAt H (.ref a) (.s t)
  | f {a : Addr} {x y : V} {l r : Tm} (h : H a = some (.tup [.str "f", x, y])) (q : TmAt H x l) (q' : TmAt H y r) : TmAt H (.ref a) (.f l r)
theorem TmAt.mono {H H' : Hp} (e : ∀ a xs, H a = some (.tup xs) → H' a = some (.tup xs)) {v : V} {t : Tm} (h : TmAt H v t) : TmAt H' v t := by
  induction h with
  | v n => exact .v n
  | z h => exact .z (e _ _ h)
  | s h _ ih => exact .s (e _ _ h) ih
  | f h _ _ ih ih' => exact .f (e _ _ h) ih ih'
theorem TmAt.same {H H' : Hp} (e : Same H H') {v : V} {t : Tm} (h : TmAt H v t) : TmAt H' v t := h.mono fun a xs q => e a _ q
theorem TmAt.but {H H' : Hp} {b : Addr} {ys : List V} (e : But b H H') (hb : H b = some (.lst ys)) {v : V} {t : Tm} (h : TmAt H v t) : TmAt H' v t :=
  h.mono fun a xs q => e a _ q (ne_of q hb (by intro z; cases z))
/-! ### what is alike, kind by kind (to a depth) -/
def Plain : V → Prop
  | .non => True
  | .bl _ => True
  | .int _ => True
  | .str _ => True
  | _ => False
def Alike (H : Hp) : Nat → V → V → Prop
  | 0, x, y => Plain x ∧ x = y
  | n + 1, x, y => (Plain x ∧ x = y) ∨ ∃ a b xs ys, x = .ref a ∧ y = .ref b ∧ ((H a = some (.lst xs) ∧ H b = some (.lst ys)) ∨ (H a = some (.tup xs) ∧ H b = some (.tup ys))) ∧
      xs.length = ys.length ∧ xs.length ≤ 1000000 ∧ ∀ (i : Nat) (u v : V), xs[i]? = some u → ys[i]? = some v → Alike H n u v
theorem Alike.mono {H H' : Hp} (e : Same H H') : ∀ (n : Nat) {x y : V}, Alike H n x y → Alike H' n x y
  | 0, _, _, h => by unfold Alike at h ⊢; exact h
  | n + 1, x, y, h => by
    unfold Alike at h ⊢
    rcases h with h | ⟨a, b, xs, ys, h1, h2, h3, h4, h5, h6⟩
    · exact .inl h
    · exact .inr ⟨a, b, xs, ys, h1, h2, h3.imp (fun q => ⟨e _ _ q.1, e _ _ q.2⟩) (fun q => ⟨e _ _ q.1, e _ _ q.2⟩), h4, h5, fun i u v p q => Alike.mono e n (h6 i u v p q)⟩
theorem alike_ints {H : Hp} {n : Nat} {a b : Addr} {ns : List Int} (ha : H a = some (.lst (ns.map V.int))) (hb : H b = some (.lst (ns.map V.int))) (hl : ns.length ≤ 1000000) : Alike H (n + 1) (.ref a) (.ref b) := by
  unfold Alike
  refine .inr ⟨a, b, _, _, rfl, rfl, .inl ⟨ha, hb⟩, rfl, by rw [List.length_map]; exact hl, fun i u v h1 h2 => ?_⟩
  have e : u = v := Option.some.inj (h1.symm.trans h2)
  subst e
  rw [List.getElem?_map] at h1
  cases q : ns[i]? with
  | none => rw [q] at h1; cases h1
  | some k =>
    rw [q] at h1
    cases h1
    cases n with
    | zero => unfold Alike; exact ⟨trivial, rfl⟩
    | succ n => unfold Alike; exact .inl ⟨trivial, rfl⟩
end Rp

/-! Defs whose body asks for the repr of lists and tuples: their promise is kept where no repr is at work (the around's guards are told to be none), and so where the law itself is called. -/
namespace Rp
open PySem PySem.Spec PyProof.Rows L2
structure GnOk (P : Program) (w : World) (K : PySem.W.Frag) (mg : Str → Option Value) (base : Heap) (k : Nat) (f : Addr) (fd : FuncData) (ps : List Str) (sp : Sp) : Prop where
  len : ∀ vs H Q E, sp vs H Q E → vs.length = ps.length
  run : ∀ (A : Around) (outer : List Env) (s : Shared) (H : Hp) (args : Args) (us : List Value) (vs : List V) (Q : VK) (E : XK), A.guards = some [] → Room k A → Env0 P w K mg base A outer s H → BindsTo s fd args (ps.zip us) → Vals vs us → sp vs H Q E →
    codeAny (model P w) A (.call (.ref f) args) (CR CX0 outer P w H s Q E) s
section
variable {P : Program} {w : World} {K : PySem.W.Frag} {mg : Str → Option Value} {base : Heap}
/-- a def by its body, the guards told -/
theorem gok {x qual : Str} {st : Stmt} {f : Addr} {fd : FuncData} {N ps : List Str} {k : Nat} {sp : Sp} (F : Fun K x qual st f fd) (S : FnScope N ps (defScope st)) (len : ∀ vs H Q E, sp vs H Q E → vs.length = ps.length)
    (walk : ∀ (cdv : Value) (A : Around) (outer : List Env) (s : Shared) (H : Hp) (vs : List V) (Q : VK) (E : XK), A.guards = some [] → Room k (A.deeper (envOfC qual (defScope st) s.heap.objs.size f cdv)) → sp vs H Q E →
      ∃ t, PSs (cxOf CX0 P w K mg base N qual (defScope st) f cdv A outer s H E).nox (defBody st) t ∧ t { nx := fun _ H' => Q .non H', rt := Q } (start N vs) H) : GnOk P w K mg base (k + 1) f fd ps sp := by
  obtain ⟨oc, od, kV, doc, pm, an, cdv, ct, osl, rfl, lk, hcd⟩ := F.ex
  refine ⟨len, fun A outer s H args us vs Q E hg hr e0 hb r hsp => ?_⟩
  have K0 : K.In s.heap := e0.mod.kin.keeps fun b o e => (e0.bs b o e).1
  have L0 : s.heap.NoLimit := e0.mod.nolimit.keeps fun b o e => (e0.bs b o e).1
  have each : ∀ y ∈ ps.zip us, (defScope st).names.lookup y.1 = some .local ∨ ((defScope st).names.lookup y.1 = some .cell ∧ ((cellsFrom (s.heap.objs.size + 1) (defScope st).names []).lookup y.1).isSome = true) := by
    rintro ⟨n, v⟩ hy
    exact (S.par n (List.of_mem_zip hy).1).imp id fun q => ⟨q, PySem.W.cellsFrom_some _ _ _ (.inl q)⟩
  refine codeAny_call_function hr.depth (K0 _ _ lk) rfl S.co S.gen rfl (PySem.W.codeRec_of K0 hcd) (hb _ _ _ _ (wpAny_newFunctionEnv_cells S.kind each fun env he s1 z => ?_))
  subst he
  refine ⟨L0.keeps z.toInCall.keep, codeAny_func ?_⟩
  obtain ⟨t, ht, hq⟩ := walk cdv A outer s H vs Q E hg (hr.deeper _) hsp
  have I : L2.Inv (cxOf CX0 P w K mg base N qual (defScope st) f cdv A outer s H E) [] (start N vs) H s1 := inv_start S hr.hd e0 (len _ _ _ _ hsp) r z
  refine wpAny_mono (ht.nox.run [] s1 (start N vs) H _ I hq) (fun fl s' hs => ?_) fun e s' hs => hs
  rcases fl with _ | _ | _ | u
  · obtain ⟨_, H', J, q⟩ := hs
    exact ⟨V.non, H', J.os, J.bare, J.base, J.hok, rfl, q⟩
  · exact hs.choose_spec.choose_spec.2.elim
  · exact hs.choose_spec.choose_spec.2.elim
  · obtain ⟨v, _, H', J, rv, q⟩ := hs
    exact ⟨v, H', J.os, J.bare, J.base, J.hok, rv, q⟩
end
section
variable {X : Cx} {k : Nat} {f : Addr} {fd : FuncData} {ps : List Str} {sp : Sp} {E : XK} {x : Str} {p pos : Pos} {e : Expr} {es : List Expr} {t : TA}
theorem pe_callG (F : GnOk X.prog X.w X.K X.mg X.base k f fd ps sp) (hgd : X.A.guards = some []) (hr : Room k X.A) (hg : Gl X x) (hm : X.mg x = some (.ref f)) (hk : PySem.W.keepIn X.K (.ref f) = true) (hb : Binds X.K fd ps []) (ha : PA X (e :: es) t)
    (hdb : (x == ("__debug__" : Str)) = false := by decide) (he : starEach (e :: es) X.env = (false, eval e X.env) :: starEach es X.env := by rfl) (hpl : (backTo pos (starEach es X.env)).any (·.1) = false := by rfl) :
    PE X (.Call (.Name x p) (e :: es) [] pos) (tCall sp [] E0 t) := by
  refine ⟨fun pins s σ H Q I h => wpAny_Call_Name_kw (ld_glob I hg hm ?_ hdb)⟩
  refine PySem.W.callWith_K (h₀ := X.base) I.ok.mod.kin hk (thn (ha.run pos pins s σ H _ I h) fun us s1 ⟨vs, H1, I1, r, q⟩ => ⟨I1.kIn, ?_⟩) he hpl
  have q : sp vs H1 Q E0 := by
    have z : sp (vs ++ []) H1 Q E0 := q
    rwa [List.append_nil] at z
  have hl : us.length = ps.length := r.length.symm.trans (F.len _ _ _ _ q)
  have hb' := hb s1 us I1.kIn (by rw [List.append_nil]; exact hl)
  rw [List.append_nil] at hb'
  refine wpAny_call (codeAny_mono (F.run X.A X.stack s1 H1 ⟨us, []⟩ us vs Q E0 hgd hr I1.env0 hb' r q) fun r' s' hq => ?_)
  rcases r' with e' | fl
  · exact hq.elim
  · rcases fl with _ | _ | _ | u
    · exact hq.elim
    · exact hq.elim
    · exact hq.elim
    · exact I1.after hq
/-- repr(v), v data at any depth -/
def rReprD (K : PySem.W.Frag) : List V → Hp → VK → Prop := fun vs H Q => ∃ (v : V) (d : PyData), vs = [v] ∧ Dp K H v d ∧ d.showable = true ∧ d.hasDict = false ∧ d.depth ≤ 64 ∧ d.shown.length ≤ sizeLine ∧ Q (.str d.shown) H
theorem cr_reprD (hgd : X.A.guards = some []) (hu : X.A.units + 66 < cLine) : CallR X (.builtin "repr") (rReprD X.K) := by
  intro pins s σ H vs us Q I r h
  obtain ⟨v, d, rfl, hd, sh, nd, dp, sz, q⟩ := h
  obtain ⟨u, rfl, ru⟩ := vals1 r
  obtain ⟨as, rd⟩ := Dp.reads I d v u hd ru
  cases hd with
  | non => cases ru; exact PySem.P.repr_of_none ⟨.str "None", H, I.tok _, ⟨_, rfl⟩, by simpa [PyData.shown] using q⟩
  | bl b => cases ru; exact PySem.P.repr_of_bool ⟨.str (if b then "True" else "False"), H, I.tok _, ⟨_, rfl⟩, by simpa [PyData.shown] using q⟩
  | int i =>
    obtain ⟨t, rfl⟩ := ru
    exact PySem.P.repr_of_int (by simpa [PyData.showable] using sh) ⟨.str (toString i), H, I.tok _, ⟨_, rfl⟩, by simpa [PyData.shown] using q⟩
  | str x =>
    obtain ⟨t, rfl⟩ := ru
    exact PySem.P.repr_of_str ⟨.str (reprText x), H, I.tok _, ⟨_, rfl⟩, by simpa [PyData.shown] using q⟩ (by simpa [PyData.shown] using sz)
  | lst a b =>
    cases ru
    exact PySem.repr_of_reads' rd sh (fun e => by rw [nd] at e; cases e) hgd (by omega) (fun _ _ e => e) (fun h' u tk k => ⟨.str _, H, I.kept (t' := tk) k, ⟨u, rfl⟩, q⟩) sz
  | tup a b =>
    cases ru
    exact PySem.repr_of_reads' rd sh (fun e => by rw [nd] at e; cases e) hgd (by omega) (fun _ _ e => e) (fun h' u tk k => ⟨.str _, H, I.kept (t' := tk) k, ⟨u, rfl⟩, q⟩) sz
end
/-- the law's own call, its promise with the guards told -/
theorem law_callG {P : Program} {w : World} {K : PySem.W.Frag} {mg mb : Str → Option Value} {k : Nat} {fa a : Addr} {fd : FuncData} {x : Str} {sp : Sp} {s₁ : Shared} {vs : List Value} {ns : List Int}
    (KX : K.In s₁.heap) (hns : s₁.heap.Ns mainGlobals mg) (hb : s₁.heap.Ns builtinsNs mb) (hbb : ∀ x : Str, x ≠ "__name__" → mb x = bootBuiltins x) (hlim : s₁.heap.NoLimit) (hg : s₁.gens = #[])
    (ha : s₁.heap.get? a = some { cls := .type "list", data := .seq vs.toArray }) (hi : IntsAre vs ns) (hl : ns.length ≤ sizeLine) (hr : Room k callerA)
    (F : ∀ base : Heap, K.In base → base.Ns mainGlobals mg → GnOk P w K mg base k fa fd [x] sp) (bind : ∀ (s : Shared) (u : Value), BindsTo s fd ⟨[u], []⟩ [(x, u)])
    (ask : ∀ H : Hp, Only H → SqL K H a (ns.map V.int) → sp [.ref a] H (fun v _ => v = .bl true) E0) :
    codeAny (model P w) callerA (.call (.ref fa) ⟨[.ref a], []⟩) (fun r s' => r = .ok (.ret (.bool true)) ∧ OldK s₁.heap s'.heap ∧ s'.os = s₁.os ∧ AllBare s'.gens) s₁ := by
  have rv := vals_ints hi
  have lenV := hi.length
  have from_ : ∀ H : Hp, Only H → SqL K H a (ns.map V.int) → HOk P w H s₁.heap → (∀ b, H b ≠ none → b = a ∧ K.lookup a = none) →
      codeAny (model P w) callerA (.call (.ref fa) ⟨[.ref a], []⟩) (fun r s' => r = .ok (.ret (.bool true)) ∧ OldK s₁.heap s'.heap ∧ s'.os = s₁.os ∧ AllBare s'.gens) s₁ := by
    intro H only hS hok hA
    have free : ∀ {b : Addr} {o : Obj}, s₁.heap.get? b = some o → (b = a → False) → H b = none := fun {b o} _ n => by
      cases q : H b with
      | none => rfl
      | some u => exact (n (hA b (by rw [q]; simp)).1).elim
    have low : ∀ {b : Addr} {o : Obj}, s₁.heap.get? b = some o → H b = none → (hidT s₁.heap H).get? b = some o := fun e n => hidT_get e n
    have names : ∀ {b : Addr} {m : Str → Option Value}, s₁.heap.Ns b m → (hidT s₁.heap H).Ns b m := fun {b m} ⟨o, es, ep, e, d, r⟩ =>
      ⟨o, es, ep, low e (free e fun z => by subst z; rw [ha] at e; cases e; cases d), d, r⟩
    have hK : K.In (hidT s₁.heap H) := fun b o e => low (KX b o e) (by
      cases q : H b with
      | none => rfl
      | some u =>
        obtain ⟨z, zk⟩ := hA b (by rw [q]; simp)
        subst z
        rw [zk] at e; cases e)
    have M : Mod K mg (hidT s₁.heap H) := ⟨hK, names hns, ⟨mb, names hb, hbb⟩, let ⟨mc, h1, h2⟩ := hlim; ⟨mc, names h1, h2⟩⟩
    have e0 : Env0 P w K mg (hidT s₁.heap H) callerA [] s₁ H := ⟨rfl, M, fun b o e => of_hidT e, Nat.le_of_eq (hidT_size _ _), trivial, fun b z => absurd (show b ∈ ([] : List Addr) from z) (by simp), hok, .of_eq hg⟩
    refine codeAny_mono ((F _ hK (names hns)).run callerA [] s₁ H ⟨[.ref a], []⟩ [.ref a] [.ref a] _ _ rfl hr e0 (bind s₁ (.ref a)) (.cons rfl .nil) (ask H only hS)) fun r s' h => ?_
    rcases r with e | fl
    · exact h.elim
    · rcases fl with _ | _ | _ | u
      · exact h.elim
      · exact h.elim
      · exact h.elim
      · obtain ⟨v, H', os, bare, un, hok', r', q⟩ := h
        obtain rfl : v = .bl true := q
        obtain rfl : u = Value.bool true := r'
        refine ⟨rfl, OldK.of_keep fun b o e => ?_, os, bare⟩
        cases q : H b with
        | none => exact un.keep b o e q (by intro z; exact absurd (show b ∈ ([] : List Addr) from z) (by simp)) (by simp)
        | some u =>
          rcases only b with z | ⟨ob, xs, z⟩
          · rw [q] at z; cases z
          · obtain ⟨e1, _⟩ := hok b _ z
            obtain ⟨e2, _⟩ := hok' b _ (un.frzs b ob _ z)
            rw [e] at e1; cases e1
            exact e2
  cases hk : K.lookup a with
  | some o =>
    have e := KX a o hk
    rw [ha] at e
    cases e
    exact from_ (fun _ => none) (fun _ => .inl rfl) (.inr ⟨_, vs.toArray, _, hk, rfl, rfl, rfl, by rw [List.size_toArray, lenV]; exact hl, by simpa using rv⟩) (fun b u z => nomatch (show (none : Option HO) = some u from z)) fun b z => absurd rfl z
  | none =>
    have at_ : ∀ b, (fun b => if b = a then some (HO.frz { cls := .type "list", data := .seq vs.toArray } (.lst (ns.map V.int))) else none) b ≠ none → b = a := fun b z => by
      by_cases hb : b = a
      · exact hb
      · exact absurd (if_neg hb) z
    refine from_ _ (fun b => ?_) (.inl (.inr ⟨_, if_pos rfl⟩)) (fun b u z => ?_) fun b z => ⟨at_ b z, hk⟩
    · by_cases hb : b = a
      · exact .inr ⟨_, _, if_pos hb⟩
      · exact .inl (if_neg hb)
    · have hb := at_ b (fun e => by have y := z.symm.trans e; cases y)
      subst hb
      have z' := (if_pos rfl).symm.trans z
      cases z'
      exact ⟨ha, by rw [List.length_map]; exact hl, vs, _, rv, ha⟩
theorem walk_ofG {l : PySem.W.OpenLaw} {n k : Nat} {q : Program} {loose : List Str} {XP : (Str → Option Value) → Heap → Prop} {YP : World → Heap → Prop} {d : DefRec} {K : Params → PySem.W.Frag} {sp : PySem.W.Frag → Sp} {x : Str}
    (hn : l.most = some n) (hn2 : n ≤ sizeLine) (hdf : d.params.defaults = []) (hr : Room k callerA) (hY : ∀ (w : World) (h : Heap), YP w h → (K w.params).In h)
    (F : ∀ (w : World) (mg : Str → Option Value) (fa : Addr) (h : Heap), (K w.params).In h → h.Ns mainGlobals mg → mg d.name = some (.ref fa) →
      ∃ fd : FuncData, (∀ (s : Shared) (u : Value), BindsTo s fd ⟨[u], []⟩ [(x, u)]) ∧ ∀ base : Heap, (K w.params).In base → base.Ns mainGlobals mg → GnOk l.prog w (K w.params) mg base k fa fd [x] (sp (K w.params)))
    (ask : ∀ (K : PySem.W.Frag) (H : Hp) (a : Addr) (ns : List Int), ns.length ≤ n → Only H → SqL K H a (ns.map V.int) → sp K [.ref a] H (fun v _ => v = .bl true) E0) :
    PySem.W.WalkO q loose XP YP l.row.toRowW d [] (fun f vs => PySem.call f vs) := by
  refine Att.attach_call hn hdf fun w s₀ s₁ mg mb fa o pm cd doc a vs ns G Y ho hd hcd hmg hobj hints hlen hg => ?_
  obtain ⟨fd, hb, hF⟩ := F w mg fa _ (hY w _ Y) G.T.g hmg
  exact law_callG (hY w _ Y) G.T.g G.T.b G.T.builtins G.T.nolimit hg hobj hints (Nat.le_trans hlen hn2) hr hF hb fun H hO hS => ask _ H a ns hlen hO hS
end Rp

namespace Rp
open PySem L2
def top (i : Nat) : Stmt := PySem.Challenge.pw_ringproofs_k36_charts_as_texts.main.body.getD i (.Pass ⟨0, 0, 0, 0⟩)
abbrev sNumber : Stmt := top 7
abbrev sPlace : Stmt := top 8
abbrev sVariable : Stmt := top 9
abbrev sShape : Stmt := top 10
abbrev sTerm : Stmt := top 11
abbrev sParts : Stmt := top 12
abbrev sInside : Stmt := top 14
abbrev sFold : Stmt := top 15
abbrev sIsPair : Stmt := top 16
abbrev sIsBinding : Stmt := top 17
abbrev sIsName : Stmt := top 21
abbrev sIsAtom : Stmt := top 22
abbrev sTextOf : Stmt := top 25
abbrev sTermText : Stmt := top 26
abbrev sNumberOf : Stmt := top 27
abbrev sFromSigns : Stmt := top 28
abbrev sTermOrNone : Stmt := top 29
abbrev sBindingText : Stmt := top 30
abbrev sPairIn : Stmt := top 31
abbrev sBindingOrNone : Stmt := top 32
abbrev sAtomText : Stmt := top 34
abbrev sAtomOr : Stmt := top 35
abbrev sAtomsText : Stmt := top 36
abbrev sAtomsOr : Stmt := top 37
abbrev sUnlike : Stmt := top 40
abbrev sIsSaying : Stmt := top 41
abbrev sSayingText : Stmt := top 45
abbrev sSayingOr : Stmt := top 46
abbrev sIsStep : Stmt := top 48
abbrev sStepText : Stmt := top 51
abbrev sNumberOr : Stmt := top 52
abbrev sPartsC : Stmt := top 53
abbrev sStepOr : Stmt := top 55
abbrev sChartText : Stmt := top 56
abbrev sChartIn : Stmt := top 57
abbrev sBox : Stmt := top 59
abbrev sTake : Stmt := top 60
abbrev sPick : Stmt := top 61
abbrev sSame : Stmt := top 62
abbrev sNames : Stmt := top 63
abbrev sTermL : Stmt := top 64
abbrev sUnlikeL : Stmt := top 65
abbrev sText : Stmt := top 66
abbrev sLawAT : Stmt := top 67
abbrev sShapes : Stmt := top 68
abbrev sAtomL : Stmt := top 69
abbrev sSayingL : Stmt := top 70
abbrev sLawBT : Stmt := top 71
abbrev sPuts : Stmt := top 72
abbrev sSayingW : Stmt := top 73
abbrev sStepW : Stmt := top 74
abbrev sWild : Stmt := top 75
abbrev sKnown : Stmt := top 76
abbrev sBad : Stmt := top 77
abbrev sChartW : Stmt := top 78
abbrev sRight : Stmt := top 79
abbrev sLaw : Stmt := top 80
end Rp

namespace Rp
open PySem L2
/-! ### promises -/
def spBox (K : PySem.W.Frag) : Sp := fun vs H Q _ => ∃ (a : Addr) (ns : List Int) (k : Int), vs = [.ref a, .int k] ∧ SqL K H a (ns.map V.int) ∧ ns.length ≤ 63 ∧ 0 ≤ k ∧ k ≤ 63 ∧
  ∀ (b : Addr) (H' : Hp), H b = none → BoxAt H' b 0 → Same H H' → Q (.ref b) H'
def spTake : Sp := fun vs H Q _ => ∃ (b : Addr) (c : Int) (j : Nat), vs = [.ref b, .int c] ∧ BoxAt H b j ∧ j ≤ 1000000 ∧ 1 ≤ c ∧ c ≤ 1000000000 ∧
  ∀ (r : Int) (H' : Hp), 0 ≤ r → r < c → BoxAt H' b (j + 1) → But b H H' → Q (.int r) H'
def spPick : Sp := fun vs H Q _ => ∃ (b p : Addr) (xs : List V) (j : Nat), vs = [.ref b, .ref p] ∧ BoxAt H b j ∧ j ≤ 1000000 ∧ H p = some (.lst xs) ∧ p ≠ b ∧ 1 ≤ xs.length ∧ xs.length ≤ 1000000 ∧
  ∀ (v : V) (H' : Hp), v ∈ xs → BoxAt H' b (j + 1) → But b H H' → Q v H'
section
variable {P : Program} {w : World} {K : PySem.W.Frag} {mg : Str → Option Value} {base : Heap}
theorem fmod_pos {a c : Int} (h : 0 < c) : 0 ≤ a.fmod c ∧ a.fmod c < c := by
  rw [Int.fmod_eq_emod_of_nonneg a (Int.le_of_lt h)]
  exact ⟨Int.emod_nonneg a (by omega), Int.emod_lt_of_pos a h⟩
theorem fdiv_pos {a c : Int} (h : 0 < c) (ha : 0 ≤ a) : 0 ≤ a.fdiv c := by
  rw [Int.fdiv_eq_ediv_of_nonneg a (Int.le_of_lt h)]
  exact Int.ediv_nonneg ha (Int.le_of_lt h)
theorem scBox : FnScope ["_law_script", "_law_k", "_law_cell"] ["_law_script", "_law_k"] (defScope sBox) := ⟨rfl, rfl, rfl, by decide +kernel, rfl, by decide +kernel, by decide +kernel⟩
theorem ok_box {f : Addr} {fd : FuncData} (F : Fun K "_law_box" "_law_box" sBox f fd) (mLen : mg "len" = none) (mAbs : mg "abs" = none) (mInt : mg "int" = none) :
    FnOk P w K mg base CX0 1 f fd ["_law_script", "_law_k"] (spBox K) := by
  refine F.ok scBox (fun vs H Q E h => ?_) (fun cdv A outer s H vs Q E hr h => ?_)
  · obtain ⟨a, ns, k, rfl, _⟩ := h
    rfl
  obtain ⟨a, ns, k, rfl, hS, hl, h0, h1, q⟩ := h
  refine ⟨_, pss_cons (ps_set (i := 2) scBox.nd rfl (Or.inl rfl) pe_int)
    (pss_cons (ps_if (pt_cmpR op_lt (pv 1) (pe_callB call_len_seq (by rfl) mLen PySem.boot_len (pa_cons (pv 0) pa_nil)) (nomark _))
      (pss_one (ps_set (i := 2) scBox.nd rfl (Or.inl rfl) (pe_ix ix_list (pv 0) (pv 1) (fun _ _ => rfl)))) pss_nil)
    (pss_one (ps_ret (pe_lst (pa_cons
      (pe_op op_mul (pe_callB call_abs (by rfl) mAbs (by decide +kernel) (pa_cons (pv 2) pa_nil))
        (pe_callTy call_int1 (by rfl) mInt (by decide +kernel) (pa_cons (pe_cmpR op_ge (pe_callB call_abs (by rfl) mAbs (by decide +kernel) (pa_cons (pv 2) pa_nil)) (pe_op op_pow pe_int pe_int) (nomark _)) pa_nil)))
      (pa_cons (pe_op op_add (pe_op op_add (pe_op op_modN (pv 2) pe_int) (pe_op op_mul pe_int (pv 1))) pe_int) (pa_cons pe_int pa_nil))))))), ?_⟩
  refine ⟨_, rfl, _, rfl, a, _, rfl, .inl hS, _, _, rfl, rfl, _, rfl, ?_⟩
  have two : ∀ (b : Bool), -(2 ^ 64) < (if b = true then (1 : Int) else 0) ∧ (if b = true then (1 : Int) else 0) < 2 ^ 64 ∧ 0 ≤ (if b = true then (1 : Int) else 0) := by decide
  have pos : ∀ c : Int, 0 ≤ if c < 0 then -c else c := fun c => by split <;> omega
  have m := fun c : Int => fmod_pos (a := c) (c := 2147483629) (by decide)
  refine ite2 (fun c => ?_) (fun c => ?_)
  · have hk : k.toNat < ns.length := by
      have z : k < (((ns.map V.int).length : Nat) : Int) := of_decide_eq_true c
      rw [List.length_map] at z
      omega
    have it : atI (ns.map V.int) k = some (.int ns[k.toNat]) := at_of (j := k.toNat) (by omega) (by rw [List.getElem?_map, List.getElem?_eq_getElem hk]; rfl)
    refine ⟨_, rfl, _, rfl, a, _, _, _, rfl, rfl, hS, it, ?_⟩
    refine ⟨_, rfl, _, rfl, _, rfl, _, rfl, _, _, rfl, rfl, ⟨by decide, by decide, by decide⟩, _, _, rfl, rfl, .inr ⟨_, rfl, ?_⟩⟩
    refine ⟨_, _, rfl, rfl, .inr ⟨(two _).1, (two _).2.1⟩, _, rfl, _, _, rfl, rfl, (fun h => absurd h (by decide)), _, rfl, _, _, rfl, rfl, .inl ⟨by decide, by decide⟩, _, _, rfl, rfl, _, _, rfl, rfl, (by show 3 ≤ sizeLine; decide), fun b hb => ?_⟩
    have mm := m ns[k.toNat]
    exact q b _ hb ⟨_, _, _, upd_same, Int.mul_nonneg (pos _) (two _).2.2, by omega, by omega, by decide, by decide⟩ (same_new hb _)
  · refine ⟨_, rfl, _, rfl, _, rfl, _, rfl, _, _, rfl, rfl, ⟨by decide, by decide, by decide⟩, _, _, rfl, rfl, .inr ⟨_, rfl, ?_⟩⟩
    refine ⟨_, _, rfl, rfl, .inr ⟨(two _).1, (two _).2.1⟩, _, rfl, _, _, rfl, rfl, (fun h => absurd h (by decide)), _, rfl, _, _, rfl, rfl, .inl ⟨by decide, by decide⟩, _, _, rfl, rfl, _, _, rfl, rfl, (by show 3 ≤ sizeLine; decide), fun b hb => ?_⟩
    have mm := m 0
    exact q b _ hb ⟨_, _, _, upd_same, Int.mul_nonneg (pos _) (two _).2.2, by omega, by omega, by decide, by decide⟩ (same_new hb _)
theorem scTake : FnScope ["_law_box_here", "_law_reach", "_law_found", "_law_once"] ["_law_box_here", "_law_reach"] (defScope sTake) := ⟨rfl, rfl, rfl, by decide +kernel, rfl, by decide +kernel, by decide +kernel⟩
theorem ok_take {f : Addr} {fd : FuncData} (F : Fun K "_law_take" "_law_take" sTake f fd) : FnOk P w K mg base CX0 1 f fd ["_law_box_here", "_law_reach"] spTake := by
  refine F.ok scTake (fun vs H Q E h => ?_) (fun cdv A outer s H vs Q E hr h => ?_)
  · obtain ⟨b, c, j, rfl, _⟩ := h
    rfl
  obtain ⟨b, c, j, rfl, B, hj, h1, h2, q⟩ := h
  obtain ⟨x, y, z, hb, x0, y0, y1, z0, z1⟩ := id B
  have s0 : SqL K H b [.int x, .int y, .int z] := .inl (.inl hb)
  have a0 : ∀ u v t : Int, atI [V.int u, .int v, .int t] 0 = some (.int u) := fun u v t => at_of (j := 0) rfl rfl
  have a1 : ∀ u v t : Int, atI [V.int u, .int v, .int t] 1 = some (.int v) := fun u v t => at_of (j := 1) rfl rfl
  have a2 : ∀ u v t : Int, atI [V.int u, .int v, .int t] 2 = some (.int t) := fun u v t => at_of (j := 2) rfl rfl
  refine ⟨_, pss_cons (ps_if (pt_cmpR op_gt (pe_ix ix_list (pv 0) pe_int (fun _ _ => rfl)) pe_int (nomark _))
      (pss_cons (ps_set (i := 2) scTake.nd rfl (Or.inl rfl) (pe_op op_modN (pe_ix ix_list (pv 0) pe_int (fun _ _ => rfl)) (pv 1)))
      (pss_cons (ps_asg (pe_op op_fdivN (pe_ix ix_list (pv 0) pe_int (fun _ _ => rfl)) (pv 1)) (pg_sub (pv 0) pe_int set_list))
      (pss_one (ps_ret (pv 2))))) pss_nil)
    (pss_cons (ps_asg (pe_op op_add (pe_ix ix_list (pv 0) pe_int (fun _ _ => rfl)) pe_int) (pg_sub (pv 0) pe_int set_list))
    (pss_cons (ps_set (i := 3) scTake.nd rfl (Or.inl rfl) (pe_op op_modN (pe_op op_pow (pe_op op_add (pe_ix ix_list (pv 0) pe_int (fun _ _ => rfl)) (pe_op op_mul pe_int (pe_ix ix_list (pv 0) pe_int (fun _ _ => rfl)))) pe_int) pe_int))
    (pss_one (ps_ret (pe_op op_modN (pe_op op_fdivN (pe_op op_modN (pe_op op_add (pe_op op_mul (pv 3) (pe_op op_add (pe_op op_modN (pv 3) pe_int) pe_int)) (pe_op op_mul (pe_ix ix_list (pv 0) pe_int (fun _ _ => rfl)) pe_int)) pe_int) pe_int) (pv 1)))))), ?_⟩
  refine ⟨_, rfl, b, _, _, _, rfl, rfl, s0, a0 _ _ _, _, _, rfl, rfl, _, rfl, ?_⟩
  refine ite2 (fun d => ?_) (fun d => ?_)
  · refine ⟨_, rfl, b, _, _, _, rfl, rfl, s0, a0 _ _ _, _, rfl, _, _, rfl, rfl, (by omega), ?_⟩
    refine ⟨_, rfl, b, _, _, _, rfl, rfl, s0, a0 _ _ _, _, rfl, _, _, rfl, rfl, ⟨by omega, by omega⟩, ?_⟩
    refine ⟨_, rfl, b, _, _, 0, rfl, rfl, hb, rfl, ?_⟩
    have m := fmod_pos (a := x) (c := c) (by omega)
    exact ⟨_, rfl, q _ _ m.1 m.2 ⟨_, _, _, upd_same, fdiv_pos (by omega) x0, y0, y1, z0, by omega⟩ (but_upd _)⟩
  · refine ⟨_, rfl, b, _, _, _, rfl, rfl, s0, a2 _ _ _, _, _, rfl, rfl, ?_⟩
    refine ⟨_, rfl, b, _, _, 2, rfl, rfl, hb, rfl, ?_⟩
    have hb' : (upd H b (.lst [.int x, .int y, .int (z + 1)])) b = some (.lst [.int x, .int y, .int (z + 1)]) := upd_same
    have s1 : SqL K (upd H b (.lst [.int x, .int y, .int (z + 1)])) b [.int x, .int y, .int (z + 1)] := .inl (.inl hb')
    refine ⟨_, rfl, b, _, _, _, rfl, rfl, s1, a1 _ _ _, _, rfl, b, _, _, _, rfl, rfl, s1, a2 _ _ _, _, _, rfl, rfl, .inl ⟨by decide, by decide⟩, _, _, rfl, rfl, _, _, rfl, rfl, ⟨by decide, by decide, by omega⟩, _, _, rfl, rfl, (fun h => absurd h (by decide)), ?_⟩
    generalize (y + 39373 * (z + 1)) ^ Int.toNat 5 = g
    have m := fmod_pos (a := g) (c := 2147483647) (by decide)
    refine ⟨_, rfl, _, rfl, _, _, rfl, rfl, (fun h => absurd h (by decide)), _, _, rfl, rfl, _, _, rfl, rfl, .inl ⟨by omega, by omega⟩, _, rfl, b, _, _, _, rfl, rfl, s1, a2 _ _ _, _, _, rfl, rfl, .inl ⟨by omega, by omega⟩, _, _, rfl, rfl, _, _, rfl, rfl, (fun h => absurd h (by decide)), _, _, rfl, rfl, ⟨by decide, by decide⟩, _, rfl, _, _, rfl, rfl, (by omega), ?_⟩
    generalize Int.fdiv _ _ = e
    have m2 := fmod_pos (a := e) (c := c) (by omega)
    exact q _ _ m2.1 m2.2 ⟨_, _, _, upd_same, x0, y0, y1, by omega, by omega⟩ (but_upd _)
theorem scPick : FnScope ["_law_box_here", "_law_things"] ["_law_box_here", "_law_things"] (defScope sPick) := ⟨rfl, rfl, rfl, by decide +kernel, rfl, by decide +kernel, by decide +kernel⟩
theorem ok_pick {f fT : Addr} {fd fdT : FuncData} (F : Fun K "_law_pick" "_law_pick" sPick f fd) (FT : Fun K "_law_take" "_law_take" sTake fT fdT) (bT : Binds K fdT ["_law_box_here", "_law_reach"] []) (mT : mg "_law_take" = some (.ref fT)) (mLen : mg "len" = none) :
    FnOk P w K mg base CX0 2 f fd ["_law_box_here", "_law_things"] spPick := by
  have GT : FnOk P w K mg base CX0 1 fT fdT ["_law_box_here", "_law_reach"] spTake := ok_take FT
  refine F.ok scPick (fun vs H Q E h => ?_) (fun cdv A outer s H vs Q E hr h => ?_)
  · obtain ⟨b, p, xs, j, rfl, _⟩ := h
    rfl
  obtain ⟨b, p, xs, j, rfl, B, hj, hp, ne, l1, l2, q⟩ := h
  refine ⟨_, pss_one (ps_ret (pe_ix ix_list (pv 1) (pe_call GT hr rfl mT FT.kp bT .nil pass0 (pa_cons (pv 0) (pa_cons (pe_callB call_len_seq (by rfl) mLen PySem.boot_len (pa_cons (pv 1) pa_nil)) pa_nil))) (fun _ _ => rfl))), ?_⟩
  refine ⟨_, rfl, _, rfl, _, rfl, p, _, rfl, .inl (.inl (.inl hp)), b, _, j, rfl, B, hj, by omega, by omega, fun r H' r0 r1 B' o => ?_⟩
  have hr' : r.toNat < xs.length := by omega
  refine ⟨p, _, _, _, rfl, rfl, .inl (.inl (o _ _ hp ne)), at_of (j := r.toNat) (v := xs[r.toNat]) (by omega) (List.getElem?_eq_getElem hr'), ?_⟩
  exact q _ _ (List.getElem_mem hr') B' o
end
end Rp

namespace Rp
open PySem L2
section
variable {P : Program} {w : World} {K : PySem.W.Frag} {mg : Str → Option Value} {base : Heap}
theorem none_left {k : Nat} {f : Addr} {fd : FuncData} {ps : List Str} {sp : Sp} (no : ∀ vs H Q E, ¬ sp vs H Q E) : FnOk P w K mg base CX0 k f fd ps sp :=
  ⟨fun vs H Q E h => absurd h (no vs H Q E), fun A outer s H args us vs Q E _ _ _ _ h => absurd h (no vs H Q E)⟩
theorem v1_ne {x y : Int} (c : ¬ decide (V.int x = V.int y) = true) : x ≠ y := fun e => c (by rw [e]; simp)
theorem v1_eq {x y : Int} (c : decide (V.int x = V.int y) = true) : x = y := V.int.inj (of_decide_eq_true c)
theorem big1000 : (1000 : Nat) ≤ sizeLine := by decide
end
end Rp

namespace Rp
open PySem L2
/-- the value of a TERM is an int or a tuple that stands -/
theorem TmAt.ty {K : PySem.W.Frag} {H : Hp} {v : V} {t : Tm} (h : TmAt H v t) : (∃ n, v = .int n ∧ t = .v n) ∨ (∃ a xs, v = .ref a ∧ H a = some (.tup xs) ∧ TyX K H v (.type "tuple") ∧ (∀ n, t ≠ .v n)) := by
  cases h with
  | v n => exact .inl ⟨n, rfl, rfl⟩
  | z h => exact .inr ⟨_, _, rfl, h, .base (.tup h), fun n e => by cases e⟩
  | s h _ => exact .inr ⟨_, _, rfl, h, .base (.tup h), fun n e => by cases e⟩
  | f h _ _ => exact .inr ⟨_, _, rfl, h, .base (.tup h), fun n e => by cases e⟩
def signHead : Tm → Str
  | .v _ => "" | .z => "0" | .s _ => "s" | .f _ _ => "f"
/-- a TERM that is no variable: its tuple, its parts -/
theorem TmAt.tupled {H : Hp} {v : V} {t : Tm} (h : TmAt H v t) (no : ∀ n, t ≠ .v n) : ∃ a ks, v = .ref a ∧ H a = some (.tup (.str (signHead t) :: ks)) ∧ ks.length = t.kids.length ∧ ∀ (i : Nat) (x : V) (k : Tm), ks[i]? = some x → t.kids[i]? = some k → TmAt H x k := by
  cases h with
  | v n => exact absurd rfl (no n)
  | z h => exact ⟨_, [], rfl, h, rfl, fun i x k h => by simp at h⟩
  | @s a x t h q =>
    refine ⟨_, [x], rfl, h, rfl, fun i y k h1 h2 => ?_⟩
    cases i with
    | zero => simp [Tm.kids] at h1 h2; subst h1 h2; exact q
    | succ i => simp at h1
  | @f a x y l r h q q' =>
    refine ⟨_, [x, y], rfl, h, rfl, fun i u k h1 h2 => ?_⟩
    match i with
    | 0 => simp [Tm.kids] at h1 h2; subst h1 h2; exact q
    | 1 => simp [Tm.kids] at h1 h2; subst h1 h2; exact q'
    | i + 2 => simp at h1
theorem signs_kids : ∀ {t : Tm}, (∀ n, t ≠ .v n) → t.signs = .str (signHead t) :: t.kids.flatMap Tm.signs
  | .v n, h => absurd rfl (h n)
  | .z, _ => rfl
  | .s t, _ => by simp [Tm.signs, Tm.kids, signHead]
  | .f l r, _ => by simp [Tm.signs, Tm.kids, signHead]
theorem kid_deep {t k : Tm} (h : k ∈ t.kids) : k.deep < t.deep := by
  cases t with
  | v n => simp [Tm.kids] at h
  | z => simp [Tm.kids] at h
  | s t => simp [Tm.kids] at h; subst h; exact Nat.lt_succ_self _
  | f l r =>
    simp [Tm.kids] at h
    rcases h with h | h <;> subst h <;> (simp only [Tm.deep]; omega)
theorem kid_size {t k : Tm} (h : k ∈ t.kids) : k.size < t.size := by
  cases t with
  | v n => simp [Tm.kids] at h
  | z => simp [Tm.kids] at h
  | s t => simp [Tm.kids] at h; subst h; exact Nat.lt_succ_self _
  | f l r =>
    simp [Tm.kids] at h
    rcases h with h | h <;> subst h <;> (simp only [Tm.size]; omega)
theorem take_flat {t : Tm} (i : Nat) : ((t.kids.take i).flatMap Tm.signs).length ≤ t.size := by
  cases t with
  | v n => simp [Tm.kids]
  | z => simp [Tm.kids]
  | s t =>
    match i with
    | 0 => simp
    | i + 1 => simp [Tm.kids, Tm.signs_len, Tm.size]
  | f l r =>
    match i with
    | 0 => simp
    | 1 => simp [Tm.kids, Tm.signs_len, Tm.size]; try omega
    | i + 2 => simp [Tm.kids, Tm.signs_len, Tm.size]; try omega
theorem cut_tail (x : V) (ks : List V) : cutV (x :: ks) (some 1) none = ks := by
  have e : HT.sIx (x :: ks).length 0 (some 1) = 1 := by
    have := HT.sIx_nat (x :: ks).length 0 1
    rw [List.length_cons] at this ⊢
    rw [show (some 1 : Option Int) = some ((1 : Nat) : Int) from rfl, this]
    omega
  unfold cutV
  rw [e, HT.sIx_none, List.drop_one, List.tail_cons, List.take_of_length_le (by simp)]
theorem cut_part (x : V) (ks : List V) : ¬ (HT.sIx (x :: ks).length 0 (some 1) = 0 ∧ HT.sIx (x :: ks).length (x :: ks).length none = (x :: ks).length) := by
  have := HT.sIx_nat (x :: ks).length 0 1
  rw [List.length_cons] at this ⊢
  rw [show (some 1 : Option Int) = some ((1 : Nat) : Int) from rfl, this]
  omega
section
variable {P : Program} {w : World} {K : PySem.W.Frag} {mg : Str → Option Value} {base : Heap}
theorem kit_ii : PySem.W.kitOne K (.type "int") (.type "int") = some true := kit_ty (by decide +kernel)
theorem kit_ti : PySem.W.kitOne K (.type "tuple") (.type "int") = some false := kit_ty (by decide +kernel)
theorem kit_si : PySem.W.kitOne K (.type "str") (.type "int") = some false := kit_ty (by decide +kernel)
end
end Rp

namespace Rp
open PySem PySem.Spec PyProof.Rows L2
/-- list.extend by any tuple object -/
theorem extend_by (l : Addr) (xs : Array Value) (n : Nat) (b : Addr) (od : Option Addr) (ys : Array Value) (m : Nat) (sl : Array (Option Value)) (short : ¬(!xs.isEmpty && Builtin.List.listTooLong (xs.size + ys.size)) = true) (h1 : xs.size ≤ sizeLine) (h2 : xs.size + ys.size ≤ sizeLine + 1) :
    Meets (Builtin.«list.extend» ⟨[.ref l, .ref b], []⟩) (fun _ R s => s.heap.get? l = some { cls := .type "list", data := .seq xs n } ∧ s.heap.get? b = some ⟨.type "tuple", od, .seq ys m, sl⟩ ∧
      R (.ok (.ret Value.none)) { s with heap := s.heap.update l (Obj.mapSeq fun x => x ++ ys) }) :=
  .of_wp fun prog w A R s ⟨hl, hb, h⟩ => by
    obtain ⟨hp, g, d, tk, os⟩ := s
    have g1 := sub_list_list
    have g2 := sub_tuple_list
    have g3 := sub_tuple_tuple
    have g4 := sub_list_tuple
    have both : (xs ++ ys).size ≤ sizeLine + 1 := by rw [Array.size_append]; exact h2
    wp_walk using (wpAny_updateSeq hl rfl (hz := h1) (_hz' := both)), wpAny_loadPart' hl, wpAny_loadPart' hb
    exact ⟨_, rfl, h⟩
section
variable {X : Cx}
/-- xs.extend(t), t a tuple -/
def rExtT (K : PySem.W.Frag) : V → List V → Hp → VK → Prop := fun x vs H Q => ∃ (l b : Addr) (xs zs : List V), x = .ref l ∧ vs = [.ref b] ∧ H l = some (.lst xs) ∧ SqT K H b zs ∧ xs.length + zs.length ≤ sizeLine ∧ Q .non (upd H l (.lst (xs ++ zs)))
theorem mt_extendT : MtM X "list.extend" (rExtT X.K) := by
  intro pins s σ H x vs v us Q I rx rv h
  obtain ⟨l, b, xs, zs, rfl, rfl, hH, hB, few, q⟩ := h
  cases rx
  obtain ⟨u, rfl, ru⟩ := rv.one
  cases ru
  obtain ⟨z, its, n, r, hl, e⟩ := I.lstM hH
  obtain ⟨its2, r2, ⟨⟨c2, d2, dat2, sl2⟩, e2, hc2, n2, hd2⟩, hz2⟩ := I.tuple hB
  simp only at hc2 hd2
  subst hc2 hd2
  have l1 := r.length
  have l2 := r2.length
  have room : its.toArray.size + its2.toArray.size ≤ sizeLine := by rw [List.size_toArray, List.size_toArray]; omega
  have short : ¬ (!its.toArray.isEmpty && Builtin.List.listTooLong (its.toArray.size + its2.toArray.size)) = true := by
    rw [notLongL room, Bool.and_false]; exact Bool.false_ne_true
  refine call_meets PySem.F.slot_list_extend ⟨_, e, rfl⟩ PySem.F.entry_list_extend (PySem.F.args_list_extend_2 _ _) (extend_by l its.toArray n b d2 its2.toArray n2 sl2 short (by rw [List.size_toArray]; omega) (by omega)) ⟨e, e2, ?_⟩
  refine ⟨.non, _, I.lset (its' := its ++ its2) (t' := s.toks) hH e (by simp) (r.append r2) ?_, rfl, q⟩
  rw [List.length_append]; omega
end
end Rp

namespace Rp
open PySem L2
/-- values and TERMs side by side -/
def AllAt (H : Hp) : List V → List Tm → Prop
  | [], [] => True
  | x :: xs, t :: ts => TmAt H x t ∧ AllAt H xs ts
  | _, _ => False
theorem AllAt.len {H : Hp} : ∀ {xs : List V} {ts : List Tm}, AllAt H xs ts → xs.length = ts.length
  | [], [], _ => rfl
  | x :: xs, t :: ts, h => congrArg (· + 1) (AllAt.len h.2)
theorem AllAt.append {H : Hp} : ∀ {xs ys : List V} {ts us : List Tm}, AllAt H xs ts → AllAt H ys us → AllAt H (xs ++ ys) (ts ++ us)
  | [], _, [], _, _, h => h
  | x :: xs, _, t :: ts, _, h, h' => ⟨h.1, AllAt.append h.2 h'⟩
theorem AllAt.parted {H : Hp} : ∀ {xs ys : List V} {ts : List Tm}, AllAt H (xs ++ ys) ts → ∃ t1 t2, ts = t1 ++ t2 ∧ AllAt H xs t1 ∧ AllAt H ys t2
  | [], _, ts, h => ⟨[], ts, rfl, trivial, h⟩
  | x :: xs, ys, t :: ts, h => by
    obtain ⟨t1, t2, e, h1, h2⟩ := AllAt.parted (xs := xs) h.2
    exact ⟨t :: t1, t2, by rw [e]; rfl, ⟨h.1, h1⟩, h2⟩
theorem AllAt.mono {H H' : Hp} (e : ∀ a xs, H a = some (.tup xs) → H' a = some (.tup xs)) : ∀ {xs : List V} {ts : List Tm}, AllAt H xs ts → AllAt H' xs ts
  | [], [], _ => trivial
  | x :: xs, t :: ts, h => ⟨h.1.mono e, AllAt.mono e h.2⟩
theorem AllAt.back {H : Hp} : ∀ {xs : List V} {ts : List Tm}, AllAt H xs ts → AllAt H xs.reverse ts.reverse
  | [], [], _ => trivial
  | x :: xs, t :: ts, h => by
    rw [List.reverse_cons, List.reverse_cons]
    exact (AllAt.back h.2).append ⟨h.1, trivial⟩
theorem AllAt.get {H : Hp} : ∀ {xs : List V} {ts : List Tm} {i : Nat} {x : V}, AllAt H xs ts → xs[i]? = some x → ∃ t, ts[i]? = some t ∧ TmAt H x t
  | x :: xs, t :: ts, 0, y, h, e => by simp at e; subst e; exact ⟨t, rfl, h.1⟩
  | x :: xs, t :: ts, i + 1, y, h, e => by simpa using AllAt.get h.2 (by simpa using e)
theorem AllAt.of {H : Hp} : ∀ {xs : List V} {ts : List Tm}, xs.length = ts.length → (∀ (i : Nat) (x : V) (k : Tm), xs[i]? = some x → ts[i]? = some k → TmAt H x k) → AllAt H xs ts
  | [], [], _, _ => trivial
  | x :: xs, t :: ts, l, h => ⟨h 0 x t rfl rfl, AllAt.of (by simpa using l) fun i y k a b => h (i + 1) y k (by simpa using a) (by simpa using b)⟩
def spParts : Sp := fun vs H Q _ => ∃ (v : V) (t : Tm), vs = [v] ∧ TmAt H v t ∧ ∀ (p : Addr) (ks : List V) (H' : Hp), H p = none → H' p = some (.tup ks) → AllAt H' ks t.kids → Same H H' → Q (.ref p) H'
def spInside : Sp := fun vs H Q _ => ∃ (v : V) (t : Tm), vs = [v] ∧ TmAt H v t ∧ t.size ≤ 1000 ∧ ∀ (p : Addr) (xs : List V) (H' : Hp), H p = none → H' p = some (.lst xs) → AllAt H' xs t.rpost.reverse → Same H H' → Q (.ref p) H'
def spSize : Sp := fun vs H Q _ => ∃ (v : V) (t : Tm), vs = [v] ∧ TmAt H v t ∧ t.size ≤ 1000 ∧ ∀ H', Same H H' → Q (.int (t.size : Nat)) H'
def spVars : Sp := fun vs H Q _ => ∃ (v : V) (t : Tm), vs = [v] ∧ TmAt H v t ∧ t.size ≤ 60 ∧ ∀ (p : Addr) (ns : List Int) (H' : Hp), H p = none → H' p = some (.lst (ns.map V.int)) → ns.Pairwise (· < ·) → (∀ k, k ∈ ns ↔ k ∈ t.nums) → Same H H' → Q (.ref p) H'
section
variable {P : Program} {w : World} {K : PySem.W.Frag} {mg : Str → Option Value} {base : Heap}
theorem scParts : FnScope ["term"] ["term"] (defScope sParts) := ⟨rfl, rfl, rfl, by decide +kernel, rfl, by decide +kernel, by decide +kernel⟩
theorem ok_parts {f : Addr} {fd : FuncData} (F : Fun K "_parts" "_parts" sParts f fd) (mIsi : mg "isinstance" = none) (mInt : mg "int" = none) : FnOk P w K mg base CX0 1 f fd ["term"] spParts := by
  refine F.ok scParts (fun vs H Q E h => ?_) (fun cdv A outer s H vs Q E hr h => ?_)
  · obtain ⟨v, t, rfl, _⟩ := h
    rfl
  obtain ⟨v, t, rfl, T, q⟩ := h
  refine ⟨_, pss_one (ps_ret (pe_ifExp (pt_val (pe_callB call_isi (by rfl) mIsi (by decide +kernel) (pa_cons (pv 0) (pa_cons (pe_bltn (v := .ty "int") (by rfl) mInt (by decide +kernel) rfl) pa_nil)))) (pe_tup pa_nil) (pe_slice sl_tup (pv 0) (po_some pe_int) po_none))), ?_⟩
  rcases T.ty (K := K) with ⟨m, rfl, rfl⟩ | ⟨a, xs, rfl, ha, ty, no⟩
  · refine ⟨_, rfl, _, _, _, _, true, rfl, .ty "int", .base (.int m), kit_ii, true, rfl, iteT ?_⟩
    exact ⟨(by show 0 ≤ sizeLine; decide), fun p hp => q p [] _ hp upd_same trivial (same_new hp _)⟩
  · obtain ⟨a', ks, e, ha', hk, hks⟩ := T.tupled no
    cases e
    refine ⟨_, rfl, _, _, _, _, false, rfl, .ty "int", ty, kit_ti, false, rfl, iteF ?_⟩
    refine ⟨_, rfl, 1, rfl, a, _, rfl, .inl (.inl ha'), cut_part _ _, fun p hp => ?_⟩
    rw [cut_tail]
    have s1 := same_new hp (.tup ks)
    exact q p ks _ hp upd_same (AllAt.of hk fun i x k a b => (hks i x k a b).same s1) s1
theorem scInside : FnScope ["term", "found", "todo", "part"] ["term"] (defScope sInside) := ⟨rfl, rfl, rfl, by decide +kernel, rfl, by decide +kernel, by decide +kernel⟩
/-- how many parts are still to come -/
def leftOf (n : Nat) (σ : List (Option V)) (H : Hp) : Nat := match σ with
  | _ :: some (V.ref p) :: _ => (match H p with
    | some (HO.lst xs) => n - xs.length
    | _ => 0)
  | _ => 0
theorem leftOf_is {n : Nat} {v : Option V} {p : Addr} {r : List (Option V)} {H : Hp} {xs : List V} (h : H p = some (.lst xs)) : leftOf n (v :: some (.ref p) :: r) H = n - xs.length := by
  unfold leftOf
  simp [h]
theorem ok_inside {f fP : Addr} {fd fdP : FuncData} (F : Fun K "inside_out" "inside_out" sInside f fd) (FP : Fun K "_parts" "_parts" sParts fP fdP) (bP : Binds K fdP ["term"] []) (mP : mg "parts_terms" = some (.ref fP)) (mIsi : mg "isinstance" = none) (mInt : mg "int" = none) :
    FnOk P w K mg base CX0 2 f fd ["term"] spInside := by
  have GP : FnOk P w K mg base CX0 1 fP fdP ["term"] spParts := ok_parts FP mIsi mInt
  refine F.ok scInside (fun vs H Q E h => ?_) (fun cdv A outer s H vs Q E hr h => ?_)
  · obtain ⟨v, t, rfl, _⟩ := h
    rfl
  obtain ⟨v, t, rfl, T, hz, q⟩ := h
  refine ⟨_, pss_cons (ps_set (i := 1) scInside.nd rfl (Or.inl rfl) (pe_lst pa_nil))
    (pss_cons (ps_set (i := 2) scInside.nd rfl (Or.inl rfl) (pe_lst (pa_cons (pv 0) pa_nil)))
    (pss_cons (ps_while PassesOwn.never (pt_truth (pv 2) (by intro _; rfl))
      (pss_cons (ps_set (i := 3) scInside.nd rfl (Or.inl rfl) (pe_bm0 PySem.F.plainAttrs_list PySem.F.slot_list_pop PySem.F.type_list_pop mt_pop (pv 2)))
      (pss_cons (ps_expr (pe_bm PySem.F.plainAttrs_list PySem.F.slot_list_append PySem.F.type_list_append mt_append (pv 1) (pa_cons (pv 3) pa_nil)))
      (pss_one (ps_expr (pe_bm PySem.F.plainAttrs_list PySem.F.slot_list_extend PySem.F.type_list_extend mt_extendT (pv 2) (pa_cons (pe_call GP hr rfl mP FP.kp bP .nil pass0 (pa_cons (pv 3) pa_nil)) pa_nil)))))))
    (pss_one (ps_ret (pe_revL (pv 1)))))), ?_⟩
  refine ⟨(by show 0 ≤ sizeLine; decide), fun p hp => ?_⟩
  refine ⟨_, rfl, (by show 1 ≤ sizeLine; decide), fun d hd => ?_⟩
  have s1 := same_new hp (.lst [])
  have s2 := same_new hd (.lst [v])
  have s12 : Same H _ := s1.trans s2
  have pd : p ≠ d := ne_of_none upd_same hd
  dsimp only [gName, tSeq]
  refine while_by (fun σ H2 => ∃ (fxs txs : List V) (fs ts : List Tm) (x : Option V), σ = [some v, some (.ref p), some (.ref d), x] ∧ H2 p = some (.lst fxs) ∧ H2 d = some (.lst txs) ∧ AllAt H2 fxs fs ∧ AllAt H2 txs ts ∧ fs ++ ts.reverse.flatMap Tm.rpost = t.rpost ∧ Same H H2)
    (leftOf t.size) ⟨[], [v], [], [t], none, rfl, s2 _ _ upd_same, upd_same, trivial, ⟨T.same s12, trivial⟩, by simp, s12⟩ ?_ (fun σ H Q Q' m ⟨v, hv, k, hk, q⟩ => ⟨v, hv, k, hk, m _ _ q⟩)
  rintro σ H2 ⟨fxs, txs, fs, ts, x, rfl, h1, h2, A1, A2, eq, sH⟩
  refine ⟨_, rfl, !txs.isEmpty, .inl ⟨txs, .inl (.inl h2), rfl⟩, ?_⟩
  have tot := congrArg List.length eq
  rw [List.length_append, Tm.rpost_len, ← A1.len] at tot
  rcases List.eq_nil_or_concat txs with e | ⟨M, y, e⟩
  · subst e
    refine iteF ?_
    have e2 : ts = [] := by have := A2.len; cases ts with | nil => rfl | cons => simp at this
    subst e2
    have e3 : fs = t.rpost := by simpa using eq
    subst e3
    refine ⟨_, rfl, p, _, rfl, .inl (.inl h1), fun r hr2 => ?_⟩
    have s3 := same_new hr2 (.lst fxs.reverse)
    refine q r _ _ (sH.free hr2) upd_same (A1.back.mono fun a xs z => s3 _ _ z) (sH.trans s3)
  · rw [List.concat_eq_append] at e
    subst e
    have ne : (!(M ++ [y]).isEmpty) = true := by simp
    rw [ne]
    refine iteT ?_
    obtain ⟨L, k', e2, AM, Ay⟩ := A2.parted
    subst e2
    obtain ⟨k, rfl, Tk⟩ : ∃ k, k' = [k] ∧ TmAt H2 y k := by
      match k', Ay with
      | [k], Ay => exact ⟨k, rfl, Ay.1⟩
    have ek : fs ++ (k :: (k.kids.reverse.flatMap Tm.rpost ++ L.reverse.flatMap Tm.rpost)) = t.rpost := by
      rw [← eq]
      simp [Tm.rpost_kids k]
    have room : fxs.length < t.size := by
      have := congrArg List.length ek
      rw [List.length_append, Tm.rpost_len, ← A1.len, List.length_cons] at this
      omega
    have big := big1000
    -- part = todo.pop()
    refine ⟨_, rfl, .inl ⟨rfl, _, .inl (.inl h2)⟩, d, _, y, rfl, rfl, h2, by simp, ?_⟩
    rw [List.dropLast_concat]
    have dp : d ≠ p := fun z => pd z.symm
    have t3 : ∀ a xs, H2 a = some (.tup xs) → upd H2 d (.lst M) a = some (.tup xs) := fun a xs z => by rw [upd_ne (ne_of z h2 (by intro z; cases z))]; exact z
    -- found.append(part)
    refine ⟨_, rfl, .inl ⟨rfl, fxs, .inl (.inl (by rw [upd_ne pd]; exact h1))⟩, _, rfl, p, fxs, y, rfl, rfl, (by rw [upd_ne pd]; exact h1), by omega, ?_⟩
    have h1' : (upd (upd H2 d (.lst M)) p (.lst (fxs ++ [y]))) p = some (.lst (fxs ++ [y])) := upd_same
    have h2' : (upd (upd H2 d (.lst M)) p (.lst (fxs ++ [y]))) d = some (.lst M) := by rw [upd_ne dp]; exact upd_same
    have t4 : ∀ a xs, H2 a = some (.tup xs) → (upd (upd H2 d (.lst M)) p (.lst (fxs ++ [y]))) a = some (.tup xs) := fun a xs z => by
      rw [upd_ne (ne_of z h1 (by intro z; cases z))]; exact t3 a xs z
    have pn : H p = none := hp
    have dn : H d = none := s1.free hd
    have sH4 : Same H (upd (upd H2 d (.lst M)) p (.lst (fxs ++ [y]))) := fun b o z => by
      rw [upd_ne (ne_of_none z pn), upd_ne (ne_of_none z dn)]; exact sH b o z
    -- todo.extend(_parts(part))
    refine ⟨_, rfl, .inl ⟨rfl, M, .inl (.inl h2')⟩, _, rfl, y, k, rfl, Tk.mono t4, fun g ks H5 hg h5 A5 s5 => ?_⟩
    have kl := A5.len
    have lim : M.length + ks.length ≤ sizeLine := by
      have a1 := congrArg List.length ek
      have a2 : k.kids.length ≤ 2 := by cases k <;> simp [Tm.kids]
      have a3 : L.length ≤ (L.reverse.flatMap Tm.rpost).length := by
        have : ∀ l : List Tm, l.length ≤ (l.flatMap Tm.rpost).length := by
          intro l
          induction l with
          | nil => simp
          | cons z l ih => rw [List.flatMap_cons, List.length_append, Tm.rpost_len, List.length_cons]; have := Tm.size_pos z; omega
        have := this L.reverse
        rwa [List.length_reverse] at this
      have a4 := AM.len
      rw [List.length_append, List.length_cons, List.length_append, Tm.rpost_len] at a1
      have a5 : (1000 : Nat) + 1000 ≤ sizeLine := by decide
      omega
    refine ⟨d, g, M, ks, rfl, rfl, s5 _ _ h2', .inl (.inl h5), lim, ?_⟩
    have h1'' := s5 _ _ h1'
    have t6 : ∀ a xs, H5 a = some (.tup xs) → upd H5 d (.lst (M ++ ks)) a = some (.tup xs) := fun a xs z => by rw [upd_ne (ne_of z (s5 _ _ h2') (by intro z; cases z))]; exact z
    have t7 : ∀ a xs, H2 a = some (.tup xs) → upd H5 d (.lst (M ++ ks)) a = some (.tup xs) := fun a xs z => t6 a xs (s5 _ _ (t4 a xs z))
    have h1d : (upd H5 d (.lst (M ++ ks))) p = some (.lst (fxs ++ [y])) := by rw [upd_ne pd]; exact h1''
    refine ⟨⟨fxs ++ [y], M ++ ks, fs ++ [k], L ++ k.kids, some y, rfl, h1d, upd_same, (A1.mono t7).append ⟨Tk.mono t7, trivial⟩, (AM.mono t7).append (A5.mono t6), ?_, ?_⟩, ?_⟩
    · rw [← ek]; simp
    · intro b o z
      rw [upd_ne (ne_of_none z dn)]
      exact s5 _ _ (sH4 b o z)
    · show leftOf t.size (some v :: some (.ref p) :: _) _ < leftOf t.size (some v :: some (.ref p) :: _) H2
      rw [leftOf_is h1d, leftOf_is h1, List.length_append, List.length_singleton]
      omega
end
end Rp

namespace Rp
open PySem L2 RZ
/-- [.. for a, b in zip(xs, ys)], both lists or both tuples, as long -/
theorem lc_pairs {J : It} {xs ys : List V} {g : TG} {tt : TT} {te : TE} {vs : List Nat} {σ : L2.St} {H1 : Hp} {D : Addr} {Qd : Hp → Prop} (same : xs.length = ys.length) (Pv : Nat → Hp → Prop)
    (stops : ∀ H, Pv xs.length H → J.stop xs.length H) (goes : ∀ i H, i < xs.length → Pv i H → J.go i H)
    (gives : ∀ i H v H', Pv i H → J.yld i H v H' → ∃ T x y, v = .ref T ∧ xs[i]? = some x ∧ ys[i]? = some y ∧ H T = none ∧ H' = upd H T (.tup [x, y]))
    (h0 : Pv 0 (upd H1 D (.lst [])))
    (hs : ∀ (i : Nat) (x y : V) (T : Addr) (H : Hp), xs[i]? = some x → ys[i]? = some y → Pv i H → H T = none → g (.ref T) (wipe σ vs) (upd H T (.tup [x, y])) fun σ2 H2 => wipe σ2 vs = wipe σ vs ∧
      tt σ2 H2 fun b H3 => if b = true then te σ2 H3 fun y H4 => ∃ acc, H4 D = some (.lst acc) ∧ acc.length < sizeLine ∧ Pv (i + 1) (upd H4 D (.lst (acc ++ [y]))) else Pv (i + 1) H3)
    (hd : ∀ H, Pv xs.length H → Qd H) :
    ∃ W : Nat → Nat → Hp → Prop, (∃ m, W 0 m (upd H1 D (.lst []))) ∧ ∀ i m H, W i m H → (J.stop i H ∧ Qd H) ∨
      (J.go i H ∧ ∃ Nx : Hp → Prop, (∀ H', Nx H' → ∃ m', m' < m ∧ W (i + 1) m' H') ∧ ∀ x H', J.yld i H x H' → g x (wipe σ vs) H' fun σ2 H2 => wipe σ2 vs = wipe σ vs ∧
        tt σ2 H2 fun b H3 => if b = true then te σ2 H3 fun y H4 => ∃ acc, H4 D = some (.lst acc) ∧ acc.length < sizeLine ∧ Nx (upd H4 D (.lst (acc ++ [y]))) else Nx H3) := by
  refine ⟨fun i m H => m + i = xs.length ∧ Pv i H, ⟨xs.length, by simp, h0⟩, ?_⟩
  rintro i m H ⟨em, p⟩
  rcases Nat.lt_or_ge i xs.length with lt | ge
  · refine .inr ⟨goes i H lt p, Pv (i + 1), fun H' p' => ⟨m - 1, by omega, by omega, p'⟩, fun v H' y => ?_⟩
    obtain ⟨T, x, y', rfl, hx, hy, hT, rfl⟩ := gives i H v H' p y
    exact hs i x y' T H hx hy p hT
  · have e : i = xs.length := by omega
    subst e
    exact .inl ⟨stops H p, hd H p⟩
def spSame (n : Nat) : Sp := fun vs H Q _ => ∃ (x y : V) (m : Nat), vs = [x, y] ∧ n = m + 1 ∧ Alike H m x y ∧ ∀ H', Same H H' → Q (.bl true) H'
section
variable {P : Program} {w : World} {K : PySem.W.Frag} {mg : Str → Option Value} {base : Heap}
structure SameG (mg : Str → Option Value) : Prop where
  isi : mg "isinstance" = none
  list : mg "list" = none
  tuple : mg "tuple" = none
  len : mg "len" = none
  all : mg "all" = none
  zip : mg "zip" = none
  str : mg "str" = none
  int : mg "int" = none
  bool : mg "bool" = none
theorem scSame : FnScope ["_law_found", "_law_due", "_law_one", "_law_two"] ["_law_found", "_law_due"] (defScope sSame) := ⟨rfl, rfl, rfl, by decide +kernel, rfl, by decide +kernel, by decide +kernel⟩
theorem kitB_of {K : PySem.W.Frag} {a b : String} {r : Bool} (h : kitB a b = some r) : PySem.W.kitOne K (.type a) (.type b) = some r := h
theorem kit_lt {K : PySem.W.Frag} {a : String} {p r : Bool} (h1 : kitB a "list" = some p) (h2 : kitB a "tuple" = some r) : PySem.W.kitAny K (.type a) [.type "list", .type "tuple"] = some (p || r) := by
  refine kitAny_cons (kitB_of h1) (fun e => ?_) (fun e => by rw [e]; rfl)
  refine kitAny_cons (kitB_of h2) (fun e2 => by rw [e, e2]; exact kitAny_nil) (fun e2 => by rw [e, e2]; rfl)
theorem ok_same {n : Nat} {f : Addr} {fd : FuncData} (F : Fun K "_law_same" "_law_same" sSame f fd) (b2 : Binds K fd ["_law_found", "_law_due"] []) (mF : mg "_law_same" = some (.ref f)) (G : FnOk P w K mg base CX0 n f fd ["_law_found", "_law_due"] (spSame n)) (M : SameG mg) :
    FnOk P w K mg base CX0 (n + 1) f fd ["_law_found", "_law_due"] (spSame (n + 1)) := by
  refine F.ok scSame (fun vs H Q E h => ?_) (fun cdv A outer s H vs Q E hr h => ?_)
  · obtain ⟨x, y, m, rfl, _⟩ := h
    rfl
  obtain ⟨x, y, m, rfl, em, hA, q⟩ := h
  have em : n = m := by omega
  subst em
  refine ⟨_, pss_cons (ps_if (pt_val (pe_callB (id := "isinstance") call_isiT (by rfl) M.isi (by decide +kernel) (pa_cons (pv 1) (pa_cons (pe_tup (pa_cons (pe_bltn (v := .ty "list") (by rfl) M.list (by decide +kernel) rfl) (pa_cons (pe_bltn (v := .ty "tuple") (by rfl) M.tuple (by decide +kernel) rfl) pa_nil))) pa_nil))))
      (pss_cons (ps_if (PW.pt (pw_or (pt_cmpR op_ne
            (pe_callB (id := "isinstance") call_isi (by rfl) M.isi (by decide +kernel) (pa_cons (pv 0) (pa_cons (pe_bltn (v := .ty "list") (by rfl) M.list (by decide +kernel) rfl) pa_nil)))
            (pe_callB (id := "isinstance") call_isi (by rfl) M.isi (by decide +kernel) (pa_cons (pv 1) (pa_cons (pe_bltn (v := .ty "list") (by rfl) M.list (by decide +kernel) rfl) pa_nil))) (nomark _))
          (pw_or1 (pt_cmpR op_ne
            (pe_callB (id := "isinstance") call_isi (by rfl) M.isi (by decide +kernel) (pa_cons (pv 0) (pa_cons (pe_bltn (v := .ty "tuple") (by rfl) M.tuple (by decide +kernel) rfl) pa_nil)))
            (pe_callB (id := "isinstance") call_isi (by rfl) M.isi (by decide +kernel) (pa_cons (pv 1) (pa_cons (pe_bltn (v := .ty "tuple") (by rfl) M.tuple (by decide +kernel) rfl) pa_nil))) (nomark _))))) (pss_one (ps_ret pe_bl)) pss_nil)
      (pss_cons (ps_if (pt_cmpR op_ne (pe_callB call_len_seq (by rfl) M.len PySem.boot_len (pa_cons (pv 0) pa_nil)) (pe_callB call_len_seq (by rfl) M.len PySem.boot_len (pa_cons (pv 1) pa_nil)) (nomark _)) (pss_one (ps_ret pe_bl)) pss_nil)
      (pss_one (ps_ret (pe_callB (cr_all rfl) (by rfl) M.all (by decide +kernel) (pa_cons (pe_lc (own := [("_law_one", 2), ("_law_two", 3)]) (g := gTup K 2 (gCons (gName 2) (gCons (gName 3) gNil))) (tt := tYes) (te := tCall (spSame n) [] E0 (tCons (tVar 2) (tCons (tVar 3) tNil))) rfl scSame.nd
        (pi_zipA (by rfl) M.zip (pa_cons (pv 0) (pa_cons (pv 1) pa_nil))) (blkOk_by (N := ["_law_found", "_law_due", "_law_one", "_law_two"]) (sc := defScope sSame) (by decide +kernel))
        (fun _ _ _ _ _ => pg_tup (by rfl) (pgs_cons (pg_name (i := 2) scSame.nd rfl (Or.inl rfl)) (pgs_cons (pg_name (i := 3) scSame.nd rfl (Or.inl rfl)) pgs_nil)))
        (fun _ _ _ _ _ => pts_nil) (fun _ _ _ _ _ => pe_call G hr (by rfl) mF F.kp b2 .nil pass0 (pa_cons (pv 2) (pa_cons (pv 3) pa_nil)))) pa_nil)))))) pss_nil)
    (pss_cons (ps_if (PW.pt (pw_or (pt_cmpR op_isN (pv 1) pe_non (nomark _)) (pw_or1 (pt_val (pe_callB (id := "isinstance") call_isi (by rfl) M.isi (by decide +kernel) (pa_cons (pv 1) (pa_cons (pe_bltn (v := .ty "str") (by rfl) M.str (by decide +kernel) rfl) pa_nil)))))))
      (pss_one (ps_ret (pe_and (pe_cmpR op_eq (pv 0) (pv 1) (nomark _)) (pe_one (pe_cmpR op_eq
            (pe_callB (id := "isinstance") call_isi (by rfl) M.isi (by decide +kernel) (pa_cons (pv 0) (pa_cons (pe_bltn (v := .ty "str") (by rfl) M.str (by decide +kernel) rfl) pa_nil)))
            (pe_callB (id := "isinstance") call_isi (by rfl) M.isi (by decide +kernel) (pa_cons (pv 1) (pa_cons (pe_bltn (v := .ty "str") (by rfl) M.str (by decide +kernel) rfl) pa_nil))) (nomark _)))))) pss_nil)
    (pss_one (ps_ret (pe_and (pe_callB (id := "isinstance") call_isi (by rfl) M.isi (by decide +kernel) (pa_cons (pv 0) (pa_cons (pe_bltn (v := .ty "int") (by rfl) M.int (by decide +kernel) rfl) pa_nil)))
      (pe_and (pe_cmpR op_eq
            (pe_callB (id := "isinstance") call_isi (by rfl) M.isi (by decide +kernel) (pa_cons (pv 0) (pa_cons (pe_bltn (v := .ty "bool") (by rfl) M.bool (by decide +kernel) rfl) pa_nil)))
            (pe_callB (id := "isinstance") call_isi (by rfl) M.isi (by decide +kernel) (pa_cons (pv 1) (pa_cons (pe_bltn (v := .ty "bool") (by rfl) M.bool (by decide +kernel) rfl) pa_nil))) (nomark _))
        (pe_one (pe_cmpR op_eq (pv 0) (pv 1) (nomark _)))))))), ?_⟩
  refine ⟨_, rfl, (by show 2 ≤ sizeLine; decide), fun p hp => ?_⟩
  have s1 := same_new hp (.tup [V.ty "list", V.ty "tuple"])
  have plain : Plain x ∧ x = y ∨ ∃ m a b xs ys, n = m + 1 ∧ x = .ref a ∧ y = .ref b ∧ ((H a = some (.lst xs) ∧ H b = some (.lst ys)) ∨ (H a = some (.tup xs) ∧ H b = some (.tup ys))) ∧
      xs.length = ys.length ∧ xs.length ≤ 1000000 ∧ ∀ (i : Nat) (u v : V), xs[i]? = some u → ys[i]? = some v → Alike H m u v := by
    cases n with
    | zero => unfold Alike at hA; exact .inl hA
    | succ m =>
      unfold Alike at hA
      rcases hA with h | ⟨a, b, xs, ys, h⟩
      · exact .inl h
      · exact .inr ⟨m, a, b, xs, ys, rfl, h⟩
  rcases plain with ⟨px, rfl⟩ | ⟨m, a, b, xs, ys, rfl, rfl, rfl, kinds, hl, hz, each⟩
  · cases x with
    | int i =>
      refine ⟨_, p, _, _, [.type "list", .type "tuple"], false, rfl, upd_same, .cons (.ty _) (.cons (.ty _) .nil), .base (.int i), kit_lt (p := false) (r := false) (by decide +kernel) (by decide +kernel), false, rfl, iteF ?_⟩
      refine ⟨_, rfl, rfl, false, congrArg V.bl (decide_eq_false (fun z => nomatch z)), iteF ?_⟩
      refine ⟨_, rfl, _, _, _, _, false, rfl, .ty "str", .base (.int i), kitB_of (by decide +kernel), false, rfl, iteF ?_⟩
      refine ⟨_, rfl, _, _, _, _, true, rfl, .ty "int", .base (.int i), kitB_of (by decide +kernel), true, rfl, iteT ?_⟩
      refine ⟨_, rfl, _, _, _, _, false, rfl, .ty "bool", .base (.int i), kitB_of (by decide +kernel), _, rfl, _, _, _, _, false, rfl, .ty "bool", .base (.int i), kitB_of (by decide +kernel), rfl, true, congrArg V.bl (decide_eq_true rfl), iteT ?_⟩
      refine ⟨_, rfl, _, rfl, rfl, ?_⟩
      have e : decide (V.int i = V.int i) = true := decide_eq_true rfl
      rw [e]
      exact q _ s1
    | bl i =>
      refine ⟨_, p, _, _, [.type "list", .type "tuple"], false, rfl, upd_same, .cons (.ty _) (.cons (.ty _) .nil), .base (.bl i), kit_lt (p := false) (r := false) (by decide +kernel) (by decide +kernel), false, rfl, iteF ?_⟩
      refine ⟨_, rfl, rfl, false, congrArg V.bl (decide_eq_false (fun z => nomatch z)), iteF ?_⟩
      refine ⟨_, rfl, _, _, _, _, false, rfl, .ty "str", .base (.bl i), kitB_of (by decide +kernel), false, rfl, iteF ?_⟩
      refine ⟨_, rfl, _, _, _, _, true, rfl, .ty "int", .base (.bl i), kitB_of (by decide +kernel), true, rfl, iteT ?_⟩
      refine ⟨_, rfl, _, _, _, _, true, rfl, .ty "bool", .base (.bl i), kitB_of (by decide +kernel), _, rfl, _, _, _, _, true, rfl, .ty "bool", .base (.bl i), kitB_of (by decide +kernel), rfl, true, congrArg V.bl (decide_eq_true rfl), iteT ?_⟩
      refine ⟨_, rfl, _, rfl, rfl, ?_⟩
      have e : decide (V.bl i = V.bl i) = true := decide_eq_true rfl
      rw [e]
      exact q _ s1
    | str i =>
      refine ⟨_, p, _, _, [.type "list", .type "tuple"], false, rfl, upd_same, .cons (.ty _) (.cons (.ty _) .nil), .base (.str i), kit_lt (p := false) (r := false) (by decide +kernel) (by decide +kernel), false, rfl, iteF ?_⟩
      refine ⟨_, rfl, rfl, false, congrArg V.bl (decide_eq_false (fun z => nomatch z)), iteF ?_⟩
      refine ⟨_, rfl, _, _, _, _, true, rfl, .ty "str", .base (.str i), kitB_of (by decide +kernel), true, rfl, iteT ?_⟩
      refine ⟨_, rfl, _, rfl, rfl, true, congrArg V.bl (decide_eq_true rfl), iteT ?_⟩
      refine ⟨_, rfl, _, _, _, _, true, rfl, .ty "str", .base (.str i), kitB_of (by decide +kernel), _, rfl, _, _, _, _, true, rfl, .ty "str", .base (.str i), kitB_of (by decide +kernel), rfl, ?_⟩
      have e : decide (V.bl true = V.bl true) = true := decide_eq_true rfl
      rw [e]
      exact q _ s1
    | non =>
      refine ⟨_, p, _, _, [.type "list", .type "tuple"], false, rfl, upd_same, .cons (.ty _) (.cons (.ty _) .nil), .base .non, kit_lt (p := false) (r := false) (by decide +kernel) (by decide +kernel), false, rfl, iteF ?_⟩
      refine ⟨_, rfl, rfl, true, congrArg V.bl (decide_eq_true rfl), iteT ?_⟩
      refine iteT ?_
      refine ⟨_, rfl, _, rfl, rfl, true, congrArg V.bl (decide_eq_true rfl), iteT ?_⟩
      refine ⟨_, rfl, _, _, _, _, false, rfl, .ty "str", .base .non, kitB_of (by decide +kernel), _, rfl, _, _, _, _, false, rfl, .ty "str", .base .non, kitB_of (by decide +kernel), rfl, ?_⟩
      have e : decide (V.bl false = V.bl false) = true := decide_eq_true rfl
      rw [e]
      exact q _ s1
    | _ => exact px.elim
  · rcases kinds with ⟨ha, hb⟩ | ⟨ha, hb⟩
    · have ha1 := s1 _ _ ha
      have hb1 := s1 _ _ hb
      refine ⟨_, p, _, _, [.type "list", .type "tuple"], true, rfl, upd_same, .cons (.ty _) (.cons (.ty _) .nil), .base (.lst hb1), kit_lt (p := true) (r := false) (by decide +kernel) (by decide +kernel), true, rfl, iteT ?_⟩
      refine ⟨_, rfl, _, _, _, _, true, rfl, .ty "list", .base (.lst ha1), kitB_of (by decide +kernel), _, rfl, _, _, _, _, true, rfl, .ty "list", .base (.lst hb1), kitB_of (by decide +kernel), rfl, false, congrArg (fun z => V.bl (!z)) (decide_eq_true rfl), iteF ?_⟩
      refine ⟨_, rfl, _, _, _, _, false, rfl, .ty "tuple", .base (.lst ha1), kitB_of (by decide +kernel), _, rfl, _, _, _, _, false, rfl, .ty "tuple", .base (.lst hb1), kitB_of (by decide +kernel), rfl, false, congrArg (fun z => V.bl (!z)) (decide_eq_true rfl), iteF ?_⟩
      refine ⟨_, rfl, a, _, rfl, .inl (.inl (.inl ha1)), _, rfl, b, _, rfl, .inl (.inl (.inl hb1)), rfl, false, congrArg (fun z => V.bl (!z)) (decide_eq_true (by rw [hl])), iteF ?_⟩
      refine ⟨_, rfl, _, rfl, a, b, xs, ys, rfl, .inl ⟨.inl (.inl ha1), .inl (.inl hb1), fun D hD => ?_⟩⟩
      refine lc_pairs (J := Itz K a b) (xs := xs) (ys := ys) hl (fun i H2 => H2 D = some (.lst (List.replicate i (V.bl true))) ∧ Same _ H2)
        (fun H2 h => ⟨xs, ys, .inl (.inl (h.2 _ _ ha1)), .inl (.inl (h.2 _ _ hb1)), .inl (Nat.le_refl _)⟩)
        (fun i H2 lt h => ⟨xs, ys, xs[i], ys[i]'(by omega), .inl (.inl (h.2 _ _ ha1)), .inl (.inl (h.2 _ _ hb1)), List.getElem?_eq_getElem lt, List.getElem?_eq_getElem (by omega)⟩)
        (fun i H2 v H3 h ⟨T, u, v', e1, hT, e2, f1, f2⟩ => ⟨T, u, v', e1, f1 xs (.inl (.inl (h.2 _ _ ha1))), f2 ys (.inl (.inl (h.2 _ _ hb1))), hT, e2⟩)
        ⟨upd_same, same_new hD _⟩ (fun i u v T H2 hu hv h hT => ?_) (fun H2 h => ⟨D, List.replicate xs.length true, rfl, .inl (.inl (by rw [List.map_replicate]; exact h.1)), ?_⟩)
      · have sT := same_new hT (.tup [u, v])
        refine ⟨T, _, rfl, .inl (.inl upd_same), rfl, _, _, rfl, _, _, rfl, rfl, rfl, ?_⟩
        have lt : i < xs.length := (List.getElem?_eq_some_iff.mp hu).1
        refine ⟨_, rfl, _, rfl, u, v, m, rfl, rfl, Alike.mono (s1.trans (h.2.trans sT)) m (each i u v hu hv), fun H4 s4 => ⟨_, s4 _ _ (sT _ _ h.1), ?_, ?_, ?_⟩⟩
        · rw [List.length_replicate]; exact Nat.lt_of_lt_of_le (by omega : i < 1000000) (by decide)
        · rw [upd_same, List.replicate_succ']
        · intro c o z
          have nD : c ≠ D := fun e => by subst e; rw [hD] at z; cases z
          rw [upd_ne nD]
          exact s4 _ _ (sT _ _ (h.2 _ _ z))
      · have e : (List.replicate xs.length true).all id = true := by rw [List.all_eq_true]; intro x hx; rw [List.eq_of_mem_replicate hx]; rfl
        rw [e]
        exact q _ (s1.trans h.2)
    · have ha1 := s1 _ _ ha
      have hb1 := s1 _ _ hb
      refine ⟨_, p, _, _, [.type "list", .type "tuple"], true, rfl, upd_same, .cons (.ty _) (.cons (.ty _) .nil), .base (.tup hb1), kit_lt (p := false) (r := true) (by decide +kernel) (by decide +kernel), true, rfl, iteT ?_⟩
      refine ⟨_, rfl, _, _, _, _, false, rfl, .ty "list", .base (.tup ha1), kitB_of (by decide +kernel), _, rfl, _, _, _, _, false, rfl, .ty "list", .base (.tup hb1), kitB_of (by decide +kernel), rfl, false, congrArg (fun z => V.bl (!z)) (decide_eq_true rfl), iteF ?_⟩
      refine ⟨_, rfl, _, _, _, _, true, rfl, .ty "tuple", .base (.tup ha1), kitB_of (by decide +kernel), _, rfl, _, _, _, _, true, rfl, .ty "tuple", .base (.tup hb1), kitB_of (by decide +kernel), rfl, false, congrArg (fun z => V.bl (!z)) (decide_eq_true rfl), iteF ?_⟩
      refine ⟨_, rfl, a, _, rfl, .inr (.inl (.inl ha1)), _, rfl, b, _, rfl, .inr (.inl (.inl hb1)), rfl, false, congrArg (fun z => V.bl (!z)) (decide_eq_true (by rw [hl])), iteF ?_⟩
      refine ⟨_, rfl, _, rfl, a, b, xs, ys, rfl, .inr ⟨.inl (.inl ha1), .inl (.inl hb1), fun D hD => ?_⟩⟩
      refine lc_pairs (J := ItzT K a b) (xs := xs) (ys := ys) hl (fun i H2 => H2 D = some (.lst (List.replicate i (V.bl true))) ∧ Same _ H2)
        (fun H2 h => ⟨xs, ys, .inl (.inl (h.2 _ _ ha1)), .inl (.inl (h.2 _ _ hb1)), .inl (Nat.le_refl _)⟩)
        (fun i H2 lt h => ⟨xs, ys, xs[i], ys[i]'(by omega), .inl (.inl (h.2 _ _ ha1)), .inl (.inl (h.2 _ _ hb1)), List.getElem?_eq_getElem lt, List.getElem?_eq_getElem (by omega)⟩)
        (fun i H2 v H3 h ⟨T, u, v', e1, hT, e2, f1, f2⟩ => ⟨T, u, v', e1, f1 xs (.inl (.inl (h.2 _ _ ha1))), f2 ys (.inl (.inl (h.2 _ _ hb1))), hT, e2⟩)
        ⟨upd_same, same_new hD _⟩ (fun i u v T H2 hu hv h hT => ?_) (fun H2 h => ⟨D, List.replicate xs.length true, rfl, .inl (.inl (by rw [List.map_replicate]; exact h.1)), ?_⟩)
      · have sT := same_new hT (.tup [u, v])
        refine ⟨T, _, rfl, .inl (.inl upd_same), rfl, _, _, rfl, _, _, rfl, rfl, rfl, ?_⟩
        have lt : i < xs.length := (List.getElem?_eq_some_iff.mp hu).1
        refine ⟨_, rfl, _, rfl, u, v, m, rfl, rfl, Alike.mono (s1.trans (h.2.trans sT)) m (each i u v hu hv), fun H4 s4 => ⟨_, s4 _ _ (sT _ _ h.1), ?_, ?_, ?_⟩⟩
        · rw [List.length_replicate]; exact Nat.lt_of_lt_of_le (by omega : i < 1000000) (by decide)
        · rw [upd_same, List.replicate_succ']
        · intro c o z
          have nD : c ≠ D := fun e => by subst e; rw [hD] at z; cases z
          rw [upd_ne nD]
          exact s4 _ _ (sT _ _ (h.2 _ _ z))
      · have e : (List.replicate xs.length true).all id = true := by rw [List.all_eq_true]; intro x hx; rw [List.eq_of_mem_replicate hx]; rfl
        rw [e]
        exact q _ (s1.trans h.2)
theorem same_ok {f : Addr} {fd : FuncData} (F : Fun K "_law_same" "_law_same" sSame f fd) (b2 : Binds K fd ["_law_found", "_law_due"] []) (mF : mg "_law_same" = some (.ref f)) (M : SameG mg) :
    ∀ n : Nat, FnOk P w K mg base CX0 n f fd ["_law_found", "_law_due"] (spSame n)
  | 0 => none_left fun vs H Q E h => by
    obtain ⟨x, y, m, _, e, _⟩ := h
    omega
  | n + 1 => ok_same F b2 mF (same_ok F b2 mF M n) M
end
end Rp

/-! Data of any depth: what stands as which, and which data are TERMs. -/
namespace Rp
open PySem L2
mutual
/-- the value v stands as the data d; its lists are others than the box b -/
def DAt (H : Hp) (b : Addr) : V → PyData → Prop
  | v, .none => v = .non
  | v, .bool c => v = .bl c
  | v, .int i => v = .int i
  | v, .str x => v = .str x
  | v, .list ds => ∃ (a : Addr) (xs : List V), v = .ref a ∧ a ≠ b ∧ H a = some (.lst xs) ∧ DAtAll H b xs ds
  | v, .tuple ds => ∃ (a : Addr) (xs : List V), v = .ref a ∧ H a = some (.tup xs) ∧ DAtAll H b xs ds
  | _, .dict _ => False
def DAtAll (H : Hp) (b : Addr) : List V → List PyData → Prop
  | xs, [] => xs = []
  | xs, d :: ds => ∃ (x : V) (r : List V), xs = x :: r ∧ DAt H b x d ∧ DAtAll H b r ds
end
mutual
theorem DAt.dp {K : PySem.W.Frag} {H : Hp} {b : Addr} : ∀ (d : PyData) {v : V}, DAt H b v d → Dp K H v d
  | .none, _, h => by unfold DAt at h; subst h; exact .non
  | .bool _, _, h => by unfold DAt at h; subst h; exact .bl _
  | .int _, _, h => by unfold DAt at h; subst h; exact .int _
  | .str _, _, h => by unfold DAt at h; subst h; exact .str _
  | .list ds, _, h => by
    unfold DAt at h
    obtain ⟨a, xs, rfl, _, e, q⟩ := h
    exact .lst (.inl (.inl e)) (DAtAll.dp ds q)
  | .tuple ds, _, h => by
    unfold DAt at h
    obtain ⟨a, xs, rfl, e, q⟩ := h
    exact .tup (.inl (.inl e)) (DAtAll.dp ds q)
  | .dict _, _, h => by unfold DAt at h; exact h.elim
theorem DAtAll.dp {K : PySem.W.Frag} {H : Hp} {b : Addr} : ∀ (ds : List PyData) {xs : List V}, DAtAll H b xs ds → DpAll K H xs ds
  | [], _, h => by unfold DAtAll at h; subst h; exact .nil
  | d :: ds, _, h => by
    unfold DAtAll at h
    obtain ⟨x, r, rfl, q, q'⟩ := h
    exact .cons (DAt.dp d q) (DAtAll.dp ds q')
end
mutual
theorem DAt.mono {H H' : Hp} {b : Addr} (et : ∀ a xs, H a = some (.tup xs) → H' a = some (.tup xs)) (el : ∀ a xs, a ≠ b → H a = some (.lst xs) → H' a = some (.lst xs)) : ∀ (d : PyData) {v : V}, DAt H b v d → DAt H' b v d
  | .none, _, h => by unfold DAt at h ⊢; exact h
  | .bool _, _, h => by unfold DAt at h ⊢; exact h
  | .int _, _, h => by unfold DAt at h ⊢; exact h
  | .str _, _, h => by unfold DAt at h ⊢; exact h
  | .list ds, _, h => by
    unfold DAt at h ⊢
    obtain ⟨a, xs, e, n, q, q'⟩ := h
    exact ⟨a, xs, e, n, el _ _ n q, DAtAll.mono et el ds q'⟩
  | .tuple ds, _, h => by
    unfold DAt at h ⊢
    obtain ⟨a, xs, e, q, q'⟩ := h
    exact ⟨a, xs, e, et _ _ q, DAtAll.mono et el ds q'⟩
  | .dict _, _, h => by unfold DAt at h; exact h.elim
theorem DAtAll.mono {H H' : Hp} {b : Addr} (et : ∀ a xs, H a = some (.tup xs) → H' a = some (.tup xs)) (el : ∀ a xs, a ≠ b → H a = some (.lst xs) → H' a = some (.lst xs)) : ∀ (ds : List PyData) {xs : List V}, DAtAll H b xs ds → DAtAll H' b xs ds
  | [], _, h => by unfold DAtAll at h ⊢; exact h
  | d :: ds, _, h => by
    unfold DAtAll at h ⊢
    obtain ⟨x, r, e, q, q'⟩ := h
    exact ⟨x, r, e, DAt.mono et el d q, DAtAll.mono et el ds q'⟩
end
theorem DAt.same {H H' : Hp} {b : Addr} (e : Same H H') {d : PyData} {v : V} (h : DAt H b v d) : DAt H' b v d := DAt.mono (fun a _ q => e a _ q) (fun a _ _ q => e a _ q) d h
theorem DAt.but {H H' : Hp} {b : Addr} {ys : List V} (e : But b H H') (hb : H b = some (.lst ys)) {d : PyData} {v : V} (h : DAt H b v d) : DAt H' b v d :=
  DAt.mono (fun a _ q => e a _ q (ne_of q hb (by intro z; cases z))) (fun a _ n q => e a _ q n) d h
theorem DAtAll.same {H H' : Hp} {b : Addr} (e : Same H H') {ds : List PyData} {xs : List V} (h : DAtAll H b xs ds) : DAtAll H' b xs ds := DAtAll.mono (fun a _ q => e a _ q) (fun a _ _ q => e a _ q) ds h
theorem DAtAll.but {H H' : Hp} {b : Addr} {ys : List V} (e : But b H H') (hb : H b = some (.lst ys)) {ds : List PyData} {xs : List V} (h : DAtAll H b xs ds) : DAtAll H' b xs ds :=
  DAtAll.mono (fun a _ q => e a _ q (ne_of q hb (by intro z; cases z))) (fun a _ n q => e a _ q n) ds h
theorem DAtAll.nil {H : Hp} {b : Addr} : DAtAll H b [] [] := by unfold DAtAll; rfl
theorem DAtAll.cons {H : Hp} {b : Addr} {x : V} {xs : List V} {d : PyData} {ds : List PyData} (h : DAt H b x d) (h' : DAtAll H b xs ds) : DAtAll H b (x :: xs) (d :: ds) := by unfold DAtAll; exact ⟨x, xs, rfl, h, h'⟩
theorem DAtAll.head {H : Hp} {b : Addr} {x : V} {xs : List V} {ds : List PyData} (h : DAtAll H b (x :: xs) ds) : ∃ d ds', ds = d :: ds' ∧ DAt H b x d ∧ DAtAll H b xs ds' := by
  cases ds with
  | nil => unfold DAtAll at h; cases h
  | cons d ds =>
    unfold DAtAll at h
    obtain ⟨y, r, e, q, q'⟩ := h
    cases e
    exact ⟨d, ds, rfl, q, q'⟩
theorem DAtAll.len {H : Hp} {b : Addr} : ∀ {xs : List V} {ds : List PyData}, DAtAll H b xs ds → xs.length = ds.length
  | xs, [], h => by unfold DAtAll at h; subst h; rfl
  | xs, d :: ds, h => by
    unfold DAtAll at h
    obtain ⟨x, r, rfl, _, q⟩ := h
    rw [List.length_cons, List.length_cons, DAtAll.len q]
theorem DAtAll.append {H : Hp} {b : Addr} : ∀ {xs ys : List V} {ds es : List PyData}, DAtAll H b xs ds → DAtAll H b ys es → DAtAll H b (xs ++ ys) (ds ++ es)
  | xs, ys, [], es, h, h' => by unfold DAtAll at h; subst h; exact h'
  | xs, ys, d :: ds, es, h, h' => by
    unfold DAtAll at h
    obtain ⟨x, r, rfl, q, q'⟩ := h
    exact .cons q (DAtAll.append q' h')
theorem DAtAll.parted {H : Hp} {b : Addr} : ∀ {xs ys : List V} {ds : List PyData}, DAtAll H b (xs ++ ys) ds → ∃ d1 d2, ds = d1 ++ d2 ∧ DAtAll H b xs d1 ∧ DAtAll H b ys d2
  | [], ys, ds, h => ⟨[], ds, rfl, .nil, h⟩
  | x :: xs, ys, ds, h => by
    obtain ⟨d, ds', rfl, q, q'⟩ := DAtAll.head h
    obtain ⟨d1, d2, rfl, h1, h2⟩ := DAtAll.parted q'
    exact ⟨d :: d1, d2, rfl, .cons q h1, h2⟩
theorem DAtAll.take {H : Hp} {b : Addr} : ∀ {xs : List V} {ds : List PyData} (n : Nat), DAtAll H b xs ds → DAtAll H b (xs.take n) (ds.take n)
  | xs, ds, 0, h => by simp; exact .nil
  | [], ds, n + 1, h => by have := h.len; cases ds with | nil => simpa using DAtAll.nil | cons => simp at this
  | x :: xs, ds, n + 1, h => by
    obtain ⟨d, ds', rfl, q, q'⟩ := DAtAll.head h
    exact .cons q (DAtAll.take n q')
theorem DAtAll.drop {H : Hp} {b : Addr} : ∀ {xs : List V} {ds : List PyData} (n : Nat), DAtAll H b xs ds → DAtAll H b (xs.drop n) (ds.drop n)
  | xs, ds, 0, h => by simpa using h
  | [], ds, n + 1, h => by have := h.len; cases ds with | nil => simpa using DAtAll.nil | cons => simp at this
  | x :: xs, ds, n + 1, h => by
    obtain ⟨d, ds', rfl, q, q'⟩ := DAtAll.head h
    simpa using DAtAll.drop n q'
theorem DAtAll.back {H : Hp} {b : Addr} : ∀ {xs : List V} {ds : List PyData}, DAtAll H b xs ds → DAtAll H b xs.reverse ds.reverse
  | [], ds, h => by have := h.len; cases ds with | nil => simpa using DAtAll.nil | cons => simp at this
  | x :: xs, ds, h => by
    obtain ⟨d, ds', rfl, q, q'⟩ := DAtAll.head h
    rw [List.reverse_cons, List.reverse_cons]
    exact (DAtAll.back q').append (.cons q .nil)
theorem DAtAll.get {H : Hp} {b : Addr} : ∀ {xs : List V} {ds : List PyData} {i : Nat} {x : V}, DAtAll H b xs ds → xs[i]? = some x → ∃ d, ds[i]? = some d ∧ DAt H b x d
  | [], ds, i, x, h, e => by simp at e
  | y :: xs, ds, 0, x, h, e => by
    obtain ⟨d, ds', rfl, q, q'⟩ := DAtAll.head h
    simp at e
    subst e
    exact ⟨d, rfl, q⟩
  | y :: xs, ds, i + 1, x, h, e => by
    obtain ⟨d, ds', rfl, q, q'⟩ := DAtAll.head h
    simpa using DAtAll.get q' (by simpa using e)
/-! ### TERMs as data -/
def tmD : Tm → PyData
  | .v n => .int n
  | .z => .tuple [.str "0"]
  | .s t => .tuple [.str "s", tmD t]
  | .f l r => .tuple [.str "f", tmD l, tmD r]
theorem TmAt.dat {H : Hp} {b : Addr} {v : V} {t : Tm} (h : TmAt H v t) : DAt H b v (tmD t) := by
  induction h with
  | v n => unfold tmD DAt; rfl
  | z h => unfold tmD DAt; exact ⟨_, _, rfl, h, .cons (by unfold DAt; rfl) .nil⟩
  | s h _ ih => unfold tmD DAt; exact ⟨_, _, rfl, h, .cons (by unfold DAt; rfl) (.cons ih .nil)⟩
  | f h _ _ ih ih' => unfold tmD DAt; exact ⟨_, _, rfl, h, .cons (by unfold DAt; rfl) (.cons ih (.cons ih' .nil))⟩
theorem DAtAll.nil_of {H : Hp} {b : Addr} {xs : List V} (h : DAtAll H b xs []) : xs = [] := by unfold DAtAll at h; exact h
theorem DAtAll.cons_of {H : Hp} {b : Addr} {xs : List V} {d : PyData} {ds : List PyData} (h : DAtAll H b xs (d :: ds)) : ∃ x r, xs = x :: r ∧ DAt H b x d ∧ DAtAll H b r ds := by unfold DAtAll at h; exact h
theorem DAt.str_of {H : Hp} {b : Addr} {v : V} {x : Str} (h : DAt H b v (.str x)) : v = .str x := by unfold DAt at h; exact h
theorem DAt.int_of {H : Hp} {b : Addr} {v : V} {x : Int} (h : DAt H b v (.int x)) : v = .int x := by unfold DAt at h; exact h
theorem DAt.tup_of {H : Hp} {b : Addr} {v : V} {ds : List PyData} (h : DAt H b v (.tuple ds)) : ∃ (a : Addr) (xs : List V), v = .ref a ∧ H a = some (.tup xs) ∧ DAtAll H b xs ds := by unfold DAt at h; exact h
theorem DAt.lst_of {H : Hp} {b : Addr} {v : V} {ds : List PyData} (h : DAt H b v (.list ds)) : ∃ (a : Addr) (xs : List V), v = .ref a ∧ a ≠ b ∧ H a = some (.lst xs) ∧ DAtAll H b xs ds := by unfold DAt at h; exact h
theorem DAt.tm {H : Hp} {b : Addr} : ∀ (t : Tm) {v : V}, DAt H b v (tmD t) → TmAt H v t
  | .v n, _, h => by rw [DAt.int_of h]; exact .v n
  | .z, _, h => by
    obtain ⟨a, xs, rfl, e, q⟩ := DAt.tup_of h
    obtain ⟨x, r, rfl, q1, q2⟩ := q.cons_of
    cases q1.str_of
    cases q2.nil_of
    exact .z e
  | .s t, _, h => by
    obtain ⟨a, xs, rfl, e, q⟩ := DAt.tup_of h
    obtain ⟨x, r, rfl, q1, q2⟩ := q.cons_of
    obtain ⟨y, r', rfl, q3, q4⟩ := q2.cons_of
    cases q1.str_of
    cases q4.nil_of
    exact .s e (DAt.tm t q3)
  | .f l r, _, h => by
    obtain ⟨a, xs, rfl, e, q⟩ := DAt.tup_of h
    obtain ⟨x, r1, rfl, q1, q2⟩ := q.cons_of
    obtain ⟨y, r2, rfl, q3, q4⟩ := q2.cons_of
    obtain ⟨y', r3, rfl, q5, q6⟩ := q4.cons_of
    cases q1.str_of
    cases q6.nil_of
    exact .f e (DAt.tm l q3) (DAt.tm r q5)
def IsT (d : PyData) : Prop := ∃ t, d = tmD t ∧ ∀ n ∈ t.nums, 0 ≤ n ∧ n ≤ 99
/-- a sign with as many parts as it takes -/
def Shaped (d : PyData) : Prop := ∃ (x : Str) (ds : List PyData), d = .tuple (.str x :: ds) ∧ ((x = "0" ∧ ds.length = 0) ∨ (x = "s" ∧ ds.length = 1) ∨ (x = "f" ∧ ds.length = 2))
theorem isT_shaped {x : Str} {ds : List PyData} (h : (x = "0" ∧ ds.length = 0) ∨ (x = "s" ∧ ds.length = 1) ∨ (x = "f" ∧ ds.length = 2)) : IsT (.tuple (.str x :: ds)) ↔ ∀ d ∈ ds, IsT d := by
  have s0 : ("0" : Str) ≠ "s" := by decide +kernel
  have s1 : ("0" : Str) ≠ "f" := by decide +kernel
  have s2 : ("s" : Str) ≠ "f" := by decide +kernel
  rcases h with ⟨rfl, h⟩ | ⟨rfl, h⟩ | ⟨rfl, h⟩
  · match ds, h with
    | [], _ => exact ⟨fun _ d hd => by simp at hd, fun _ => ⟨.z, rfl, fun n hn => by simp [Tm.nums] at hn⟩⟩
  · match ds, h with
    | [d], _ =>
      constructor
      · rintro ⟨t, e, g⟩ d' hd
        simp at hd
        subst hd
        cases t with
        | s t => unfold tmD at e; injection e with e; injection e with _ e; injection e with e _; exact ⟨t, e, g⟩
        | v n => cases e
        | z => unfold tmD at e; injection e with e; injection e with e _; injection e with e; exact absurd e.symm s0
        | f l r => unfold tmD at e; injection e with e; injection e with e _; injection e with e; exact absurd e s2
      · intro h
        obtain ⟨t, rfl, g⟩ := h d (by simp)
        exact ⟨.s t, rfl, g⟩
  · match ds, h with
    | [d, d'], _ =>
      constructor
      · rintro ⟨t, e, g⟩ d2 hd
        cases t with
        | f l r =>
          unfold tmD at e
          injection e with e
          injection e with _ e
          injection e with e1 e
          injection e with e2 _
          simp at hd
          rcases hd with rfl | rfl
          · exact ⟨l, e1, fun n hn => g n (by simp [Tm.nums, hn])⟩
          · exact ⟨r, e2, fun n hn => g n (by simp [Tm.nums, hn])⟩
        | v n => cases e
        | z => unfold tmD at e; injection e with e; injection e with e _; injection e with e; exact absurd e.symm s1
        | s t => unfold tmD at e; injection e with e; injection e with e _; injection e with e; exact absurd e.symm s2
      · intro h
        obtain ⟨l, rfl, g1⟩ := h d (by simp)
        obtain ⟨r, rfl, g2⟩ := h d' (by simp)
        refine ⟨.f l r, rfl, fun n hn => ?_⟩
        rcases List.mem_append.mp hn with q | q
        · exact g1 n q
        · exact g2 n q
theorem isT_int {n : Int} : IsT (.int n) ↔ 0 ≤ n ∧ n ≤ 99 := by
  constructor
  · rintro ⟨t, e, g⟩
    cases t with
    | v m => unfold tmD at e; injection e with e; subst e; exact g _ (by simp [Tm.nums])
    | z => cases e
    | s t => cases e
    | f l r => cases e
  · intro h
    exact ⟨.v n, rfl, fun m hm => by simp [Tm.nums] at hm; subst hm; exact h⟩
theorem isT_other {d : PyData} (h : ¬ Shaped d) (h' : ∀ n, d ≠ .int n) : ¬ IsT d := by
  rintro ⟨t, rfl, g⟩
  cases t with
  | v n => exact h' n rfl
  | z => exact h ⟨"0", [], rfl, .inl ⟨rfl, rfl⟩⟩
  | s t => exact h ⟨"s", [_], rfl, .inr (.inl ⟨rfl, rfl⟩)⟩
  | f l r => exact h ⟨"f", [_, _], rfl, .inr (.inr ⟨rfl, rfl⟩)⟩
end Rp

namespace Rp
open PySem PySem.Spec PyProof.Rows L2
def tyD : PyData → String
  | .none => "NoneType" | .bool _ => "bool" | .int _ => "int" | .str _ => "str" | .list _ => "list" | .tuple _ => "tuple" | .dict _ => "dict"
theorem DAt.tyx {K : PySem.W.Frag} {H : Hp} {b : Addr} {v : V} {d : PyData} (h : DAt H b v d) : TyX K H v (.type (tyD d)) := by
  cases d with
  | none => unfold DAt at h; subst h; exact .base .non
  | bool c => unfold DAt at h; subst h; exact .base (.bl c)
  | int i => unfold DAt at h; subst h; exact .base (.int i)
  | str x => unfold DAt at h; subst h; exact .base (.str x)
  | list ds => obtain ⟨a, xs, rfl, _, e, _⟩ := h.lst_of; exact .base (.lst e)
  | tuple ds => obtain ⟨a, xs, rfl, e, _⟩ := h.tup_of; exact .base (.tup e)
  | dict ds => unfold DAt at h; exact h.elim
def isI : PyData → Bool | .int _ => true | .bool _ => true | _ => false
def isB : PyData → Bool | .bool _ => true | _ => false
def isS : PyData → Bool | .str _ => true | _ => false
def isU : PyData → Bool | .tuple _ => true | _ => false
def isL : PyData → Bool | .list _ => true | _ => false
def isNum : PyData → Bool | .int _ => true | _ => false
section
variable {K : PySem.W.Frag}
theorem kitI (d : PyData) : PySem.W.kitOne K (.type (tyD d)) (.type "int") = some (isI d) := by cases d <;> exact kit_ty (by simp only [tyD, isI]; decide +kernel)
theorem kitB' (d : PyData) : PySem.W.kitOne K (.type (tyD d)) (.type "bool") = some (isB d) := by cases d <;> exact kit_ty (by simp only [tyD, isB]; decide +kernel)
theorem kitS (d : PyData) : PySem.W.kitOne K (.type (tyD d)) (.type "str") = some (isS d) := by cases d <;> exact kit_ty (by simp only [tyD, isS]; decide +kernel)
theorem kitU (d : PyData) : PySem.W.kitOne K (.type (tyD d)) (.type "tuple") = some (isU d) := by cases d <;> exact kit_ty (by simp only [tyD, isU]; decide +kernel)
theorem kitL (d : PyData) : PySem.W.kitOne K (.type (tyD d)) (.type "list") = some (isL d) := by cases d <;> exact kit_ty (by simp only [tyD, isL]; decide +kernel)
end
def okD (d : PyData) : Prop := d.canLay0 = true ∧ d.depth ≤ 60
theorem okAll {ds : List PyData} (h : PyData.canLayAll0 ds = true) (k : Nat) (hk : PyData.depthAll ds ≤ k) : ∀ d ∈ ds, d.canLay0 = true ∧ d.depth ≤ k := by
  induction ds with
  | nil => intro d hd; simp at hd
  | cons x ds ih =>
    simp only [PyData.canLayAll0, Bool.and_eq_true] at h
    simp only [PyData.depthAll] at hk
    intro d hd
    rcases List.mem_cons.mp hd with rfl | hd
    · exact ⟨h.1, by omega⟩
    · exact ih h.2 (by omega) d hd
theorem okD.tup {ds : List PyData} (h : okD (.tuple ds)) : ∀ d ∈ ds, okD d := fun d hd => by
  have h1 : PyData.canLayAll0 ds = true := by have := h.1; simpa [PyData.canLay0] using this
  have h2 : PyData.depthAll ds + 1 ≤ 60 := by have := h.2; simpa [PyData.depth] using this
  have := okAll h1 59 (by omega) d hd
  exact ⟨this.1, by omega⟩
theorem eqv_str {x : Str} {d : PyData} : PyData.eqv (.str x) d = true ↔ d = .str x := by
  cases d <;> simp [PyData.eqv]
  exact eq_comm
theorem eqv_tup {xs ys : List PyData} : PyData.eqv (.tuple xs) (.tuple ys) = PyData.eqvAll xs ys := by simp only [PyData.eqv]
theorem eqv_int {i j : Int} : PyData.eqv (.int i) (.int j) = (i == j) := by simp only [PyData.eqv]
theorem eqvAll_cons {x y : PyData} {xs ys : List PyData} : PyData.eqvAll (x :: xs) (y :: ys) = (PyData.eqv x y && PyData.eqvAll xs ys) := by simp only [PyData.eqvAll]
theorem eqvAll_nil : PyData.eqvAll [] [] = true := by simp only [PyData.eqvAll]
theorem hu65 {A : Around} {k : Nat} (hr : Room k A) : A.units + 65 < cLine := by have := hr.un; omega
def shapesD : PyData := .tuple [.tuple [.str "0", .int 1], .tuple [.str "s", .int 2], .tuple [.str "f", .int 3]]
def shapesL : List PyData := [.tuple [.str "0", .int 1], .tuple [.str "s", .int 2], .tuple [.str "f", .int 3]]
theorem shapes_any {d0 : PyData} {ds : List PyData} : (shapesL.any fun y => PyData.eqv y (.tuple [d0, .int ((ds.length + 1 : Nat) : Int)])) = true ↔ Shaped (.tuple (d0 :: ds)) := by
  have one : ∀ (x : Str) (n : Int), PyData.eqv (.tuple [.str x, .int n]) (.tuple [d0, .int ((ds.length + 1 : Nat) : Int)]) = true ↔ d0 = .str x ∧ n = ((ds.length + 1 : Nat) : Int) := by
    intro x n
    rw [eqv_tup, eqvAll_cons, eqvAll_cons, eqvAll_nil, eqv_int]
    simp only [Bool.and_true, Bool.and_eq_true, eqv_str, beq_iff_eq]
  simp only [shapesL, List.any_cons, List.any_nil, Bool.or_false, Bool.or_eq_true, one]
  constructor
  · rintro (⟨rfl, e⟩ | ⟨rfl, e⟩ | ⟨rfl, e⟩)
    · exact ⟨"0", ds, rfl, .inl ⟨rfl, by omega⟩⟩
    · exact ⟨"s", ds, rfl, .inr (.inl ⟨rfl, by omega⟩)⟩
    · exact ⟨"f", ds, rfl, .inr (.inr ⟨rfl, by omega⟩)⟩
  · rintro ⟨x, ds', e, h⟩
    injection e with e
    injection e with e1 e2
    subst e1 e2
    rcases h with ⟨rfl, h⟩ | ⟨rfl, h⟩ | ⟨rfl, h⟩
    · exact .inl ⟨rfl, by omega⟩
    · exact .inr (.inl ⟨rfl, by omega⟩)
    · exact .inr (.inr ⟨rfl, by omega⟩)
/-- x in t, t a tuple of data of any depth -/
def rInT (K : PySem.W.Frag) : R2 := fun x y H Q => ∃ (d : PyData) (ds : List PyData), Dp K H x d ∧ Dp K H y (.tuple ds) ∧ SeqAt.shaped d = true ∧ SeqAt.shaped (.tuple ds) = true ∧ Q (.bl (ds.any fun y => PyData.eqv y d)) H
section
variable {X : Cx}
theorem op_inT (hu : X.A.units + 65 < cLine) : OpR X (compareOp .In) (rInT X.K) := by
  intro pins s σ H x y v u Q I rx ry h
  obtain ⟨d, ds, hd, he, sd, se, q⟩ := h
  obtain ⟨as, r1⟩ := Dp.reads I d x v hd rx
  obtain ⟨bs, r2⟩ := Dp.reads I (.tuple ds) y u he ry
  exact SeqAt.in_tuple_reads r2 r1 (SeqAt.canLay_of_shaped se) (SeqAt.canLay_of_shaped sd) (room_in_shaped sd hu) ⟨.bl _, H, I, rfl, q⟩
end
theorem shaped_of {d : PyData} (h : d.canLay0 = true) (h' : d.depth ≤ 64) : SeqAt.shaped d = true := by
  show (d.canLay0 && decide (d.depth ≤ 64)) = true
  rw [h, decide_eq_true h']
  rfl
def spNumber : Sp := fun vs H Q _ => ∃ (b : Addr) (v : V) (d : PyData), vs = [v] ∧ DAt H b v d ∧ Q (.bl (isNum d)) H
def isVar : PyData → Bool | .int n => decide (0 ≤ n) && decide (n ≤ 99) | _ => false
def spVariable : Sp := fun vs H Q _ => ∃ (b : Addr) (v : V) (d : PyData), vs = [v] ∧ DAt H b v d ∧ Q (.bl (isVar d)) H
def spShape : Sp := fun vs H Q _ => ∃ (b : Addr) (v : V) (d : PyData), vs = [v] ∧ DAt H b v d ∧ okD d ∧ ∀ (r : Bool) (H' : Hp), (r = true ↔ Shaped d) → Same H H' → Q (.bl r) H'
section
variable {P : Program} {w : World} {K : PySem.W.Frag} {mg : Str → Option Value} {base : Heap}
theorem scNumber : FnScope ["thing"] ["thing"] (defScope sNumber) := ⟨rfl, rfl, rfl, by decide +kernel, rfl, by decide +kernel, by decide +kernel⟩
theorem ok_number {f : Addr} {fd : FuncData} (F : Fun K "is_number" "is_number" sNumber f fd) (M : SameG mg) : FnOk P w K mg base CX0 1 f fd ["thing"] spNumber := by
  refine F.ok scNumber (fun vs H Q E h => ?_) (fun cdv A outer s H vs Q E hr h => ?_)
  · obtain ⟨b, v, d, rfl, _⟩ := h
    rfl
  obtain ⟨b, v, d, rfl, D, q⟩ := h
  refine ⟨_, pss_one (ps_ret (pe_and (pe_callB (id := "isinstance") call_isi (by rfl) M.isi (by decide +kernel) (pa_cons (pv 0) (pa_cons (pe_bltn (v := .ty "int") (by rfl) M.int (by decide +kernel) rfl) pa_nil)))
    (pe_one (pe_not (pe_callB (id := "isinstance") call_isi (by rfl) M.isi (by decide +kernel) (pa_cons (pv 0) (pa_cons (pe_bltn (v := .ty "bool") (by rfl) M.bool (by decide +kernel) rfl) pa_nil))))))), ?_⟩
  refine ⟨_, rfl, _, _, _, _, isI d, rfl, .ty "int", D.tyx, kitI d, isI d, rfl, ?_⟩
  have second : (fun (σ : L2.St) => isI d = true → isB d = !(isNum d)) [] := by cases d <;> simp [isI, isB, isNum]
  have first : isI d = false → isNum d = false := by cases d <;> simp [isI, isNum]
  cases e : isI d with
  | false => exact iteF (by have z := first e; rw [z] at q; exact q)
  | true =>
    refine iteT ⟨_, rfl, _, _, _, _, isB d, rfl, .ty "bool", D.tyx, kitB' d, isB d, rfl, ?_⟩
    have z := second e
    rw [z]
    simpa using q
theorem scVariable : FnScope ["thing"] ["thing"] (defScope sVariable) := ⟨rfl, rfl, rfl, by decide +kernel, rfl, by decide +kernel, by decide +kernel⟩
theorem ok_variable {f fN : Addr} {fd fdN : FuncData} {tk : Tok} (F : Fun K "is_variable" "is_variable" sVariable f fd) (GN : FnOk P w K mg base CX0 1 fN fdN ["thing"] spNumber) (kN : PySem.W.keepIn K (.ref fN) = true) (bN : Binds K fdN ["thing"] []) (mN : mg "is_number" = some (.ref fN))
    (mLast : mg "LAST_VARIABLE" = some (.int 99 tk)) : FnOk P w K mg base CX0 2 f fd ["thing"] spVariable := by
  refine F.ok scVariable (fun vs H Q E h => ?_) (fun cdv A outer s H vs Q E hr h => ?_)
  · obtain ⟨b, v, d, rfl, _⟩ := h
    rfl
  obtain ⟨b, v, d, rfl, D, q⟩ := h
  refine ⟨_, pss_one (ps_ret (pe_and (pe_call GN hr rfl mN kN bN .nil pass0 (pa_cons (pv 0) pa_nil)) (pe_one (pe_chain op_le op_le pe_int (pv 0) (pe_glob (v := .int 99) rfl mLast ⟨_, rfl⟩))))), ?_⟩
  refine ⟨_, rfl, b, v, d, rfl, D, isNum d, rfl, ?_⟩
  cases d with
  | int n =>
    have ev := D.int_of
    subst ev
    refine iteT ⟨_, rfl, _, _, rfl, rfl, decide (0 ≤ n), rfl, ?_⟩
    cases e : decide (0 ≤ n) with
    | false => exact iteF (by simpa [isVar, e] using q)
    | true => exact iteT ⟨_, _, rfl, rfl, by simpa [isVar, e] using q⟩
  | _ => exact iteF q
theorem scShape : FnScope ["thing"] ["thing"] (defScope sShape) := ⟨rfl, rfl, rfl, by decide +kernel, rfl, by decide +kernel, by decide +kernel⟩
theorem ok_shape {f aS : Addr} {fd : FuncData} (F : Fun K "_has_shape" "_has_shape" sShape f fd) (M : SameG mg) (mS : mg "SHAPES" = some (.ref aS)) (hS : ∀ H, Dp K H (.ref aS) shapesD) : FnOk P w K mg base CX0 1 f fd ["thing"] spShape := by
  refine F.ok scShape (fun vs H Q E h => ?_) (fun cdv A outer s H vs Q E hr h => ?_)
  · obtain ⟨b, v, d, rfl, _⟩ := h
    rfl
  obtain ⟨b, v, d, rfl, D, ok, q⟩ := h
  refine ⟨_, pss_cons (ps_if (PW.pt (pw_or (pt_not (pt_val (pe_callB (id := "isinstance") call_isi (by rfl) M.isi (by decide +kernel) (pa_cons (pv 0) (pa_cons (pe_bltn (v := .ty "tuple") (by rfl) M.tuple (by decide +kernel) rfl) pa_nil)))))
      (pw_or1 (pt_not (pt_truth (pv 0) (by intro _; rfl)))))) (pss_one (ps_ret pe_bl)) pss_nil)
    (pss_one (ps_ret (pe_cmpR (op_inT (hu65 hr)) (pe_tup (pa_cons (pe_ix ix_tup (pv 0) pe_int (fun _ _ => rfl)) (pa_cons (pe_callB call_len_seq (by rfl) M.len PySem.boot_len (pa_cons (pv 0) pa_nil)) pa_nil))) (pe_glob (v := .ref aS) rfl mS rfl) (by rfl)))), ?_⟩
  refine ⟨_, rfl, _, _, _, _, isU d, rfl, .ty "tuple", D.tyx, kitU d, isU d, rfl, ?_⟩
  cases d with
  | tuple ds =>
    obtain ⟨a, xs, rfl, ha, A'⟩ := D.tup_of
    refine iteF ⟨_, rfl, !xs.isEmpty, .inr (.inl ⟨xs, .inl (.inl ha), rfl⟩), ?_⟩
    cases xs with
    | nil =>
      refine iteT (q false H ⟨(fun e => nomatch e), ?_⟩ (Same.refl H))
      rintro ⟨x, ds', e, _⟩
      injection e with e
      subst e
      have := A'.len
      simp at this
    | cons x0 xr =>
      obtain ⟨d0, dr, rfl, D0, Dr⟩ := A'.head
      have el := Dr.len
      refine iteF ⟨_, rfl, a, _, _, _, rfl, rfl, .inl (.inl ha), at_of (j := 0) rfl rfl, _, rfl, a, _, rfl, .inr (.inl (.inl ha)), (by show 2 ≤ sizeLine; decide), fun p hp => ?_⟩
      have s1 := same_new hp (.tup [x0, .int (((x0 :: xr).length : Nat) : Int)])
      have o0 := ok.tup d0 (by simp)
      refine ⟨.tuple [d0, .int ((dr.length + 1 : Nat) : Int)], shapesL, .tup (.inl (.inl upd_same)) (.cons (D0.same s1).dp (.cons ?_ .nil)), hS _, ?_, by decide +kernel, ?_⟩
      · rw [List.length_cons, el]; exact .int _
      · refine shaped_of ?_ ?_
        · simp [PyData.canLay0, PyData.canLayAll0, o0.1]
        · have := o0.2
          simp only [PyData.depth, PyData.depthAll]
          omega
      · exact q _ _ shapes_any s1
  | _ => exact iteT (q false H ⟨(fun e => nomatch e), (fun ⟨x, ds', e, _⟩ => nomatch e)⟩ (Same.refl H))
end
end Rp

/-! Data of small ints and a few short texts: how large they are, what is said of them. -/
namespace Rp
open PySem PySem.Spec PyProof.Rows L2
def okText (x : Str) : Prop := x = "" ∨ x = "0" ∨ x = "s" ∨ x = "f" ∨ x = "x" ∨ x = "g" ∨ x = "x0"
mutual
def fine (U : List Int) : PyData → Prop
  | .none => True | .bool _ => True | .int i => i ∈ U | .str x => okText x | .list ds => fineAll U ds | .tuple ds => fineAll U ds | .dict _ => False
def fineAll (U : List Int) : List PyData → Prop
  | [] => True
  | d :: ds => fine U d ∧ fineAll U ds
end
mutual
def nd : PyData → Nat
  | .list ds => ndAll ds + 1 | .tuple ds => ndAll ds + 1 | _ => 1
def ndAll : List PyData → Nat
  | [] => 0
  | d :: ds => nd d + ndAll ds
end
theorem nd_pos (d : PyData) : 1 ≤ nd d := by cases d <;> simp [nd]
theorem ndAll_append : ∀ a b : List PyData, ndAll (a ++ b) = ndAll a + ndAll b
  | [], b => by simp [ndAll]
  | x :: a, b => by simp only [List.cons_append, ndAll, ndAll_append a b]; omega
theorem ndAll_mem : ∀ {ds : List PyData} {d : PyData}, d ∈ ds → nd d ≤ ndAll ds
  | x :: ds, d, h => by
    simp only [ndAll]
    rcases List.mem_cons.mp h with rfl | h
    · omega
    · have := ndAll_mem h; omega
theorem ndAll_len : ∀ ds : List PyData, ds.length ≤ ndAll ds
  | [] => Nat.le_refl _
  | d :: ds => by have := ndAll_len ds; have := nd_pos d; simp only [ndAll, List.length_cons]; omega
theorem fineAll_iff {U : List Int} : ∀ {ds : List PyData}, fineAll U ds ↔ ∀ d ∈ ds, fine U d
  | [] => by simp [fineAll]
  | d :: ds => by simp only [fineAll, fineAll_iff (ds := ds), List.forall_mem_cons]
theorem depthAll_iff {k : Nat} : ∀ {ds : List PyData}, PyData.depthAll ds ≤ k ↔ ∀ d ∈ ds, d.depth ≤ k
  | [] => by simp [PyData.depthAll]
  | d :: ds => by simp only [PyData.depthAll, List.forall_mem_cons, ← depthAll_iff (ds := ds)]; omega
theorem okText_lay {x : Str} (h : okText x) : PyData.canLay0 (.str x) = true ∧ x.cps.size ≤ 2 := by
  rcases h with rfl | rfl | rfl | rfl | rfl | rfl | rfl <;> exact ⟨by decide +kernel, by decide +kernel⟩
/-- the few ints of a row of data -/
structure Few (U : List Int) : Prop where
  le : ∀ i ∈ U, -1 ≤ i ∧ i ≤ 100
  len : U.length ≤ 200
mutual
theorem fine_lay {U : List Int} (hU : Few U) : ∀ d : PyData, fine U d → d.canLay0 = true ∧ d.showable = true ∧ d.intsShort 13 = true ∧ d.hasDict = false ∧ d.weight + 1 ≤ 110 * nd d
  | .none, _ => ⟨rfl, rfl, rfl, rfl, by decide⟩
  | .bool b, _ => ⟨rfl, rfl, rfl, rfl, by simp [PyData.weight, nd]⟩
  | .int i, h => by
    have h : -1 ≤ i ∧ i ≤ 100 := hU.le i h
    have a : i.natAbs ≤ 100 := by omega
    have b := Nat.log2_le_self i.natAbs
    refine ⟨rfl, ?_, ?_, rfl, ?_⟩
    · simp only [PyData.showable, decide_eq_true_eq]; omega
    · simp only [PyData.intsShort, decide_eq_true_eq]; exact PyData.shown_int_le (by omega)
    · simp only [PyData.weight, nd]; split <;> omega
  | .str x, h => by
    have z := okText_lay h
    refine ⟨z.1, rfl, rfl, rfl, ?_⟩
    simp only [PyData.weight, nd]
    omega
  | .list ds, h => by
    have z := fine_layAll hU ds h
    simp only [PyData.canLay0, PyData.showable, PyData.intsShort, PyData.hasDict, PyData.weight, nd]
    refine ⟨z.1, z.2.1, z.2.2.1, z.2.2.2.1, by omega⟩
  | .tuple ds, h => by
    have z := fine_layAll hU ds h
    simp only [PyData.canLay0, PyData.showable, PyData.intsShort, PyData.hasDict, PyData.weight, nd]
    refine ⟨z.1, z.2.1, z.2.2.1, z.2.2.2.1, by omega⟩
  | .dict _, h => h.elim
theorem fine_layAll {U : List Int} (hU : Few U) : ∀ ds : List PyData, fineAll U ds → PyData.canLayAll0 ds = true ∧ PyData.showableAll ds = true ∧ PyData.intsShortAll 13 ds = true ∧ PyData.hasDictAll ds = false ∧ PyData.weightAll ds ≤ 110 * ndAll ds
  | [], _ => ⟨rfl, rfl, rfl, rfl, by decide⟩
  | d :: ds, h => by
    have h : fine U d ∧ fineAll U ds := h
    have a := fine_lay hU d h.1
    have b := fine_layAll hU ds h.2
    simp only [PyData.canLayAll0, PyData.showableAll, PyData.intsShortAll, PyData.hasDictAll, PyData.weightAll, ndAll, Bool.and_eq_true, Bool.or_eq_false_iff]
    exact ⟨⟨a.1, b.1⟩, ⟨a.2.1, b.2.1⟩, ⟨a.2.2.1, b.2.2.1⟩, ⟨a.2.2.2.1, b.2.2.2.1⟩, by omega⟩
end
/-- fine, of at most n nodes, at most k deep -/
structure Good (U : List Int) (n k : Nat) (d : PyData) : Prop where
  fine : fine U d
  nd : nd d ≤ n
  dp : d.depth ≤ k
theorem Good.more {U : List Int} {n k n' k' : Nat} {d : PyData} (h : Good U n k d) (hn : n ≤ n') (hk : k ≤ k') : Good U n' k' d := ⟨h.fine, by have := h.nd; omega, by have := h.dp; omega⟩
theorem Good.ok {U : List Int} (hU : Few U) {n k : Nat} {d : PyData} (h : Good U n k d) (hk : k ≤ 60) : okD d := ⟨(fine_lay hU d h.fine).1, by have := h.dp; omega⟩
theorem Good.shown {U : List Int} (hU : Few U) {n k : Nat} {d : PyData} (h : Good U n k d) (hn : n ≤ 9000) (hk : k ≤ 60) : d.showable = true ∧ d.hasDict = false ∧ d.depth ≤ 64 ∧ d.shown.length ≤ 15728653 := by
  obtain ⟨h1, h2, h3, h4, h5⟩ := fine_lay hU d h.fine
  have n1 := h.nd
  have k1 := h.dp
  refine ⟨h2, h4, by omega, shown_le13 ?_ h3⟩
  unfold PyData.layable0
  rw [h1, decide_eq_true (by omega : d.depth ≤ 64), decide_eq_true (by omega : d.weight ≤ 2 ^ 20)]
  rfl
theorem Good.tup {U : List Int} {n k : Nat} {ds : List PyData} (h : Good U n k (.tuple ds)) : (∀ d ∈ ds, Rp.fine U d) ∧ ndAll ds + 1 ≤ n ∧ ∀ d ∈ ds, d.depth + 1 ≤ k := by
  refine ⟨fineAll_iff.mp h.fine, by simpa [Rp.nd] using h.nd, fun d hd => ?_⟩
  have k1 : PyData.depthAll ds + 1 ≤ k := by simpa [PyData.depth] using h.dp
  have := depthAll_iff.mp (Nat.le_refl (PyData.depthAll ds)) d hd
  omega
theorem Good.lst {U : List Int} {n k : Nat} {ds : List PyData} (h : Good U n k (.list ds)) : (∀ d ∈ ds, Rp.fine U d) ∧ ndAll ds + 1 ≤ n ∧ ∀ d ∈ ds, d.depth + 1 ≤ k := by
  refine ⟨fineAll_iff.mp h.fine, by simpa [Rp.nd] using h.nd, fun d hd => ?_⟩
  have k1 : PyData.depthAll ds + 1 ≤ k := by simpa [PyData.depth] using h.dp
  have := depthAll_iff.mp (Nat.le_refl (PyData.depthAll ds)) d hd
  omega
theorem good_lst {U : List Int} {n k : Nat} {ds : List PyData} (h : ∀ d ∈ ds, fine U d) (hn : ndAll ds + 1 ≤ n) (hk : ∀ d ∈ ds, d.depth + 1 ≤ k) (k1 : 1 ≤ k) : Good U n k (.list ds) := by
  refine ⟨fineAll_iff.mpr h, by simpa [Rp.nd] using hn, ?_⟩
  have : PyData.depthAll ds ≤ k - 1 := depthAll_iff.mpr fun d hd => by have := hk d hd; omega
  simp only [PyData.depth]
  omega
theorem good_tup {U : List Int} {n k : Nat} {ds : List PyData} (h : ∀ d ∈ ds, fine U d) (hn : ndAll ds + 1 ≤ n) (hk : ∀ d ∈ ds, d.depth + 1 ≤ k) (k1 : 1 ≤ k) : Good U n k (.tuple ds) := by
  refine ⟨fineAll_iff.mpr h, by simpa [Rp.nd] using hn, ?_⟩
  have : PyData.depthAll ds ≤ k - 1 := depthAll_iff.mpr fun d hd => by have := hk d hd; omega
  simp only [PyData.depth]
  omega
/-- a TERM's data are good -/
theorem tm_good {U : List Int} : ∀ t : Tm, (∀ n ∈ t.nums, n ∈ U) → Good U (2 * t.size) (t.deep + 1) (tmD t)
  | .v n, h => ⟨h n (by simp [Tm.nums]), by simp [tmD, Rp.nd, Tm.size], by simp [tmD, PyData.depth]⟩
  | .z, _ => ⟨⟨.inr (.inl rfl), trivial⟩, by simp [tmD, Rp.nd, ndAll, Tm.size], by simp [tmD, PyData.depth, PyData.depthAll]⟩
  | .s t, h => by
    have g := tm_good t h
    have h1 := g.nd
    have h2 := g.dp
    unfold tmD
    refine good_tup (fun d hd => ?_) ?_ (fun d hd => ?_) (by omega)
    · simp at hd; rcases hd with rfl | rfl
      · exact .inr (.inr (.inl rfl))
      · exact g.fine
    · simp only [ndAll, Rp.nd, Tm.size]; omega
    · simp at hd; rcases hd with rfl | rfl
      · simp [PyData.depth, Tm.deep]
      · simp only [Tm.deep]; omega
  | .f l r, h => by
    have g := tm_good l fun n hn => h n (by simp [Tm.nums, hn])
    have g' := tm_good r fun n hn => h n (by simp [Tm.nums, hn])
    have h1 := g.nd
    have h2 := g.dp
    have h3 := g'.nd
    have h4 := g'.dp
    unfold tmD
    refine good_tup (fun d hd => ?_) ?_ (fun d hd => ?_) (by omega)
    · simp at hd; rcases hd with rfl | rfl | rfl
      · exact .inr (.inr (.inr (.inl rfl)))
      · exact g.fine
      · exact g'.fine
    · simp only [ndAll, Rp.nd, Tm.size]; omega
    · simp at hd; rcases hd with rfl | rfl | rfl
      · simp [PyData.depth, Tm.deep]
      · simp only [Tm.deep]; omega
      · simp only [Tm.deep]; omega
/-- ints of a TERM among the data's -/
theorem tm_fine {U : List Int} : ∀ t : Tm, fine U (tmD t) → ∀ n ∈ t.nums, n ∈ U
  | .v n, h, m, hm => by simp [Tm.nums] at hm; subst hm; exact h
  | .z, h, m, hm => by simp [Tm.nums] at hm
  | .s t, h, m, hm => tm_fine t h.2.1 m hm
  | .f l r, h, m, hm => by
    rcases List.mem_append.mp hm with q | q
    · exact tm_fine l h.2.1 m q
    · exact tm_fine r h.2.2.1 m q
theorem nodup_le : ∀ {L U : List Int}, L.Nodup → (∀ k ∈ L, k ∈ U) → L.length ≤ U.length
  | [], U, _, _ => Nat.zero_le _
  | x :: L, U, h, hs => by
    rw [List.nodup_cons] at h
    have hx := hs x (by simp)
    have := nodup_le (L := L) (U := U.erase x) h.2 fun k hk => (List.mem_erase_of_ne (fun e => h.1 (by rw [← e]; exact hk))).mpr (hs k (by simp [hk]))
    rw [List.length_erase_of_mem hx] at this
    have := List.length_pos_of_mem hx
    rw [List.length_cons]
    omega
/-- the other way: a TERM's data tell its size -/
theorem tm_size : ∀ t : Tm, t.size ≤ nd (tmD t) ∧ t.deep ≤ (tmD t).depth
  | .v n => ⟨by simp [tmD, nd, Tm.size], by simp [Tm.deep]⟩
  | .z => ⟨by simp [tmD, nd, Tm.size], by simp [Tm.deep]⟩
  | .s t => by
    have := tm_size t
    simp only [tmD, nd, ndAll, Tm.size, Tm.deep, PyData.depth, PyData.depthAll]
    omega
  | .f l r => by
    have := tm_size l
    have := tm_size r
    simp only [tmD, nd, ndAll, Tm.size, Tm.deep, PyData.depth, PyData.depthAll]
    omega
end Rp

namespace Rp
open PySem PySem.Spec PyProof.Rows L2
def spTerm : Sp := fun vs H Q _ => ∃ (b : Addr) (v : V) (d : PyData), vs = [v] ∧ DAt H b v d ∧ okD d ∧ nd d ≤ 1000 ∧ ∀ (r : Bool) (H' : Hp), (r = true ↔ IsT d) → Same H H' → Q (.bl r) H'
theorem isVar_iff {d : PyData} (h : ¬ Shaped d) : isVar d = true ↔ IsT d := by
  cases d with
  | int n => rw [isT_int]; simp [isVar]
  | _ => exact ⟨fun e => by simp [isVar] at e, fun e => absurd e (isT_other h fun n z => by cases z)⟩
section
variable {P : Program} {w : World} {K : PySem.W.Frag} {mg : Str → Option Value} {base : Heap}
theorem scTerm : FnScope ["thing", "todo", "part"] ["thing"] (defScope sTerm) := ⟨rfl, rfl, rfl, by decide +kernel, rfl, by decide +kernel, by decide +kernel⟩
theorem ok_term {f fS fV : Addr} {fd dS dV : FuncData} (F : Fun K "is_term" "is_term" sTerm f fd)
    (GS : FnOk P w K mg base CX0 1 fS dS ["thing"] spShape) (kS : PySem.W.keepIn K (.ref fS) = true) (bS : Binds K dS ["thing"] []) (mS : mg "_has_shape" = some (.ref fS))
    (GV : FnOk P w K mg base CX0 2 fV dV ["thing"] spVariable) (kV : PySem.W.keepIn K (.ref fV) = true) (bV : Binds K dV ["thing"] []) (mV : mg "is_variable" = some (.ref fV)) :
    FnOk P w K mg base CX0 3 f fd ["thing"] spTerm := by
  refine F.ok scTerm (fun vs H Q E h => ?_) (fun cdv A outer s H vs Q E hr h => ?_)
  · obtain ⟨b, v, d, rfl, _⟩ := h
    rfl
  obtain ⟨b, v, d, rfl, D, ok, hn, q⟩ := h
  have r1 : Room 1 _ := hr.mono (by decide)
  refine ⟨_, pss_cons (ps_set (i := 1) scTerm.nd rfl (Or.inl rfl) (pe_lst (pa_cons (pv 0) pa_nil)))
    (pss_cons (ps_while PassesOwn.never (pt_truth (pv 1) (by intro _; rfl))
      (pss_cons (ps_set (i := 2) scTerm.nd rfl (Or.inl rfl) (pe_bm0 PySem.F.plainAttrs_list PySem.F.slot_list_pop PySem.F.type_list_pop mt_pop (pv 1)))
      (pss_one (ps_if (pt_val (pe_call GS r1 rfl mS kS bS .nil pass0 (pa_cons (pv 2) pa_nil)))
        (pss_one (ps_expr (pe_bm PySem.F.plainAttrs_list PySem.F.slot_list_extend PySem.F.type_list_extend mt_extendT (pv 1) (pa_cons (pe_slice sl_tup (pv 2) (po_some pe_int) po_none) pa_nil))))
        (pss_one (ps_if (pt_not (pt_val (pe_call GV hr rfl mV kV bV .nil pass0 (pa_cons (pv 2) pa_nil)))) (pss_one (ps_ret pe_bl)) pss_nil))))))
    (pss_one (ps_ret pe_bl))), ?_⟩
  refine ⟨_, rfl, (by show 1 ≤ sizeLine; decide), fun p hp => ?_⟩
  have s1 := same_new hp (.lst [v])
  dsimp only [gName, tSeq]
  refine ⟨fun m σ H2 => ∃ (txs : List V) (ds : List PyData) (x : Option V), σ = [some v, some (.ref p), x] ∧ H2 p = some (.lst txs) ∧ DAtAll H b txs ds ∧ (IsT d ↔ ∀ e ∈ ds, IsT e) ∧ (∀ e ∈ ds, okD e) ∧ ndAll ds ≤ 1000 ∧ m = ndAll ds ∧ Same H H2,
    ⟨nd d, [v], [d], none, rfl, upd_same, .cons D .nil, by simp, by simpa using ok, by simp [ndAll]; exact hn, by simp [ndAll], s1⟩, ?_⟩
  rintro m σ H2 ⟨txs, ds, x, rfl, h2, A1, iff, oks, few, rfl, sH⟩
  refine ⟨_, rfl, !txs.isEmpty, .inl ⟨txs, .inl (.inl h2), rfl⟩, ?_⟩
  rcases List.eq_nil_or_concat txs with e | ⟨M, y, e⟩
  · subst e
    refine iteF ?_
    have e2 : ds = [] := by have := A1.len; cases ds with | nil => rfl | cons => simp at this
    subst e2
    exact q true H2 ⟨fun _ => iff.mpr (by simp), fun _ => rfl⟩ sH
  · rw [List.concat_eq_append] at e
    subst e
    have ne : (!(M ++ [y]).isEmpty) = true := by simp
    rw [ne]
    refine iteT ⟨_, fun _ _ h => h, ?_⟩
    obtain ⟨L, k', e2, AM, Ay⟩ := A1.parted
    subst e2
    obtain ⟨k, rest, rfl, Dk, Ar⟩ := Ay.head
    obtain rfl : rest = [] := by have := Ar.len; cases rest with | nil => rfl | cons => simp at this
    have okk : okD k := oks k (by simp)
    have ilast : IsT d ↔ (∀ e ∈ L, IsT e) ∧ IsT k := by
      rw [iff]
      constructor
      · intro h; exact ⟨fun e he => h e (by simp [he]), h k (by simp)⟩
      · intro h e he
        rcases List.mem_append.mp he with he | he
        · exact h.1 e he
        · simp at he; subst he; exact h.2
    rw [ndAll_append] at few
    -- part = todo.pop()
    refine ⟨_, rfl, .inl ⟨rfl, _, .inl (.inl h2)⟩, p, _, y, rfl, rfl, h2, by simp, ?_⟩
    rw [List.dropLast_concat]
    have pn : H p = none := hp
    have s3 : Same H (upd H2 p (.lst M)) := fun c o z => by rw [upd_ne (ne_of_none z pn)]; exact sH c o z
    have nk : ndAll [k] = nd k := by simp [ndAll]
    refine ⟨_, rfl, b, y, k, rfl, Dk.same s3, okk, fun r H4 hr4 s4 => ?_⟩
    have h4 := s4 _ _ (upd_same : (upd H2 p (.lst M)) p = some (.lst M))
    have sH4 : Same H H4 := s3.trans s4
    cases r with
    | true =>
      refine ⟨true, rfl, iteT ?_⟩
      obtain ⟨sg, ds', rfl, sh⟩ := hr4.mp rfl
      obtain ⟨a, xs, rfl, ha, Ak⟩ := Dk.tup_of
      obtain ⟨x0, ks, rfl, D0, Dks⟩ := Ak.cons_of
      have nks : nd (PyData.tuple (.str sg :: ds')) = ndAll ds' + 2 := by simp [nd, ndAll]; omega
      refine ⟨_, rfl, .inl ⟨rfl, M, .inl (.inl h4)⟩, _, rfl, 1, rfl, a, _, rfl, .inl (.inl (sH4 _ _ ha)), cut_part _ _, fun g hg => ?_⟩
      rw [cut_tail]
      have s5 := same_new hg (.tup ks)
      have lim : M.length + ks.length ≤ sizeLine := by
        have a1 := AM.len
        have a2 := Dks.len
        have a3 := ndAll_len L
        have a4 := ndAll_len ds'
        have a5 : (1000 : Nat) + 1000 ≤ sizeLine := by decide
        omega
      refine ⟨p, g, M, ks, rfl, rfl, s5 _ _ h4, .inl (.inl upd_same), lim, ?_⟩
      refine ⟨ndAll (L ++ ds'), ?_, M ++ ks, L ++ ds', _, rfl, upd_same, AM.append Dks, ?_, ?_, ?_, rfl, ?_⟩
      · rw [ndAll_append, ndAll_append]; omega
      · rw [ilast, isT_shaped sh]
        constructor
        · rintro ⟨h1, h2⟩ e he
          rcases List.mem_append.mp he with he | he
          · exact h1 e he
          · exact h2 e he
        · intro h
          exact ⟨fun e he => h e (by simp [he]), fun e he => h e (by simp [he])⟩
      · intro e he
        rcases List.mem_append.mp he with he | he
        · exact oks e (by simp [he])
        · exact okk.tup e (by simp [he])
      · rw [ndAll_append]; omega
      · intro c o z
        rw [upd_ne (ne_of_none z pn)]
        exact s5 _ _ (sH4 _ _ z)
    | false =>
      refine ⟨false, rfl, iteF ?_⟩
      have ns : ¬ Shaped k := fun z => by have := hr4.mpr z; cases this
      refine ⟨_, rfl, b, y, k, rfl, Dk.same sH4, isVar k, rfl, ?_⟩
      cases ev : isVar k with
      | false =>
        refine iteT (q false H4 ⟨(fun e => nomatch e), fun z => ?_⟩ sH4)
        have := (isVar_iff ns).mpr (ilast.mp z).2
        rw [ev] at this
        cases this
      | true =>
        refine iteF ?_
        have tk := (isVar_iff ns).mp ev
        refine ⟨ndAll L, ?_, M, L, _, rfl, h4, AM, ?_, fun e he => oks e (by simp [he]), by omega, rfl, sH4⟩
        · rw [ndAll_append, nk]; have := nd_pos k; omega
        · rw [ilast]; exact ⟨fun h => h.1, fun h => ⟨h, tk⟩⟩
end
end Rp

/-! xs[a:] = ys, ys another list: what the layer has no statement of. -/
namespace Rp
open PySem PySem.Spec PyProof.Rows L2
theorem tail_bounds {k n : Nat} (h : k ≤ n) : sliceBounds (some (k : Int)) none none n = ((k : Int), (n : Int), 1) := by
  simp only [sliceBounds, Option.getD_none, show ¬ ((k : Int) < 0) by omega, if_false, show (1 : Int) > 0 by decide, if_true]
  congr 1
  · omega
theorem tail_items (old fresh : List Value) (k : Nat) : old.toArray.extract 0 k ++ fresh.toArray ++ old.toArray.extract old.toArray.size old.toArray.size = (old.take k ++ fresh).toArray := by
  apply Array.toList_inj.mp
  simp
section
variable {prog : Program} {w : World} {A : Around} {E : Value → Shared → Prop} {s : Shared}
theorem store_tail {at_ src cut : Addr} {old fresh : Array Value} {n1 n2 : Nat} {vlo : Value} {k : Nat} {Q : Unit → Shared → Prop} (oe : s.heap.get? at_ = some { cls := .type "list", data := .seq old n1 })
    (fe : s.heap.get? src = some { cls := .type "list", data := .seq fresh n2 }) (apart : at_ ≠ src) (isCut : s.heap.IsSliceOf cut vlo .none .none) (pLo : IsPart vlo (some (k : Int))) (hk : k ≤ old.size) (room : old.size + fresh.size ≤ sizeLine)
    (go : Q () { s with heap := s.heap.update at_ (Obj.mapSeq fun xs => xs.extract 0 k ++ fresh ++ xs.extract old.size xs.size) }) : wpAny (model prog w) A (setItem (.ref at_) (.ref cut) (.ref src)) Q E s := by
  have lstIs : s.heap.IsList at_ old := PySem.IsL.isList oe
  have srcIs : s.heap.IsList src fresh := PySem.IsL.isList fe
  obtain ⟨oc, hoc, hcc, hdc⟩ := id isCut
  have cutIs : s.TypeIs (.ref cut) "slice" := ⟨oc, hoc, hcc⟩
  have noStep : ¬ ((rawPart none == rawInt 0) = true) := Bool.false_ne_true
  have other : Builtin.List.listSameRef (.ref at_) (.ref src) = false := by unfold Builtin.List.listSameRef; exact beq_eq_false_iff_ne.mpr apart
  have bound : ((fun xs : Array Value => xs.extract 0 k ++ fresh ++ xs.extract old.size xs.size) old).size ≤ sizeLine + 1 := by simp only [Array.size_append, Array.size_extract]; omega
  unfold setItem; try with_reducible refine wpAny_holding ?_
  first | refine wpAny_bind (wpAny_pure ?_) | skip
  refine wpAny_bind (wpAny_sequenceKey lstIs.typeIs (by decide) (wpAny_bind (wpAny_callSpecial?_slot (name := Str.ofString "__setitem__") lstIs.typeIs slot_list_setitem (wpAny_call_entry slot_list_setitem lstIs.typeIs entry_list_setitem ?_ (args_list_setitem _ _ _)))))
  show wpAny _ _ (Builtin.List.listSubscript? (.ref cut) >>= _) _ _ s
  refine wpAny_bind ?_; unfold Builtin.List.listSubscript?
  refine wpAny_bind (wpAny_specialOf cutIs slice_no_index ?_); simp only [Option.isNone_none, if_true]
  refine wpAny_pure ?_; show wpAny _ _ (typeOf (.ref cut) >>= _) _ _ s
  refine wpAny_bind (wpAny_typeOf cutIs ?_)
  first | rw [if_neg (by decide)] | refine PySem.W.KFB.if_not (by decide) ?_
  rw [listSliceParts_eq]; refine wpAny_bind (wpAny_bind (wpAny_field hoc hdc (x := .none) rfl (wpAny_bind (wpAny_listPart .none ?_))))
  rw [if_neg noStep]; refine wpAny_bind (wpAny_field hoc hdc (x := vlo) rfl (wpAny_bind (wpAny_listPart pLo ?_)))
  refine wpAny_bind (wpAny_field hoc hdc (x := .none) rfl (wpAny_bind (wpAny_listPart .none (wpAny_pure ?_))))
  first | simp only [other, Bool.false_eq_true, if_false] | refine PySem.W.KFB.if_not other ?_ | (dsimp only; rw [if_neg (by rw [other]; exact Bool.false_ne_true)])
  refine wpAny_bind (m := Builtin.List.listAllItems (.ref src) "must assign iterable to extended slice") ?_; unfold Builtin.List.listAllItems
  refine wpAny_bind (wpAny_typeOf srcIs.typeIs ?_)
  first | refine PySem.W.KFB.if_so (by decide) ?_ | rw [if_pos (by decide)] | simp only [beq_self_eq_true, Bool.true_or, if_true]
  unfold Builtin.List.listItems; refine wpAny_bind (wpAny_seqItems fe rfl (wpAny_pure ?_))
  refine wpAny_bind (wpAny_bind (wpAny_seqItems oe rfl (wpAny_pure ?_)))
  refine wpAny_bind (wpAny_of_eq ((sliceIndices_raw (some (k : Int)) none none old.size (by simp)).trans (congrArg (pure : Int × Int × Int → Sem (Int × Int × Int)) (tail_bounds hk))) ?_)
  show wpAny _ _ (if ((1 : Int) == 1) = true then _ else _) _ _ s; rw [if_pos (by decide)]
  refine wpAny_bind (wpAny_rule ?_); have small := notLongL room
  first | simp only [small, Bool.false_eq_true, if_false] | refine PySem.W.KFB.if_not small ?_
  first | refine wpAny_bind (wpAny_pure ?_) | skip
  show wpAny _ _ (updateSeq at_ (fun xs => xs.extract 0 ((k : Int)).toNat ++ fresh ++ xs.extract (max (k : Int) (old.size : Int)).toNat xs.size) >>= _) _ _ s
  rw [show (max (k : Int) (old.size : Int)).toNat = old.size by omega, Int.toNat_natCast]
  refine wpAny_bind (wpAny_updateSeq (hz := Nat.le_trans (Nat.le_add_right _ _) room) (_hz' := bound) oe rfl (wpAny_bind (wpAny_letGo ?_)))
  first | exact wpAny_bind (wpAny_pure (wpAny_pure ⟨.none, rfl, wpAny_pure go⟩)) | exact wpAny_pure ⟨.none, rfl, wpAny_pure go⟩
end
/-- xs[a:] = ys -/
def tTail (to : TE) (ta : TO) (tv : TE) : TS := fun D σ H => tv σ H fun y H1 => to σ H1 fun x H2 => ta σ H2 fun i H3 => ∃ (l b : Addr) (xs ys : List V) (k : Nat), y = .ref b ∧ x = .ref l ∧ i = some (k : Int) ∧ H3 l = some (.lst xs) ∧ H3 b = some (.lst ys) ∧ l ≠ b ∧ k ≤ xs.length ∧ xs.length + ys.length ≤ sizeLine ∧
  D.nx σ (upd H3 l (.lst (xs.take k ++ ys)))
section
variable {X : Cx} {o e value : Expr} {pos pos' p2 : Pos} {td tv : TE} {ta : TO}
theorem ps_tail (ho : PE X o td) (hi : PO X (some e) ta) (hv : PE X value tv) (hs : swapsWith value (some (.Subscript o (.Slice (some e) none none p2) pos')) pos.line X.env = pure false := by rfl) :
    PS X (.Assign [.Subscript o (.Slice (some e) none none p2) pos'] value pos) (tTail td ta tv) := by
  refine ⟨fun pins s σ H D I h => wpAny_Assign_Subscript (thn (hv.run pins s σ H _ I h) fun r s1 ⟨v, H1, I1, rv, q1⟩ => thn (ho.run pins s1 σ H1 _ I1 q1) fun u s2 ⟨x, H2, I2, rx, q2⟩ => ?_) hs⟩
  refine wpAny_Slice (thn (hi.run pins s2 σ H2 _ I2 q2) fun vl s3 ⟨i, H3, I3, pl, q3⟩ => ?_)
  obtain ⟨l, b, xs, ys, k, rfl, rfl, rfl, hl, hb, ne, hk, room, go⟩ := q3
  rw [evalPart_none]
  refine wpAny_pure (wpAny_pure ?_)
  cases rv
  cases rx
  have I4 : Inv X pins σ H3 { s3 with heap := s3.heap.push { cls := .type "slice", data := .fields #[vl, .none, .none] } } := I3.kept (t' := s3.toks) fun c ob w => Heap.get?_push_of_some _ w
  obtain ⟨_, old, n1, ro, lo, oe⟩ := I4.lstM hl
  obtain ⟨_, fresh, n2, rf, lf, fe⟩ := I4.lstM hb
  refine store_tail (k := k) oe fe ne (Heap.IsSliceOf.new ..) pl (by rw [List.size_toArray]; omega) (by rw [List.size_toArray, List.size_toArray]; omega) ?_
  refine ⟨σ, _, I4.lset (its' := old.take k ++ fresh) (t' := s3.toks) hl oe ?_ (Vals.append (ro.take _) rf) ?_, go⟩
  · exact tail_items old fresh k
  · rw [List.length_append, List.length_take]; omega
end
end Rp

/-! Texts of TERMs, and the fold that makes them. -/
namespace Rp
open PySem PySem.Spec PyProof.Rows L2
namespace Tm
/-- a sign with the texts of its parts -/
def put1 : Tm → List Str → Str
  | v n, _ => "x" ++ (Str.ofString (toString n))
  | z, _ => "0"
  | s _, ys => "s" ++ "(" ++ Txt.join "," ys ++ ")"
  | f _ _, ys => "f" ++ "(" ++ Txt.join "," ys ++ ")"
def txt : Tm → Str
  | v n => put1 (v n) []
  | z => put1 z []
  | s t => put1 (s t) [t.txt]
  | f l r => put1 (f l r) [l.txt, r.txt]
theorem txt_kids (t : Tm) : t.txt = t.put1 (t.kids.map txt) := by cases t <;> rfl
def small (t : Tm) : Prop := ∀ n ∈ t.nums, 0 ≤ n ∧ n ≤ 99
end Tm
theorem slen (a b : Str) : (a ++ b).length = a.length + b.length := Str.length_append a b
theorem num_len {n : Int} (h : 0 ≤ n ∧ n ≤ 99) : (Str.ofString (toString n)).length ≤ 3 := by
  rw [PySem.ofString_length]
  exact int_text_length_le10 (k := 2) (by decide) (by omega)
theorem join1 (a x : Str) : Txt.join a [x] = x := by rw [TL.join_eq]; simp [Str.join]
theorem join2 (a x y : Str) : Txt.join a [x, y] = x ++ a ++ y := by rw [TL.join_eq]; simp [Str.join]
theorem txt_len : ∀ t : Tm, t.small → t.txt.length ≤ 4 * t.size
  | .v n, h => by
    have := num_len (h n (by simp [Tm.nums]))
    show (("x" : Str) ++ (Str.ofString (toString n))).length ≤ 4
    rw [slen]
    have : ("x" : Str).length = 1 := by decide +kernel
    omega
  | .z, _ => by decide +kernel
  | .s t, h => by
    have := txt_len t h
    show (("s" : Str) ++ "(" ++ Txt.join "," [t.txt] ++ ")").length ≤ 4 * (t.size + 1)
    rw [join1, slen, slen, slen]
    have a : ("s" : Str).length = 1 := by decide +kernel
    have b : ("(" : Str).length = 1 := by decide +kernel
    have c : (")" : Str).length = 1 := by decide +kernel
    omega
  | .f l r, h => by
    have := txt_len l fun n hn => h n (by simp [Tm.nums, hn])
    have := txt_len r fun n hn => h n (by simp [Tm.nums, hn])
    show (("f" : Str) ++ "(" ++ Txt.join "," [l.txt, r.txt] ++ ")").length ≤ 4 * (l.size + r.size + 1)
    rw [join2, slen, slen, slen, slen, slen]
    have a : ("f" : Str).length = 1 := by decide +kernel
    have b : ("(" : Str).length = 1 := by decide +kernel
    have c : (")" : Str).length = 1 := by decide +kernel
    have d : ("," : Str).length = 1 := by decide +kernel
    omega
/-! ### the stack -/
def runs : List Tm → List Tm → List Tm → Prop
  | S, [], S' => S = S'
  | S, k :: r, S' => ∃ S0, S = S0 ++ k.kids ∧ runs (S0 ++ [k]) r S'
theorem runs_post : ∀ (t : Tm) (S r S' : List Tm), runs (S ++ [t]) r S' → runs S (t.rpost.reverse ++ r) S'
  | .v n, S, r, S', h => by simp only [Tm.rpost, List.reverse_singleton, List.singleton_append]; exact ⟨S, by simp [Tm.kids], h⟩
  | .z, S, r, S', h => by simp only [Tm.rpost, List.reverse_singleton, List.singleton_append]; exact ⟨S, by simp [Tm.kids], h⟩
  | .s t, S, r, S', h => by
    simp only [Tm.rpost, List.reverse_cons, List.append_assoc, List.singleton_append]
    exact runs_post t S _ _ ⟨S, by simp [Tm.kids], h⟩
  | .f l r', S, r, S', h => by
    simp only [Tm.rpost, List.reverse_cons, List.reverse_append, List.append_assoc, List.singleton_append]
    refine runs_post l S _ _ (runs_post r' (S ++ [l]) _ _ ⟨S, by simp [Tm.kids], h⟩)
theorem part_of : ∀ {t k : Tm}, k ∈ t.rpost → k.size ≤ t.size ∧ ∀ n ∈ k.nums, n ∈ t.nums
  | .v n, k, h => by simp [Tm.rpost] at h; subst h; exact ⟨Nat.le_refl _, fun n h => h⟩
  | .z, k, h => by simp [Tm.rpost] at h; subst h; exact ⟨Nat.le_refl _, fun n h => h⟩
  | .s t, k, h => by
    simp [Tm.rpost] at h
    rcases h with rfl | h
    · exact ⟨Nat.le_refl _, fun n h => h⟩
    · have := part_of h
      exact ⟨by simp only [Tm.size]; omega, this.2⟩
  | .f l r, k, h => by
    simp [Tm.rpost] at h
    rcases h with rfl | h | h
    · exact ⟨Nat.le_refl _, fun n h => h⟩
    · have := part_of h
      exact ⟨by simp only [Tm.size]; omega, fun n hn => List.mem_append.mpr (.inr (this.2 n hn))⟩
    · have := part_of h
      exact ⟨by simp only [Tm.size]; omega, fun n hn => List.mem_append.mpr (.inl (this.2 n hn))⟩
def spTextOf (K : PySem.W.Frag) : Sp := fun vs H Q _ => ∃ (v : V) (t : Tm) (a : Addr), vs = [v, .ref a] ∧ TmAt H v t ∧ t.small ∧ t.size ≤ 1000 ∧ H a = some (.lst ((t.kids.map Tm.txt).map V.str)) ∧ Q (.str t.txt) H
def spFold (fO : Addr) : Sp := fun vs H Q _ => ∃ (v : V) (t : Tm), vs = [v, .ref fO] ∧ TmAt H v t ∧ t.small ∧ t.size ≤ 1000 ∧ ∀ H', Same H H' → Q (.str t.txt) H'
def spTermText : Sp := fun vs H Q _ => ∃ (v : V) (t : Tm), vs = [v] ∧ TmAt H v t ∧ t.small ∧ t.size ≤ 1000 ∧ ∀ H', Same H H' → Q (.str t.txt) H'
section
variable {P : Program} {w : World} {K : PySem.W.Frag} {mg : Str → Option Value} {base : Heap}
theorem scTextOf : FnScope ["part", "texts", "inner"] ["part", "texts"] (defScope sTextOf) := ⟨rfl, rfl, rfl, by decide +kernel, rfl, by decide +kernel, by decide +kernel⟩
theorem ok_textof {f : Addr} {fd : FuncData} (F : Fun K "_text_of" "_text_of" sTextOf f fd) (mIsi : mg "isinstance" = none) (mInt : mg "int" = none) : FnOk P w K mg base CX0 1 f fd ["part", "texts"] (spTextOf K) := by
  refine F.ok scTextOf (fun vs H Q E h => ?_) (fun cdv A outer s H vs Q E hr h => ?_)
  · obtain ⟨v, t, a, rfl, _⟩ := h
    rfl
  obtain ⟨v, t, a, rfl, T, sm, sz, ha, q⟩ := h
  refine ⟨_, pss_cons (ps_if (pt_val (pe_callB (id := "isinstance") call_isi (by rfl) mIsi (by decide +kernel) (pa_cons (pv 0) (pa_cons (pe_bltn (v := .ty "int") (by rfl) mInt (by decide +kernel) rfl) pa_nil)))) (pss_one (ps_ret (pe_joined (.cons pe_str (.cons (pe_fmt (pv 0)) .nil))))) pss_nil)
    (pss_cons (ps_if (pt_not (pt_truth (pv 1) (by intro _; rfl))) (pss_one (ps_ret (pe_ix ix_tup (pv 0) pe_int (fun _ _ => rfl)))) pss_nil)
    (pss_cons (ps_set (i := 2) scTextOf.nd rfl (Or.inl rfl) (pe_bm PySem.F.plainAttrs_str PySem.F.slot_str_join PySem.F.type_str_join mt_join pe_str (pa_cons (pv 1) pa_nil)))
    (pss_one (ps_ret (pe_joined (.cons (pe_fmt (pe_ix ix_tup (pv 0) pe_int (fun _ _ => rfl))) (.cons pe_str (.cons (pe_fmt (pv 2)) (.cons pe_str .nil))))))))), ?_⟩
  have tl := txt_len t sm
  have big : (10000 : Nat) ≤ sizeLine := by decide
  rcases T.ty (K := K) with ⟨m, rfl, rfl⟩ | ⟨b, xs, rfl, hb, ty, no⟩
  · refine ⟨_, rfl, _, _, _, _, true, rfl, .ty "int", .base (.int m), kit_ii, true, rfl, iteT ?_⟩
    have hm := sm m (by simp [Tm.nums])
    refine ⟨_, rfl, ?_, _, rfl, .inr ⟨m, rfl, ?_, ?_⟩⟩
    · rw [Str.empty_append]; exact Nat.le_trans (by decide +kernel : ("x" : Str).length ≤ 10) (by decide)
    · have := Nat.log2_le_self m.natAbs
      omega
    · refine ⟨_, rfl, ?_, ?_⟩
      · rw [Str.empty_append, slen]
        have := num_len hm
        have : ("x" : Str).length = 1 := by decide +kernel
        exact Nat.le_trans (by omega : _ ≤ 10) (by decide)
      · rw [Str.empty_append]
        exact q
  · obtain ⟨a', ks, e, ha', hk, hks⟩ := T.tupled no
    cases e
    refine ⟨_, rfl, _, _, _, _, false, rfl, .ty "int", ty, kit_ti, false, rfl, iteF ?_⟩
    refine ⟨_, rfl, _, .inl ⟨_, .inl (.inl ha), rfl⟩, ?_⟩
    have lim : ∀ x : Str, x.length ≤ 10000 → x.length ≤ sizeLine := fun x h => Nat.le_trans h big
    have l1 : ("s" : Str).length = 1 := by decide +kernel
    have l2 : ("f" : Str).length = 1 := by decide +kernel
    have l3 : ("(" : Str).length = 1 := by decide +kernel
    have l4 : (")" : Str).length = 1 := by decide +kernel
    have l5 : ("," : Str).length = 1 := by decide +kernel
    cases t with
    | v n => exact absurd rfl (no n)
    | z =>
      refine iteT ⟨_, rfl, _, _, _, _, rfl, rfl, .inl (.inl ha'), at_of (j := 0) rfl rfl, q⟩
    | s t =>
      have tz : (Txt.join "," [t.txt]).length ≤ 9000 := by
        rw [join1]; have := txt_len t sm; simp only [Tm.size] at sz; omega
      refine iteF ⟨rfl, _, rfl, _, a, [t.txt], rfl, rfl, .inl (.inl (.inl ha)), ?_, ?_⟩
      · simp only [List.map_cons, List.map_nil, List.sum_cons, List.sum_nil, List.length_cons, List.length_nil]
        have := txt_len t sm; simp only [Tm.size] at sz; omega
      refine ⟨_, rfl, _, _, _, _, rfl, rfl, .inl (.inl ha'), at_of (j := 0) rfl rfl, .inl ⟨_, rfl, lim _ ?_, _, rfl, lim _ ?_, _, rfl, lim _ ?_, _, rfl, .inl ⟨_, rfl, lim _ ?_, _, rfl, lim _ ?_, _, rfl, lim _ ?_, ?_⟩⟩⟩
      · show ("s" : Str).length ≤ _; omega
      · show (Str.empty ++ ("s" : Str)).length ≤ _; rw [Str.empty_append]; omega
      · show (Str.empty ++ ("s" : Str) ++ "(").length ≤ _; rw [Str.empty_append, slen]; omega
      · omega
      · show (Str.empty ++ ("s" : Str) ++ "(" ++ Txt.join "," [t.txt]).length ≤ _; rw [Str.empty_append, slen, slen]; omega
      · show (Str.empty ++ ("s" : Str) ++ "(" ++ Txt.join "," [t.txt] ++ ")").length ≤ _; rw [Str.empty_append, slen, slen, slen]; omega
      · show Q (.str (Str.empty ++ ("s" : Str) ++ "(" ++ Txt.join "," [t.txt] ++ ")")) H; rw [Str.empty_append]; exact q
    | f l r =>
      have tz : (Txt.join "," [l.txt, r.txt]).length ≤ 9000 := by
        rw [join2, slen, slen]; have := txt_len l (fun n hn => sm n (by simp [Tm.nums, hn])); have := txt_len r (fun n hn => sm n (by simp [Tm.nums, hn])); simp only [Tm.size] at sz; omega
      refine iteF ⟨rfl, _, rfl, _, a, [l.txt, r.txt], rfl, rfl, .inl (.inl (.inl ha)), ?_, ?_⟩
      · simp only [List.map_cons, List.map_nil, List.sum_cons, List.sum_nil, List.length_cons, List.length_nil]
        have := txt_len l (fun n hn => sm n (by simp [Tm.nums, hn])); have := txt_len r (fun n hn => sm n (by simp [Tm.nums, hn])); simp only [Tm.size] at sz; omega
      refine ⟨_, rfl, _, _, _, _, rfl, rfl, .inl (.inl ha'), at_of (j := 0) rfl rfl, .inl ⟨_, rfl, lim _ ?_, _, rfl, lim _ ?_, _, rfl, lim _ ?_, _, rfl, .inl ⟨_, rfl, lim _ ?_, _, rfl, lim _ ?_, _, rfl, lim _ ?_, ?_⟩⟩⟩
      · show ("f" : Str).length ≤ _; omega
      · show (Str.empty ++ ("f" : Str)).length ≤ _; rw [Str.empty_append]; omega
      · show (Str.empty ++ ("f" : Str) ++ "(").length ≤ _; rw [Str.empty_append, slen]; omega
      · omega
      · show (Str.empty ++ ("f" : Str) ++ "(" ++ Txt.join "," [l.txt, r.txt]).length ≤ _; rw [Str.empty_append, slen, slen]; omega
      · show (Str.empty ++ ("f" : Str) ++ "(" ++ Txt.join "," [l.txt, r.txt] ++ ")").length ≤ _; rw [Str.empty_append, slen, slen, slen]; omega
      · show Q (.str (Str.empty ++ ("f" : Str) ++ "(" ++ Txt.join "," [l.txt, r.txt] ++ ")")) H; rw [Str.empty_append]; exact q
end
end Rp

namespace Rp
open PySem PySem.Spec PyProof.Rows L2
theorem drop_min {α : Type} (xs : List α) (i : Nat) : xs.drop (min i xs.length) = xs.drop i := by
  rcases Nat.le_total i xs.length with h | h
  · rw [Nat.min_eq_left h]
  · rw [Nat.min_eq_right h, List.drop_length, List.drop_of_length_le h]
theorem cut_from {xs : List V} {i : Nat} {a : Int} (h : a = (i : Nat)) : cutV xs (some a) none = xs.drop i := by
  subst h
  unfold cutV
  rw [HT.sIx_none, HT.sIx_nat, drop_min]
  refine List.take_of_length_le ?_
  rw [List.length_drop]
  omega
section
variable {P : Program} {w : World} {K : PySem.W.Frag} {mg : Str → Option Value} {base : Heap}
theorem scFold : FnScope ["term", "made_of", "made", "part", "first"] ["term", "made_of"] (defScope sFold) := ⟨rfl, rfl, rfl, by decide +kernel, rfl, by decide +kernel, by decide +kernel⟩
theorem ok_fold {f fI fP fO : Addr} {fd dI dP dO : FuncData} (F : Fun K "fold" "fold" sFold f fd)
    (GI : FnOk P w K mg base CX0 2 fI dI ["term"] spInside) (kI : PySem.W.keepIn K (.ref fI) = true) (bI : Binds K dI ["term"] []) (mI : mg "inside_out" = some (.ref fI))
    (GP : FnOk P w K mg base CX0 1 fP dP ["term"] spParts) (kP : PySem.W.keepIn K (.ref fP) = true) (bP : Binds K dP ["term"] []) (mP : mg "parts_terms" = some (.ref fP))
    (GO : FnOk P w K mg base CX0 1 fO dO ["part", "texts"] (spTextOf K)) (kO : PySem.W.keepIn K (.ref fO) = true) (bO : Binds K dO ["part", "texts"] []) (mLen : mg "len" = none) :
    FnOk P w K mg base CX0 3 f fd ["term", "made_of"] (spFold fO) := by
  refine F.ok scFold (fun vs H Q E h => ?_) (fun cdv A outer s H vs Q E hr h => ?_)
  · obtain ⟨v, t, rfl, _⟩ := h
    rfl
  obtain ⟨v, t, rfl, T, sm, sz, q⟩ := h
  have r1 : Room 1 _ := hr.mono (by decide)
  refine ⟨_, pss_cons (ps_set (i := 2) scFold.nd rfl (Or.inl rfl) (pe_lst pa_nil))
    (pss_cons (ps_for PassesOwn.never rfl (pi_list (pe_call GI hr rfl mI kI bI .nil pass0 (pa_cons (pv 0) pa_nil))) (pg_name (i := 3) scFold.nd rfl (Or.inl rfl))
      (pss_cons (ps_set (i := 4) scFold.nd rfl (Or.inl rfl) (pe_op op_sub (pe_callB call_len_seq (by rfl) mLen PySem.boot_len (pa_cons (pv 2) pa_nil)) (pe_callB call_len_seq (by rfl) mLen PySem.boot_len (pa_cons (pe_call GP r1 rfl mP kP bP .nil pass0 (pa_cons (pv 3) pa_nil)) pa_nil))))
      (pss_one (ps_tail (pv 2) (po_some (pv 4)) (pe_lst (pa_cons (pe_callL (i := 1) GO r1 rfl (Or.inl rfl) kO bO .nil pass0 (pa_cons (pv 3) (pa_cons (pe_slice sl_list (pv 2) (po_some (pv 4)) po_none) pa_nil))) pa_nil))))))
    (pss_one (ps_ret (pe_ix ix_list (pv 2) pe_int (fun _ _ => rfl))))), ?_⟩
  refine ⟨(by show 0 ≤ sizeLine; decide), fun m hm => ?_⟩
  have s0 := same_new hm (.lst ([] : List V))
  refine ⟨_, rfl, v, t, rfl, T.same s0, sz, fun p xs H1 hp h1 A1 s1 => ?_⟩
  have hm1 := s1 _ _ (upd_same : (upd H m (.lst ([] : List V))) m = some (.lst []))
  have pm : p ≠ m := (ne_of_none (upd_same : (upd H m (.lst ([] : List V))) m = some (.lst [])) hp).symm
  have len := A1.len
  rw [List.length_reverse, Tm.rpost_len] at len
  have post : t.rpost.reverse.length = t.size := by rw [List.length_reverse, Tm.rpost_len]
  have big : (10000 : Nat) ≤ sizeLine := by decide
  refine ⟨p, rfl, ⟨_, .inl (.inl h1)⟩, for_list (K := K) (a := p) (xs := xs) (fun i σ H2 => ∃ (S : List Tm) (x3 x4 : Option V), σ = [some v, some (.ref fO), some (.ref m), x3, x4] ∧ H2 m = some (.lst ((S.map Tm.txt).map V.str)) ∧
      runs S (t.rpost.reverse.drop i) [t] ∧ (∀ k ∈ S, k ∈ t.rpost) ∧ S.length ≤ i ∧ But m H1 H2) ⟨[], none, none, rfl, hm1, ?_, by simp, by simp, But.refl _ _⟩ (fun i σ H2 _ ⟨_, _, _, _, _, _, _, _, o⟩ => .inl (.inl (o _ _ h1 pm))) ?_ ?_⟩
  · have := runs_post t [] [] [t] rfl
    simpa using this
  · rintro i x σ H2 hi ⟨S, x3, x4, rfl, h2, run, parts, sl, o2⟩
    obtain ⟨k, hk, Tk⟩ := A1.get hi
    have li : i < t.rpost.reverse.length := (List.getElem?_eq_some_iff.mp hk).1
    have ek : t.rpost.reverse.drop i = k :: t.rpost.reverse.drop (i + 1) := by
      rw [List.drop_eq_getElem_cons li, (List.getElem?_eq_some_iff.mp hk).2]
    rw [ek] at run
    obtain ⟨S0, rfl, run⟩ := run
    have km : k ∈ t.rpost := List.mem_reverse.mp (List.mem_of_getElem? hk)
    have pk := part_of km
    have smk : k.small := fun n hn => sm n (pk.2 n hn)
    have T2 := Tk.but o2 hm1
    rw [List.length_append] at sl
    refine ⟨_, rfl, m, _, rfl, .inl (.inl (.inl h2)), _, rfl, x, k, rfl, T2, fun g ks H3 hg h3 A3 s3 => ?_⟩
    have kl := A3.len
    refine ⟨g, _, rfl, .inr (.inl (.inl h3)), _, _, rfl, rfl, ?_⟩
    have h23 := s3 _ _ h2
    have first : (((((S0 ++ k.kids).map Tm.txt).map V.str).length : Nat) : Int) - ((ks.length : Nat) : Int) = ((S0.length : Nat) : Int) := by
      rw [List.length_map, List.length_map, List.length_append, kl]; omega
    refine ⟨rfl, _, rfl, _, rfl, _, rfl, _, rfl, m, _, rfl, .inl (.inl h23), fun d hd => ?_⟩
    have dm : d ≠ m := (ne_of_none h23 hd).symm
    rw [cut_from (i := S0.length) first]
    have cut : (((S0 ++ k.kids).map Tm.txt).map V.str).drop S0.length = (k.kids.map Tm.txt).map V.str := by
      rw [List.map_append, List.map_append, List.drop_left' (by rw [List.length_map, List.length_map])]
    rw [cut]
    have s4 := same_new hd (.lst ((k.kids.map Tm.txt).map V.str))
    refine ⟨x, k, d, rfl, (T2.same s3).same s4, smk, by omega, upd_same, ?_⟩
    refine ⟨(by show 1 ≤ sizeLine; decide), fun b hb => ?_⟩
    have s5 := same_new hb (.lst [V.str k.txt])
    have h25 := s5 _ _ (s4 _ _ h23)
    refine ⟨_, rfl, _, rfl, _, rfl, m, b, _, _, S0.length, rfl, rfl, congrArg some first, h25, upd_same, ne_of_none (s4 _ _ h23) hb, ?_, ?_, ?_⟩
    · rw [List.length_map, List.length_map, List.length_append]; omega
    · rw [List.length_map, List.length_map, List.length_append, List.length_singleton]; omega
    · refine ⟨S0 ++ [k], _, _, rfl, ?_, run, ?_, ?_, ?_⟩
      · rw [upd_same, List.map_append, List.map_append, List.take_left' (by rw [List.length_map, List.length_map]), List.map_append, List.map_append]
        rfl
      · intro k' hk'
        rcases List.mem_append.mp hk' with z | z
        · exact parts k' (by simp [z])
        · simp at z; subst z; exact km
      · rw [List.length_append, List.length_singleton]
        have := List.length_append (as := S0) (bs := k.kids)
        omega
      · intro c o' z nc
        rw [upd_ne nc]
        exact s5 _ _ (s4 _ _ (s3 _ _ (o2 _ _ z nc)))
  · rintro σ H2 ⟨S, x3, x4, rfl, h2, run, parts, sl, o2⟩
    rw [List.drop_of_length_le (by omega)] at run
    obtain rfl : S = [t] := run
    refine ⟨_, rfl, m, _, _, _, rfl, rfl, .inl (.inl h2), at_of (j := 0) rfl rfl, q H2 ?_⟩
    exact fun c o z => o2 c o (s1 _ _ (s0 _ _ z)) (ne_of_none z hm)
theorem scTermText : FnScope ["term"] ["term"] (defScope sTermText) := ⟨rfl, rfl, rfl, by decide +kernel, rfl, by decide +kernel, by decide +kernel⟩
theorem ok_termtext {f fF fO : Addr} {fd dF : FuncData} (F : Fun K "term_text" "term_text" sTermText f fd)
    (GF : FnOk P w K mg base CX0 3 fF dF ["term", "made_of"] (spFold fO)) (kF : PySem.W.keepIn K (.ref fF) = true) (bF : Binds K dF ["term", "made_of"] []) (mF : mg "fold" = some (.ref fF)) (mO : mg "_text_of" = some (.ref fO)) :
    FnOk P w K mg base CX0 4 f fd ["term"] spTermText := by
  refine F.ok scTermText (fun vs H Q E h => ?_) (fun cdv A outer s H vs Q E hr h => ?_)
  · obtain ⟨v, t, rfl, _⟩ := h
    rfl
  obtain ⟨v, t, rfl, T, sm, sz, q⟩ := h
  refine ⟨_, pss_one (ps_ret (pe_call GF hr rfl mF kF bF .nil pass0 (pa_cons (pv 0) (pa_cons (pe_glob (v := .ref fO) rfl mO rfl) pa_nil)))), ?_⟩
  exact ⟨_, rfl, v, t, rfl, T, sm, sz, q⟩
end
end Rp

/-! A TERM's text, its brackets and commas blanked, cut at the blanks: its signs, ahead of their parts. -/
namespace Rp
open PySem PySem.Spec PyProof.Rows L2 TL
def blank1 (c d : Nat) : Nat := if d = c then 32 else d
theorem spl_ne (S : List Nat) : ∀ (k : Nat) (acc l : List Nat), spl S k acc l ≠ []
  | 0, acc, [] => by rw [spl_nil]; simp
  | k + 1, acc, [] => by rw [spl_nil]; simp
  | k + 1, acc, _ :: r => by show spl S k acc r ≠ []; exact spl_ne S k acc r
  | 0, acc, c :: r => by
    by_cases h : pre S (c :: r) = true
    · rw [spl_hit h]; simp
    · rw [spl_miss (by simpa using h)]; exact spl_ne S 0 _ r
theorem join_spl (c : Nat) : ∀ (l acc : List Nat), joinL [32] (spl [c] 0 acc l) = acc ++ l.map (blank1 c)
  | [], acc => by rw [spl_nil]; simp [joinL]
  | d :: r, acc => by
    by_cases h : d = c
    · have hp : pre [c] (d :: r) = true := by simp [pre, h]
      rw [spl_hit hp]
      have ih := join_spl c r []
      have ne := spl_ne [c] 0 [] r
      show joinL [32] (acc :: spl [c] 0 [] r) = _
      cases e : spl [c] 0 [] r with
      | nil => exact absurd e ne
      | cons q rest =>
        rw [e] at ih
        show acc ++ ([32] ++ joinL [32] (q :: rest)) = _
        rw [ih]
        simp [blank1, h]
    · have hp : pre [c] (d :: r) = false := by simp [pre, h]
      rw [spl_miss hp, join_spl c r]
      simp [blank1, h]
theorem repl_tl (x : Str) {c : Nat} (hc : c < 256) : tl (Txt.replace x ⟨#[c]⟩ ⟨#[32]⟩) = (tl x).map (blank1 c) := by
  rw [PySem.StrLaws.replace_one, tl_join, split_spl x ⟨#[c]⟩ (by show [c] ≠ []; simp) ?_]
  · show joinL [32] (spl [c] 0 [] (tl x)) = _
    rw [join_spl]
    simp
  · exact kind_ok (by simp [hc])
namespace Tm
def sgn : Tm → List Str
  | v n => ["x" ++ Str.ofString (toString n)]
  | z => ["0"]
  | s t => "s" :: t.sgn
  | f l r => "f" :: (l.sgn ++ r.sgn)
theorem sgn_len : ∀ t : Tm, t.sgn.length = t.size
  | v _ => rfl | z => rfl | s t => by simp [sgn, size, sgn_len t]
  | f l r => by simp [sgn, size, sgn_len l, sgn_len r]
end Tm
def b3 (d : Nat) : Nat := blank1 44 (blank1 41 (blank1 40 d))
theorem b3_same {d : Nat} (h : d ≠ 40 ∧ d ≠ 41 ∧ d ≠ 44) : b3 d = d := by
  unfold b3 blank1
  rw [if_neg h.1, if_neg h.2.1, if_neg h.2.2]
theorem b3_num {l : List Nat} (h : ∀ d ∈ l, 48 ≤ d ∧ d ≤ 57) : l.map b3 = l := by
  have : l.map b3 = l.map id := List.map_congr_left fun d hd => b3_same (by have := h d hd; omega)
  rw [this, List.map_id]
theorem numL_small (n : Nat) : ∀ d ∈ numL n, 48 ≤ d ∧ d ≤ 57 := fun d hd => numL_digits n d hd
def spc (t : Tm) : List Nat := (tl t.txt).map b3
theorem t_x : tl ("x" : Str) = [120] := by decide +kernel
theorem t_0 : tl ("0" : Str) = [48] := by decide +kernel
theorem t_s : tl ("s" : Str) = [115] := by decide +kernel
theorem t_f : tl ("f" : Str) = [102] := by decide +kernel
theorem t_open : tl ("(" : Str) = [40] := by decide +kernel
theorem t_close : tl (")" : Str) = [41] := by decide +kernel
theorem t_comma : tl ("," : Str) = [44] := by decide +kernel
theorem tl_int {n : Int} (h : 0 ≤ n) : tl (Str.ofString (toString n)) = numL n.toNat := by
  obtain ⟨k, rfl⟩ := Int.eq_ofNat_of_zero_le h
  rw [tl_num]
  rfl
theorem spc_v {n : Int} (h : 0 ≤ n) : spc (.v n) = 120 :: numL n.toNat := by
  show (tl (("x" : Str) ++ Str.ofString (toString n))).map b3 = _
  rw [tl_append, t_x, tl_int h, List.map_append, b3_num (numL_small _)]
  rfl
theorem spc_z : spc .z = [48] := by decide +kernel
theorem spc_s (t : Tm) : spc (.s t) = 115 :: 32 :: (spc t ++ [32]) := by
  show (tl (("s" : Str) ++ "(" ++ Txt.join "," [t.txt] ++ ")")).map b3 = _
  rw [join1, tl_append, tl_append, tl_append, t_s, t_open, t_close, List.map_append, List.map_append]
  rfl
theorem spc_f (l r : Tm) : spc (.f l r) = 102 :: 32 :: (spc l ++ 32 :: (spc r ++ [32])) := by
  show (tl (("f" : Str) ++ "(" ++ Txt.join "," [l.txt, r.txt] ++ ")")).map b3 = _
  rw [join2, tl_append, tl_append, tl_append, tl_append, tl_append, t_f, t_open, t_close, t_comma]
  simp only [List.map_append]
  show [102] ++ [32] ++ (spc l ++ [32] ++ spc r) ++ [32] = _
  simp
theorem space32 : Unicode.isSpace 32 = true := by decide +kernel
theorem nosp {d : Nat} (h : (48 ≤ d ∧ d ≤ 57) ∨ d = 115 ∨ d = 102 ∨ d = 120) : Unicode.isSpace d = false := by
  have all : ∀ k : Fin 128, ((48 ≤ k.val ∧ k.val ≤ 57) ∨ k.val = 115 ∨ k.val = 102 ∨ k.val = 120) → Unicode.isSpace k.val = false := by decide +kernel
  exact all ⟨d, by omega⟩ h
theorem word_step {p : List Nat} (hp : p ≠ []) (h : ∀ c ∈ p, Unicode.isSpace c = false) (ws : List (List Nat)) (rest : List Nat) : (p ++ 32 :: rest).foldl wstep (ws, []) = rest.foldl wstep (ws ++ [p], []) := by
  rw [List.foldl_append, wfold_word p ws [] h, List.nil_append, List.foldl_cons]
  have : wstep (ws, p) 32 = (ws ++ [p], []) := by unfold wstep; rw [if_pos space32]; exact if_neg hp
  rw [this]
theorem gap_step (ws : List (List Nat)) (rest : List Nat) : (32 :: rest).foldl wstep (ws, []) = rest.foldl wstep (ws, []) := by
  rw [List.foldl_cons]
  have : wstep (ws, []) 32 = (ws, []) := by unfold wstep; rw [if_pos space32]; exact if_pos rfl
  rw [this]
theorem fold_spc : ∀ (t : Tm) (_ : t.small) (ws : List (List Nat)) (rest : List Nat), (spc t ++ 32 :: rest).foldl wstep (ws, []) = rest.foldl wstep (ws ++ t.sgn.map tl, [])
  | .v n, h, ws, rest => by
    have h0 := (h n (by simp [Tm.nums])).1
    rw [spc_v h0, word_step (by simp) ?_]
    · show _ = List.foldl wstep (ws ++ [tl (("x" : Str) ++ Str.ofString (toString n))], []) rest
      rw [tl_append, t_x, tl_int h0]
      rfl
    · intro c hc
      rcases List.mem_cons.mp hc with rfl | hc
      · exact nosp (.inr (.inr (.inr rfl)))
      · exact nosp (.inl (numL_small _ c hc))
  | .z, h, ws, rest => by
    rw [spc_z, word_step (by simp) ?_]
    · show _ = List.foldl wstep (ws ++ [tl ("0" : Str)], []) rest
      rw [t_0]
    · intro c hc
      simp at hc
      exact nosp (.inl (by omega))
  | .s t, h, ws, rest => by
    rw [spc_s]
    show ([115] ++ 32 :: ((spc t ++ [32]) ++ 32 :: rest)).foldl wstep (ws, []) = _
    rw [word_step (by simp) (by intro c hc; simp at hc; exact nosp (.inr (.inl hc)))]
    rw [show (spc t ++ [32]) ++ 32 :: rest = spc t ++ 32 :: (32 :: rest) by simp, fold_spc t h, gap_step]
    simp [Tm.sgn, t_s]
  | .f l r, h, ws, rest => by
    rw [spc_f]
    show ([102] ++ 32 :: ((spc l ++ 32 :: (spc r ++ [32])) ++ 32 :: rest)).foldl wstep (ws, []) = _
    rw [word_step (by simp) (by intro c hc; simp at hc; exact nosp (.inr (.inr (.inl hc))))]
    rw [show (spc l ++ 32 :: (spc r ++ [32])) ++ 32 :: rest = spc l ++ 32 :: (spc r ++ 32 :: (32 :: rest)) by simp,
      fold_spc l (fun n hn => h n (by simp [Tm.nums, hn])), fold_spc r (fun n hn => h n (by simp [Tm.nums, hn])), gap_step]
    simp [Tm.sgn, t_f]
theorem wfin_gap (st : List (List Nat) × List Nat) : wfin (wstep st 32) = wfin st := by
  unfold wstep wfin
  rw [if_pos space32]
  by_cases h : st.2 = []
  · rw [if_pos h, if_pos h]
  · rw [if_neg h, if_neg h]
    simp
/-- the text with brackets and commas blanked -/
def blanked (x : Str) : Str := Txt.replace (Txt.replace (Txt.replace x "(" " ") ")" " ") "," " "
theorem blanked_tl (x : Str) : tl (blanked x) = (tl x).map b3 := by
  have e32 : (" " : Str) = ⟨#[32]⟩ := by decide +kernel
  have e40 : ("(" : Str) = ⟨#[40]⟩ := by decide +kernel
  have e41 : (")" : Str) = ⟨#[41]⟩ := by decide +kernel
  have e44 : ("," : Str) = ⟨#[44]⟩ := by decide +kernel
  unfold blanked
  rw [e32, e40, e41, e44, repl_tl _ (by decide), repl_tl _ (by decide), repl_tl _ (by decide), List.map_map, List.map_map]
  rfl
theorem words_txt (t : Tm) (h : t.small) : Txt.words (blanked t.txt) = t.sgn := by
  refine map_tl_inj ?_
  rw [words_tl, blanked_tl]
  show wfin ((spc t).foldl wstep ([], [])) = _
  rw [← wfin_gap]
  have : wstep ((spc t).foldl wstep ([], [])) 32 = (spc t ++ 32 :: []).foldl wstep ([], []) := by rw [List.foldl_append]; rfl
  rw [this, fold_spc t h]
  simp [wfin]
theorem blanked_len (x : Str) : (blanked x).length = x.length := by
  rw [len_tl, len_tl, blanked_tl, List.length_map]
end Rp

namespace Rp
open PySem PySem.Spec PyProof.Rows L2 TL
/-- the sign of a variable -/
def xn (n : Int) : Str := "x" ++ Str.ofString (toString n)
theorem xn_facts {n : Int} (h : 0 ≤ n ∧ n ≤ 99) : cutS (xn n) none (some 1) = "x" ∧ (xn n).length ≤ 3 ∧ cutS (xn n) (some 1) none = Str.ofString (toString n) ∧ Txt.isdecimal (Str.ofString (toString n)) = true ∧ intText? (Str.ofString (toString n)) = some n ∧
    xn n ≠ "0" ∧ xn n ≠ "s" ∧ xn n ≠ "f" := by
  have all : ∀ k : Fin 100, cutS (xn (k.val : Int)) none (some 1) = "x" ∧ (xn (k.val : Int)).length ≤ 3 ∧ cutS (xn (k.val : Int)) (some 1) none = Str.ofString (toString (k.val : Int)) ∧ Txt.isdecimal (Str.ofString (toString (k.val : Int))) = true ∧
    xn (k.val : Int) ≠ "0" ∧ xn (k.val : Int) ≠ "s" ∧ xn (k.val : Int) ≠ "f" := by decide +kernel
  obtain ⟨k, rfl⟩ := Int.eq_ofNat_of_zero_le h.1
  obtain ⟨a, b, c, d, e, f, g⟩ := all ⟨k, by omega⟩
  exact ⟨a, b, c, d, int_num (Nat.le_trans (numL_len (k := 2) (by decide) (by omega)) (by decide)), e, f, g⟩
def spNumberOf : Sp := fun vs H Q _ => ∃ n : Int, vs = [.str (xn n)] ∧ 0 ≤ n ∧ n ≤ 99 ∧ Q (.int n) H
section
variable {P : Program} {w : World} {K : PySem.W.Frag} {mg : Str → Option Value} {base : Heap}
theorem scNumberOf : FnScope ["sign"] ["sign"] (defScope sNumberOf) := ⟨rfl, rfl, rfl, by decide +kernel, rfl, by decide +kernel, by decide +kernel⟩
theorem ok_numberof {f : Addr} {fd : FuncData} (F : Fun K "_number_of" "_number_of" sNumberOf f fd) (mLen : mg "len" = none) (mInt : mg "int" = none) : FnOk P w K mg base CX0 1 f fd ["sign"] spNumberOf := by
  refine F.ok scNumberOf (fun vs H Q E h => ?_) (fun cdv A outer s H vs Q E hr h => ?_)
  · obtain ⟨n, rfl, _⟩ := h
    rfl
  obtain ⟨n, rfl, h0, h1, q⟩ := h
  refine ⟨_, pss_cons (ps_if (PW.pt (pw_and (pt_cmpR op_eq (pe_slice sl_str (pv 0) po_none (po_some pe_int)) pe_str (nomark _))
      (pw_and (pt_cmpR op_le (pe_callB call_len_str (by rfl) mLen PySem.boot_len (pa_cons (pv 0) pa_nil)) pe_int (nomark _))
      (pw_and1 (pt_val (pe_bm0 PySem.F.plainAttrs_str PySem.F.slot_str_isdecimal PySem.F.type_str_isdecimal mt_isdecimal (pe_slice sl_str (pv 0) (po_some pe_int) po_none)))))))
      (pss_one (ps_ret (pe_callTy call_int_str (by rfl) mInt (by decide +kernel) (pa_cons (pe_slice sl_str (pv 0) (po_some pe_int) po_none) pa_nil)))) pss_nil)
    (pss_one (ps_ret pe_non)), ?_⟩
  obtain ⟨f1, f2, f3, f4, f5, _⟩ := xn_facts ⟨h0, h1⟩
  have big : (10000 : Nat) ≤ sizeLine := by decide
  have nl := num_len ⟨h0, h1⟩
  refine ⟨_, rfl, 1, rfl, xn n, rfl, by omega, ?_⟩
  rw [f1]
  refine ⟨rfl, true, congrArg V.bl (decide_eq_true rfl), iteT ?_⟩
  refine ⟨_, rfl, xn n, rfl, by omega, _, _, rfl, rfl, true, congrArg V.bl (decide_eq_true (by omega)), iteT ?_⟩
  refine ⟨_, rfl, 1, rfl, xn n, rfl, by omega, rfl, _, rfl, rfl, trivial, true, ?_, iteT ?_⟩
  · rw [f3, f4]
  · refine ⟨_, rfl, 1, rfl, xn n, rfl, by omega, _, n, rfl, ?_, ?_, q⟩
    · rw [f3]; exact f5
    · rw [f3]; omega
end
end Rp

namespace Rp
open PySem PySem.Spec PyProof.Rows L2 TL
namespace Tm
/-- the parts, each ahead of its own -/
def ahead : Tm → List Tm
  | v n => [v n] | z => [z] | s t => s t :: t.ahead | f l r => f l r :: (l.ahead ++ r.ahead)
def sign1 : Tm → Str
  | v n => xn n | z => "0" | s _ => "s" | f _ _ => "f"
theorem sgn_ahead : ∀ t : Tm, t.sgn = t.ahead.map sign1
  | v n => rfl | z => rfl | s t => by simp [sgn, ahead, sign1, sgn_ahead t]
  | f l r => by simp [sgn, ahead, sign1, sgn_ahead l, sgn_ahead r]
theorem ahead_len : ∀ t : Tm, t.ahead.length = t.size
  | v _ => rfl | z => rfl | s t => by simp [ahead, size, ahead_len t]
  | f l r => by simp [ahead, size, ahead_len l, ahead_len r]
end Tm
theorem ahead_small : ∀ {t k : Tm}, k ∈ t.ahead → t.small → k.small
  | .v n, k, h, s => by simp [Tm.ahead] at h; subst h; exact s
  | .z, k, h, s => by simp [Tm.ahead] at h; subst h; exact s
  | .s t, k, h, s => by
    simp [Tm.ahead] at h
    rcases h with rfl | h
    · exact s
    · exact ahead_small (t := t) h s
  | .f l r, k, h, s => by
    simp [Tm.ahead] at h
    rcases h with rfl | h | h
    · exact s
    · exact ahead_small (t := l) h fun n hn => s n (by simp [Tm.nums, hn])
    · exact ahead_small (t := r) h fun n hn => s n (by simp [Tm.nums, hn])
def runsR : List Tm → List Tm → List Tm → Prop
  | S, [], S' => S = S'
  | S, k :: r, S' => ∃ S0, S = S0 ++ k.kids.reverse ∧ runsR (S0 ++ [k]) r S'
theorem runsR_post : ∀ (t : Tm) (S r S' : List Tm), runsR (S ++ [t]) r S' → runsR S (t.ahead.reverse ++ r) S'
  | .v n, S, r, S', h => by simp only [Tm.ahead, List.reverse_singleton, List.singleton_append]; exact ⟨S, by simp [Tm.kids], h⟩
  | .z, S, r, S', h => by simp only [Tm.ahead, List.reverse_singleton, List.singleton_append]; exact ⟨S, by simp [Tm.kids], h⟩
  | .s t, S, r, S', h => by
    simp only [Tm.ahead, List.reverse_cons, List.append_assoc, List.singleton_append]
    exact runsR_post t S _ _ ⟨S, by simp [Tm.kids], h⟩
  | .f l r', S, r, S', h => by
    simp only [Tm.ahead, List.reverse_cons, List.reverse_append, List.append_assoc, List.singleton_append]
    exact runsR_post r' S _ _ (runsR_post l (S ++ [r']) _ _ ⟨S, by simp [Tm.kids], h⟩)
def spFromSigns : Sp := fun vs H Q _ => ∃ (p : Addr) (t : Tm), vs = [.ref p] ∧ H p = some (.lst (t.sgn.map V.str)) ∧ t.small ∧ t.size ≤ 1000 ∧ ∀ (v : V) (H' : Hp), TmAt H' v t → Same H H' → Q v H'
theorem str_ne {x y : Str} (h : x ≠ y) : decide (V.str x = V.str y) = false := decide_eq_false fun z => h (V.str.inj z)
section
variable {P : Program} {w : World} {K : PySem.W.Frag} {mg : Str → Option Value} {base : Heap}
theorem scFromSigns : FnScope ["signs", "made", "sign", "left"] ["signs"] (defScope sFromSigns) := ⟨rfl, rfl, rfl, by decide +kernel, rfl, by decide +kernel, by decide +kernel⟩
theorem ok_fromsigns {f fN : Addr} {fd dN : FuncData} (F : Fun K "_from_signs" "_from_signs" sFromSigns f fd)
    (GN : FnOk P w K mg base CX0 1 fN dN ["sign"] spNumberOf) (kN : PySem.W.keepIn K (.ref fN) = true) (bN : Binds K dN ["sign"] []) (mN : mg "_number_of" = some (.ref fN))
    (mLen : mg "len" = none) (mRev : mg "reversed" = none) : FnOk P w K mg base CX0 2 f fd ["signs"] spFromSigns := by
  refine F.ok scFromSigns (fun vs H Q E h => ?_) (fun cdv A outer s H vs Q E hr h => ?_)
  · obtain ⟨p, t, rfl, _⟩ := h
    rfl
  obtain ⟨p, t, rfl, hp, sm, sz, q⟩ := h
  refine ⟨_, pss_cons (ps_set (i := 1) scFromSigns.nd rfl (Or.inl rfl) (pe_lst pa_nil))
    (pss_cons (ps_for PassesOwn.never rfl (pi_reversed (by rfl) mRev (pa_cons (pv 0) pa_nil)) (pg_name (i := 2) scFromSigns.nd rfl (Or.inl rfl))
      (pss_one (ps_if (pt_cmpR op_eq (pv 2) pe_str (nomark _)) (pss_one (ps_expr (pe_bm PySem.F.plainAttrs_list PySem.F.slot_list_append PySem.F.type_list_append mt_append (pv 1) (pa_cons (pe_tup (pa_cons pe_str pa_nil)) pa_nil))))
      (pss_one (ps_if (PW.pt (pw_and (pt_cmpR op_eq (pv 2) pe_str (nomark _)) (pw_and1 (pt_truth (pv 1) (by intro _; rfl)))))
        (pss_one (ps_expr (pe_bm PySem.F.plainAttrs_list PySem.F.slot_list_append PySem.F.type_list_append mt_append (pv 1) (pa_cons (pe_tup (pa_cons pe_str (pa_cons (pe_bm0 PySem.F.plainAttrs_list PySem.F.slot_list_pop PySem.F.type_list_pop mt_pop (pv 1)) pa_nil))) pa_nil))))
      (pss_one (ps_if (PW.pt (pw_and (pt_cmpR op_eq (pv 2) pe_str (nomark _)) (pw_and1 (pt_cmpR op_gt (pe_callB call_len_seq (by rfl) mLen PySem.boot_len (pa_cons (pv 1) pa_nil)) pe_int (nomark _)))))
        (pss_cons (ps_set (i := 3) scFromSigns.nd rfl (Or.inl rfl) (pe_bm0 PySem.F.plainAttrs_list PySem.F.slot_list_pop PySem.F.type_list_pop mt_pop (pv 1)))
        (pss_one (ps_expr (pe_bm PySem.F.plainAttrs_list PySem.F.slot_list_append PySem.F.type_list_append mt_append (pv 1) (pa_cons (pe_tup (pa_cons pe_str (pa_cons (pv 3) (pa_cons (pe_bm0 PySem.F.plainAttrs_list PySem.F.slot_list_pop PySem.F.type_list_pop mt_pop (pv 1)) pa_nil)))) pa_nil)))))
      (pss_one (ps_if (pt_cmpR op_notN (pe_call GN hr rfl mN kN bN .nil pass0 (pa_cons (pv 2) pa_nil)) pe_non (nomark _))
        (pss_one (ps_expr (pe_bm PySem.F.plainAttrs_list PySem.F.slot_list_append PySem.F.type_list_append mt_append (pv 1) (pa_cons (pe_call GN hr rfl mN kN bN .nil pass0 (pa_cons (pv 2) pa_nil)) pa_nil))))
        (pss_one (ps_ret pe_non)))))))))))
    (pss_one (ps_ret (pe_ifExp (pt_cmpR op_eq (pe_callB call_len_seq (by rfl) mLen PySem.boot_len (pa_cons (pv 1) pa_nil)) pe_int (nomark _)) (pe_ix ix_list (pv 1) pe_int (fun _ _ => rfl)) pe_non)))), ?_⟩
  refine ⟨(by show 0 ≤ sizeLine; decide), fun m hm => ?_⟩
  have s0 := same_new hm (.lst ([] : List V))
  have hp1 := s0 _ _ hp
  have pm : p ≠ m := ne_of_none hp hm
  have big : (10000 : Nat) ≤ sizeLine := by decide
  have xl : (t.sgn.map V.str).length = t.size := by rw [List.length_map, Tm.sgn_len]
  have al : t.ahead.length = t.size := Tm.ahead_len t
  refine ⟨_, rfl, p, _, rfl, .inl (.inl hp1), RT.for_Itv (K := K) (a := p) (xs := t.sgn.map V.str) (fun i σ H2 => ∃ (S : List Tm) (ws : List V) (x2 x3 : Option V), σ = [some (.ref p), some (.ref m), x2, x3] ∧ H2 m = some (.lst ws) ∧ AllAt H2 ws S ∧
      runsR S (t.ahead.reverse.drop i) [t] ∧ S.length ≤ i ∧ But m (upd H m (.lst ([] : List V))) H2) ⟨[], [], none, none, rfl, upd_same, trivial, ?_, by simp, But.refl _ _⟩ (fun i σ H2 ⟨_, _, _, _, _, _, _, _, _, o⟩ => .inl (.inl (o _ _ hp1 pm))) ?_ ?_⟩
  · have := runsR_post t [] [] [t] rfl
    simpa using this
  · rintro i x σ H2 hi hx ⟨S, ws, x2, x3, rfl, h2, AS, run, sl, o2⟩
    rw [xl] at hi hx
    have li : i < t.ahead.reverse.length := by rw [List.length_reverse]; omega
    obtain ⟨k, hk⟩ : ∃ k, t.ahead.reverse[i]? = some k := ⟨_, List.getElem?_eq_getElem li⟩
    have ex : x = .str k.sign1 := by
      rw [Tm.sgn_ahead, List.map_map, List.getElem?_map] at hx
      rw [List.getElem?_reverse (by omega), al] at hk
      rw [hk] at hx
      simpa using hx.symm
    subst ex
    have ek : t.ahead.reverse.drop i = k :: t.ahead.reverse.drop (i + 1) := by
      rw [List.drop_eq_getElem_cons li, (List.getElem?_eq_some_iff.mp hk).2]
    rw [ek] at run
    obtain ⟨S0, rfl, run⟩ := run
    have km : k ∈ t.ahead := List.mem_reverse.mp (List.mem_of_getElem? hk)
    have smk := ahead_small km sm
    have wl := AS.len
    rw [List.length_append] at sl
    have mNone : H m = none := hm
    have n0s : ("0" : Str) ≠ "s" := by decide +kernel
    have n0f : ("0" : Str) ≠ "f" := by decide +kernel
    have nsf : ("s" : Str) ≠ "f" := by decide +kernel
    have nall : ∀ (g : Addr) (H3 : Hp), H3 g = none → (∀ c o, (upd H m (.lst ([] : List V))) c = some o → c ≠ m → H3 c = some o) → ∀ c o, (upd H m (.lst ([] : List V))) c = some o → c ≠ m → c ≠ g := fun g H3 hg st c o z nc e => by
      subst e
      have := st c o z nc
      rw [hg] at this
      cases this
    cases k with
    | v n =>
      have hn := smk n (by simp [Tm.nums])
      obtain ⟨_, _, _, _, _, g0, gs, gf⟩ := xn_facts hn
      have e0 : S0 ++ (Tm.v n).kids.reverse = S0 := by simp [Tm.kids]
      rw [e0] at AS wl
      refine ⟨_, rfl, rfl, false, congrArg V.bl (str_ne g0), iteF ?_⟩
      refine ⟨_, rfl, rfl, false, congrArg V.bl (str_ne gs), iteF ?_⟩
      refine iteF ?_
      refine ⟨_, rfl, rfl, false, congrArg V.bl (str_ne gf), iteF ?_⟩
      refine iteF ?_
      refine ⟨_, rfl, n, rfl, hn.1, hn.2, rfl, true, congrArg (fun z => V.bl (!z)) (decide_eq_false (fun z => nomatch z)), iteT ?_⟩
      refine ⟨_, rfl, .inl ⟨rfl, _, .inl (.inl h2)⟩, _, rfl, n, rfl, hn.1, hn.2, m, ws, _, rfl, rfl, h2, by omega, ?_⟩
      refine ⟨S0 ++ [.v n], ws ++ [.int n], _, _, rfl, upd_same, ?_, run, by rw [List.length_append, List.length_singleton]; omega, fun c o z nc => by rw [upd_ne nc]; exact o2 c o z nc⟩
      have keep : ∀ a xs, H2 a = some (.tup xs) → (upd H2 m (.lst (ws ++ [.int n]))) a = some (.tup xs) := fun a xs z => by rw [upd_ne (ne_of z h2 (by intro z; cases z))]; exact z
      exact (AS.mono keep).append ⟨.v n, trivial⟩
    | z =>
      have e0 : S0 ++ (Tm.z).kids.reverse = S0 := by simp [Tm.kids]
      rw [e0] at AS wl
      refine ⟨_, rfl, rfl, true, congrArg V.bl (decide_eq_true rfl), iteT ?_⟩
      refine ⟨_, rfl, .inl ⟨rfl, _, .inl (.inl h2)⟩, (by show 1 ≤ sizeLine; decide), fun g hg => ?_⟩
      have s3 := same_new hg (.tup [V.str "0"])
      have h3 := s3 _ _ h2
      refine ⟨m, ws, _, rfl, rfl, h3, by omega, ?_⟩
      have keep : ∀ a xs, (upd H2 g (.tup [V.str "0"])) a = some (.tup xs) → (upd (upd H2 g (.tup [V.str "0"])) m (.lst (ws ++ [.ref g]))) a = some (.tup xs) := fun a xs z => by rw [upd_ne (ne_of z h3 (by intro z; cases z))]; exact z
      refine ⟨S0 ++ [.z], ws ++ [.ref g], _, _, rfl, upd_same, ?_, run, by rw [List.length_append, List.length_singleton]; omega, fun c o z nc => by rw [upd_ne nc]; exact s3 _ _ (o2 c o z nc)⟩
      exact (AS.mono fun a xs z => keep a xs (s3 _ _ z)).append ⟨.z (keep _ _ upd_same), trivial⟩
    | s t' =>
      obtain ⟨w0, w1, rfl, A0, A1⟩ : ∃ w0 w1, ws = w0 ++ [w1] ∧ AllAt H2 w0 S0 ∧ TmAt H2 w1 t' := by
        rcases List.eq_nil_or_concat ws with e | ⟨M, y, e⟩
        · subst e; simp [Tm.kids] at wl
        · rw [List.concat_eq_append] at e
          subst e
          obtain ⟨L1, L2, e2, B1, B2⟩ := AS.parted
          match L2, B2 with
          | [u], B2 =>
            have e2' : S0 ++ [t'] = L1 ++ [u] := e2
            obtain ⟨e3, e4⟩ := List.append_inj' e2' rfl
            injection e4 with e4
            subst e3 e4
            exact ⟨M, y, rfl, B1, B2.1⟩
      refine ⟨_, rfl, rfl, false, congrArg V.bl (str_ne n0s.symm), iteF ?_⟩
      refine ⟨_, rfl, rfl, true, congrArg V.bl (decide_eq_true rfl), iteT ?_⟩
      refine ⟨_, rfl, true, .inl ⟨_, .inl (.inl h2), by simp⟩, iteT ?_⟩
      refine ⟨_, rfl, .inl ⟨rfl, _, .inl (.inl h2)⟩, _, rfl, .inl ⟨rfl, _, .inl (.inl h2)⟩, m, _, w1, rfl, rfl, h2, by simp, (by show 2 ≤ sizeLine; decide), fun g hg => ?_⟩
      rw [List.dropLast_concat] at hg ⊢
      have s3 := same_new hg (.tup [V.str "s", w1])
      have hm3 := s3 _ _ (upd_same : (upd H2 m (.lst w0)) m = some (.lst w0))
      have sl' : w0.length < sizeLine := by rw [A0.len]; omega
      refine ⟨m, w0, _, rfl, rfl, hm3, sl', ?_⟩
      have k1 : ∀ a xs, H2 a = some (.tup xs) → (upd H2 m (.lst w0)) a = some (.tup xs) := fun a xs z => by rw [upd_ne (ne_of z h2 (by intro z; cases z))]; exact z
      have k2 : ∀ a xs, (upd (upd H2 m (.lst w0)) g (.tup [V.str "s", w1])) a = some (.tup xs) → (upd (upd (upd H2 m (.lst w0)) g (.tup [V.str "s", w1])) m (.lst (w0 ++ [.ref g]))) a = some (.tup xs) := fun a xs z => by rw [upd_ne (ne_of z hm3 (by intro z; cases z))]; exact z
      have k3 : ∀ a xs, H2 a = some (.tup xs) → (upd (upd (upd H2 m (.lst w0)) g (.tup [V.str "s", w1])) m (.lst (w0 ++ [.ref g]))) a = some (.tup xs) := fun a xs z => k2 a xs (s3 _ _ (k1 a xs z))
      refine ⟨S0 ++ [.s t'], w0 ++ [.ref g], _, _, rfl, upd_same, (A0.mono k3).append ⟨.s (k2 _ _ upd_same) (A1.mono k3), trivial⟩, run, by rw [List.length_append, List.length_singleton]; omega, fun c o z nc => ?_⟩
      rw [upd_ne nc]
      exact s3 _ _ (by rw [upd_ne nc]; exact o2 c o z nc)
    | f l r =>
      obtain ⟨w0, wr, wl', rfl, A0, Ar, Al⟩ : ∃ w0 wr wl', ws = w0 ++ [wr] ++ [wl'] ∧ AllAt H2 w0 S0 ∧ TmAt H2 wr r ∧ TmAt H2 wl' l := by
        have eS : S0 ++ (Tm.f l r).kids.reverse = S0 ++ [r] ++ [l] := by simp [Tm.kids]
        rw [eS] at AS wl
        rcases List.eq_nil_or_concat ws with e | ⟨M, y, e⟩
        · subst e; simp at wl
        · rw [List.concat_eq_append] at e
          subst e
          obtain ⟨L1, L2, e2, B1, B2⟩ := AS.parted
          match L2, B2 with
          | [u], B2 =>
            obtain ⟨e3, e4⟩ := List.append_inj' e2 rfl
            injection e4 with e4
            subst e3 e4
            rcases List.eq_nil_or_concat M with e | ⟨M', y', e⟩
            · subst e; have := B1.len; simp at this
            · rw [List.concat_eq_append] at e
              subst e
              obtain ⟨L3, L4, e5, B3, B4⟩ := B1.parted
              match L4, B4 with
              | [u'], B4 =>
                obtain ⟨e6, e7⟩ := List.append_inj' e5 rfl
                injection e7 with e7
                subst e6 e7
                exact ⟨M', y', y, rfl, B3, B4.1, B2.1⟩
      have hl2 : decide ((1 : Int) < (((w0 ++ [wr] ++ [wl']).length : Nat) : Int)) = true := decide_eq_true (by simp; omega)
      refine ⟨_, rfl, rfl, false, congrArg V.bl (str_ne n0f.symm), iteF ?_⟩
      refine ⟨_, rfl, rfl, false, congrArg V.bl (str_ne nsf.symm), iteF ?_⟩
      refine iteF ?_
      refine ⟨_, rfl, rfl, true, congrArg V.bl (decide_eq_true rfl), iteT ?_⟩
      refine ⟨_, rfl, m, _, rfl, .inl (.inl (.inl h2)), _, _, rfl, rfl, true, congrArg V.bl hl2, iteT ?_⟩
      refine ⟨_, rfl, .inl ⟨rfl, _, .inl (.inl h2)⟩, m, _, wl', rfl, rfl, h2, by simp, ?_⟩
      rw [List.dropLast_concat]
      have h3 : (upd H2 m (.lst (w0 ++ [wr]))) m = some (.lst (w0 ++ [wr])) := upd_same
      refine ⟨_, rfl, .inl ⟨rfl, _, .inl (.inl h3)⟩, _, rfl, _, rfl, .inl ⟨rfl, _, .inl (.inl h3)⟩, m, _, wr, rfl, rfl, h3, by simp, (by show 3 ≤ sizeLine; decide), fun g hg => ?_⟩
      rw [List.dropLast_concat, upd_upd] at hg ⊢
      have s3 := same_new hg (.tup [V.str "f", wl', wr])
      have hm3 := s3 _ _ (upd_same : (upd H2 m (.lst w0)) m = some (.lst w0))
      have sl' : w0.length < sizeLine := by rw [A0.len]; omega
      refine ⟨m, w0, _, rfl, rfl, hm3, sl', ?_⟩
      have k1 : ∀ a xs, H2 a = some (.tup xs) → (upd H2 m (.lst w0)) a = some (.tup xs) := fun a xs z => by rw [upd_ne (ne_of z h2 (by intro z; cases z))]; exact z
      have k2 : ∀ a xs, (upd (upd H2 m (.lst w0)) g (.tup [V.str "f", wl', wr])) a = some (.tup xs) → (upd (upd (upd H2 m (.lst w0)) g (.tup [V.str "f", wl', wr])) m (.lst (w0 ++ [.ref g]))) a = some (.tup xs) := fun a xs z => by rw [upd_ne (ne_of z hm3 (by intro z; cases z))]; exact z
      have k3 : ∀ a xs, H2 a = some (.tup xs) → (upd (upd (upd H2 m (.lst w0)) g (.tup [V.str "f", wl', wr])) m (.lst (w0 ++ [.ref g]))) a = some (.tup xs) := fun a xs z => k2 a xs (s3 _ _ (k1 a xs z))
      refine ⟨S0 ++ [.f l r], w0 ++ [.ref g], _, _, rfl, upd_same, (A0.mono k3).append ⟨.f (k2 _ _ upd_same) (Al.mono k3) (Ar.mono k3), trivial⟩, run, by rw [List.length_append, List.length_singleton]; omega, fun c o z nc => ?_⟩
      rw [upd_ne nc]
      exact s3 _ _ (by rw [upd_ne nc]; exact o2 c o z nc)
  · rintro σ H2 ⟨S, ws, x2, x3, rfl, h2, AS, run, sl, o2⟩
    rw [List.drop_of_length_le (by rw [List.length_reverse, xl, al]; exact Nat.le_refl _)] at run
    obtain rfl : S = [t] := run
    match ws, AS with
    | [x], AS =>
      refine ⟨_, rfl, m, _, rfl, .inl (.inl (.inl h2)), rfl, true, congrArg V.bl (decide_eq_true rfl), iteT ?_⟩
      refine ⟨_, rfl, m, _, _, _, rfl, rfl, .inl (.inl h2), at_of (j := 0) rfl rfl, q x H2 AS.1 ?_⟩
      exact fun c o z => o2 c o (s0 _ _ z) (ne_of_none z hm)
end
end Rp

namespace Rp
open PySem PySem.Spec PyProof.Rows L2 TL CwR
section
variable {X : Cx} {o e : Expr} {to te : TE}
/-- words of what wants a token -/
theorem pet_words {apos pos : Pos} (ho : PET X o to) (hbase : attributeBase o "split" X.env (eval o X.env) = eval o X.env := by rfl) (hline : (apos.endLine == pos.line) = true := by rfl) :
    PET X (.Call (.Attribute o "split" apos) [] [] pos) (tM0 (fun x xs H Q => ∃ a, x = .str a ∧ xs = [] ∧ a.length + 2 ≤ sizeLine ∧ rNewStrs (Txt.words a) H Q) to) := by
  intro pins s σ H Q tk I h
  refine PySem.Call_method0 hbase hline (thn (ho pins s σ H _ tk I h) fun recv s1 ⟨x, H1, I1, rel, told, go⟩ => ?_)
  obtain ⟨text, rfl⟩ := told
  obtain ⟨tok, rfl⟩ := _root_.id rel
  exact ⟨"str", _, PySem.F.plainAttrs_str, PySem.F.slot_str_split, PySem.F.type_str_split, typeIs_str _ _ _, (fun _ z => nomatch z), Calls.callWith_builtin rfl (PySem.evalArgs_none (mt_words pins s1 σ H1 _ [] _ [] Q I1 rel .nil go))⟩
/-- name = e, e wants a token -/
theorem pst_set {i : Nat} {x : Str} {pos pos' : Pos} (hN : X.N.Nodup) (hi : X.N[i]? = some x) (hx : Loc X.env.scope x) (he : PET X e te) (hs : swapsWith e (some (.Name x pos')) pos.line X.env = pure false := by rfl)
    (hf : X.fn x = true ∨ X.env.scope.names.lookup x = some .local := by first | exact .inl rfl | exact .inr rfl | assumption) : PST X (.Assign [.Name x pos'] e pos) (tAsg te (gName i)) := by
  intro pins s σ H D tk I h
  refine wpAny_Assign_Name (thn (he pins s σ H _ tk I h) fun u s1 ⟨y, H1, I1, rel, go⟩ => store_ok I1 hN hi hx rel (fun s2 I2 => ⟨_, H1, I2, go⟩) hf) hs
end
def spTermOr : Sp := fun vs H Q _ => ∃ t : Tm, vs = [.str t.txt] ∧ t.small ∧ t.size ≤ 200 ∧ ∀ (v : V) (H' : Hp), TmAt H' v t → Same H H' → Q v H'
section
variable {P : Program} {w : World} {K : PySem.W.Frag} {mg : Str → Option Value} {base : Heap}
theorem scTermOr : FnScope ["text", "signs", "term"] ["text"] (defScope sTermOrNone) := ⟨rfl, rfl, rfl, by decide +kernel, rfl, by decide +kernel, by decide +kernel⟩
theorem ok_termor {f fS fT : Addr} {fd dS dT : FuncData} {tk : Tok} (F : Fun K "term_or_none" "term_or_none" sTermOrNone f fd)
    (GS : FnOk P w K mg base CX0 2 fS dS ["signs"] spFromSigns) (kS : PySem.W.keepIn K (.ref fS) = true) (bS : Binds K dS ["signs"] []) (mS : mg "_from_signs" = some (.ref fS))
    (GT : FnOk P w K mg base CX0 4 fT dT ["term"] spTermText) (kT : PySem.W.keepIn K (.ref fT) = true) (bT : Binds K dT ["term"] []) (mT : mg "term_text" = some (.ref fT))
    (mLen : mg "len" = none) (mMost : mg "MOST_SIGNS" = some (.int 200 tk)) : FnOk P w K mg base CX0 5 f fd ["text"] spTermOr := by
  obtain ⟨oc, od, kV, doc, pm, an, cdv, ct, osl, rfl, lk, hcd⟩ := F.ex
  refine fn_ofT lk hcd scTermOr (by decide +kernel) (by decide) (fun vs H Q E h => ?_) (fun A outer s H vs Q E hr h => ?_)
  · obtain ⟨t, rfl, _⟩ := h
    rfl
  obtain ⟨t, rfl, sm, sz, q⟩ := h
  have r2 : Room 2 _ := hr.mono (by decide)
  refine ⟨_, psst_cons (pst_set (i := 1) scTermOr.nd rfl (Or.inl rfl) (pet_words (pet_replT (pet_replT (pet_replC (pv 0))))))
    (PSsT.of (pss_cons (ps_set (i := 2) scTermOr.nd rfl (Or.inl rfl) (pe_ifExp (pt_cmpR op_le (pe_callB call_len_seq (by rfl) mLen PySem.boot_len (pa_cons (pv 1) pa_nil)) (pe_glob (v := .int 200) rfl mMost ⟨_, rfl⟩) (nomark _)) (pe_call GS r2 rfl mS kS bS .nil pass0 (pa_cons (pv 1) pa_nil)) pe_non))
    (pss_cons (ps_if (PW.pt (pw_or (pt_cmpR op_isN (pv 2) pe_non (nomark _)) (pw_or1 (pt_cmpR op_ne (pe_call GT hr rfl mT kT bT .nil pass0 (pa_cons (pv 2) pa_nil)) (pv 0) (nomark _))))) (pss_one (ps_ret pe_non)) pss_nil)
    (pss_one (ps_ret (pv 2)))))), ?_⟩
  have tl_ := txt_len t sm
  have big : (10000 : Nat) ≤ sizeLine := by decide
  have l1 : (" " : Str).length = 1 := by decide +kernel
  have e32 : (" " : Str) = ⟨#[32]⟩ := by decide +kernel
  have e40 : ("(" : Str) = ⟨#[40]⟩ := by decide +kernel
  have e41 : (")" : Str) = ⟨#[41]⟩ := by decide +kernel
  have rl1 : ∀ x : Str, (Txt.replace x "(" " ").length = x.length := fun x => by rw [e32, e40, len_tl, len_tl, repl_tl _ (by decide), List.length_map]
  have rl2 : ∀ x : Str, (Txt.replace x ")" " ").length = x.length := fun x => by rw [e32, e41, len_tl, len_tl, repl_tl _ (by decide), List.length_map]
  refine ⟨_, rfl, t.txt, rfl, by rw [l1]; omega, _, rfl, by rw [l1, rl1]; omega, _, rfl, by rw [l1, rl2, rl1]; omega, ⟨_, rfl⟩, _, rfl, rfl, ?_, fun p hp => ?_⟩
  · show (blanked t.txt).length + 2 ≤ _
    rw [blanked_len]; omega
  have ew : Txt.words (Txt.replace (Txt.replace (Txt.replace t.txt "(" " ") ")" " ") "," " ") = t.sgn := words_txt t sm
  rw [ew]
  have s1 := same_new hp (.lst (t.sgn.map V.str))
  refine ⟨_, rfl, p, _, rfl, .inl (.inl (.inl upd_same)), _, _, rfl, rfl, true, congrArg V.bl (decide_eq_true (by rw [List.length_map, Tm.sgn_len]; omega)), iteT ?_⟩
  refine ⟨_, rfl, p, t, rfl, upd_same, sm, by omega, fun v H2 T s2 => ?_⟩
  have vn : v ≠ .non := by cases T <;> (intro z; cases z)
  refine ⟨_, rfl, rfl, false, congrArg V.bl (decide_eq_false vn), iteF ?_⟩
  refine ⟨_, rfl, v, t, rfl, T, sm, by omega, fun H3 s3 => ⟨_, rfl, rfl, false, congrArg (fun z => V.bl (!z)) (decide_eq_true rfl), iteF ?_⟩⟩
  exact ⟨_, rfl, q v H3 (T.same s3) (s1.trans (s2.trans s3))⟩
end
end Rp

/-! BINDINGs. -/
namespace Rp
open PySem PySem.Spec PyProof.Rows L2 TL
abbrev Prs := List (Int × Tm)
/-- pairs stand as the values xs -/
def PrAt (H : Hp) : List V → Prs → Prop
  | [], [] => True
  | x :: xs, (n, t) :: ps => (∃ (b : Addr) (y : V), x = .ref b ∧ H b = some (.tup [.int n, y]) ∧ TmAt H y t) ∧ PrAt H xs ps
  | _, _ => False
theorem PrAt.len {H : Hp} : ∀ {xs : List V} {ps : Prs}, PrAt H xs ps → xs.length = ps.length
  | [], [], _ => rfl
  | _ :: _, _ :: _, h => congrArg (· + 1) (PrAt.len h.2)
theorem PrAt.mono {H H' : Hp} (e : ∀ a xs, H a = some (.tup xs) → H' a = some (.tup xs)) : ∀ {xs : List V} {ps : Prs}, PrAt H xs ps → PrAt H' xs ps
  | [], [], _ => trivial
  | _ :: _, _ :: _, h => ⟨let ⟨b, y, e1, e2, e3⟩ := h.1; ⟨b, y, e1, e _ _ e2, e3.mono e⟩, PrAt.mono e h.2⟩
theorem PrAt.append {H : Hp} : ∀ {xs ys : List V} {ps qs : Prs}, PrAt H xs ps → PrAt H ys qs → PrAt H (xs ++ ys) (ps ++ qs)
  | [], _, [], _, _, h => h
  | _ :: _, _, _ :: _, _, h, h' => ⟨h.1, PrAt.append h.2 h'⟩
theorem PrAt.get {H : Hp} : ∀ {xs : List V} {ps : Prs} {i : Nat} {x : V}, PrAt H xs ps → xs[i]? = some x → ∃ p, ps[i]? = some p ∧ ∃ (b : Addr) (y : V), x = .ref b ∧ H b = some (.tup [.int p.1, y]) ∧ TmAt H y p.2
  | _ :: _, (n, t) :: _, 0, _, h, e => by simp at e; subst e; exact ⟨(n, t), rfl, h.1⟩
  | _ :: _, _ :: _, _ + 1, _, h, e => by simpa using PrAt.get h.2 (by simpa using e)
/-- a BINDING stands as v -/
def BiAt (H : Hp) (v : V) (ps : Prs) : Prop := ∃ (a : Addr) (xs : List V), v = .ref a ∧ H a = some (.tup xs) ∧ PrAt H xs ps
structure PrOk (ps : Prs) : Prop where
  num : ∀ p ∈ ps, 0 ≤ p.1 ∧ p.1 ≤ 99
  sm : ∀ p ∈ ps, p.2.small
  sz : ∀ p ∈ ps, p.2.size ≤ 40
  up : (ps.map (·.1)).Pairwise (· < ·)
  few : ps.length ≤ 10
def row (p : Int × Tm) : Str := xn p.1 ++ "=" ++ p.2.txt
def bitxt (ps : Prs) : Str := if ps = [] then "-" else Txt.join " " (ps.map row)
theorem t_eq : tl ("=" : Str) = [61] := by decide +kernel
theorem t_sp : tl (" " : Str) = [32] := by decide +kernel
theorem txt_signs : ∀ (t : Tm), t.small → ∀ d ∈ tl t.txt, 40 ≤ d ∧ d ≠ 61
  | .v n, h, d, hd => by
    have hd : d ∈ tl (("x" : Str) ++ Str.ofString (toString n)) := hd
    rw [tl_append, t_x, tl_int (h n (by simp [Tm.nums])).1] at hd
    rcases List.mem_append.mp hd with hd | hd
    · simp at hd; omega
    · have := numL_small _ d hd; omega
  | .z, h, d, hd => by
    have hd : d ∈ tl ("0" : Str) := hd
    rw [t_0] at hd; simp at hd; omega
  | .s t, h, d, hd => by
    have hd : d ∈ tl (("s" : Str) ++ "(" ++ Txt.join "," [t.txt] ++ ")") := hd
    rw [join1, tl_append, tl_append, tl_append, t_s, t_open, t_close] at hd
    simp only [List.mem_append, List.mem_singleton] at hd
    rcases hd with ((hd | hd) | hd) | hd
    · omega
    · omega
    · exact txt_signs t h d hd
    · omega
  | .f l r, h, d, hd => by
    have hd : d ∈ tl (("f" : Str) ++ "(" ++ Txt.join "," [l.txt, r.txt] ++ ")") := hd
    rw [join2, tl_append, tl_append, tl_append, tl_append, tl_append, t_f, t_open, t_close, t_comma] at hd
    simp only [List.mem_append, List.mem_singleton] at hd
    rcases hd with ((hd | hd) | (hd | hd) | hd) | hd
    · omega
    · omega
    · exact txt_signs l (fun n hn => h n (by simp [Tm.nums, hn])) d hd
    · omega
    · exact txt_signs r (fun n hn => h n (by simp [Tm.nums, hn])) d hd
    · omega
theorem xn_signs {n : Int} (h : 0 ≤ n) : tl (xn n) = 120 :: numL n.toNat := by
  unfold xn
  rw [tl_append, t_x, tl_int h]
  rfl
theorem xn_free {n : Int} (h : 0 ≤ n) : 61 ∉ tl (xn n) ∧ 32 ∉ tl (xn n) := by
  rw [xn_signs h]
  constructor
  · intro hd
    rcases List.mem_cons.mp hd with hd | hd
    · omega
    · have := numL_small _ _ hd; omega
  · intro hd
    rcases List.mem_cons.mp hd with hd | hd
    · omega
    · have := numL_small _ _ hd; omega
theorem row_free {p : Int × Tm} (h : 0 ≤ p.1) (h' : p.2.small) : 32 ∉ tl (row p) := by
  unfold row
  rw [tl_append, tl_append, t_eq]
  intro hd
  rcases List.mem_append.mp hd with hd | hd
  · rcases List.mem_append.mp hd with hd | hd
    · exact (xn_free h).2 hd
    · simp at hd
  · have := txt_signs _ h' _ hd; omega
theorem row_parts {p : Int × Tm} (h : 0 ≤ p.1) : Txt.partition (row p) "=" = (xn p.1, ("=" : Str), p.2.txt) := partition_app t_eq (xn_free h).1
theorem rows_split {ps : Prs} (ok : PrOk ps) (ne : ps ≠ []) : Txt.split (Txt.join " " (ps.map row)) " " = ps.map row := by
  refine split_join t_sp (by decide +kernel) (by simpa using ne) fun p hp => ?_
  obtain ⟨q, hq, rfl⟩ := List.mem_map.mp hp
  exact row_free (ok.num q hq).1 (ok.sm q hq)
theorem rows_ne {ps : Prs} (ok : PrOk ps) (ne : ps ≠ []) : Txt.join " " (ps.map row) ≠ "-" := by
  intro e
  have e2 := rows_split ok ne
  rw [e] at e2
  have e3 : Txt.split "-" " " = [("-" : Str)] := by decide +kernel
  rw [e3] at e2
  match ps, ne with
  | [p], _ =>
    simp at e2
    have e4 := congrArg tl e2
    unfold row at e4
    rw [tl_append, tl_append, xn_signs (ok.num p (by simp)).1] at e4
    have e5 : tl ("-" : Str) = [45] := by decide +kernel
    rw [e5] at e4
    simp at e4
  | p :: q :: r, _ => simp at e2
theorem row_len {p : Int × Tm} (h : 0 ≤ p.1 ∧ p.1 ≤ 99) (h' : p.2.small) (hz : p.2.size ≤ 100) : (row p).length ≤ 410 := by
  have a := (xn_facts h).2.1
  have b := txt_len _ h'
  have c : ("=" : Str).length = 1 := by decide +kernel
  unfold row
  rw [slen, slen]
  omega
theorem rows_len : ∀ {ps : Prs}, (∀ p ∈ ps, (row p).length ≤ 410) → ((ps.map row).map (·.length)).sum ≤ 410 * ps.length
  | [], _ => by simp
  | p :: ps, h => by
    have := rows_len (ps := ps) fun q hq => h q (by simp [hq])
    have := h p (by simp)
    simp only [List.map_cons, List.sum_cons, List.length_cons]
    omega
end Rp

set_option maxHeartbeats 8000000
namespace Rp
open PySem PySem.Spec PyProof.Rows L2 TL RZ
/-- [.. for a, b in zip(xs, ys)], n turns -/
theorem lc_pairsN {J : It} {n : Nat} {xs ys : List V} {g : TG} {tt : TT} {te : TE} {vs : List Nat} {σ : L2.St} {H1 : Hp} {D : Addr} {Qd : Hp → Prop} (Pv : Nat → Hp → Prop)
    (stops : ∀ H, Pv n H → J.stop n H) (goes : ∀ i H, i < n → Pv i H → J.go i H)
    (gives : ∀ i H v H', i < n → Pv i H → J.yld i H v H' → ∃ T x y, v = .ref T ∧ xs[i]? = some x ∧ ys[i]? = some y ∧ H T = none ∧ H' = upd H T (.tup [x, y]))
    (h0 : Pv 0 (upd H1 D (.lst [])))
    (hs : ∀ (i : Nat) (x y : V) (T : Addr) (H : Hp), i < n → xs[i]? = some x → ys[i]? = some y → Pv i H → H T = none → g (.ref T) (wipe σ vs) (upd H T (.tup [x, y])) fun σ2 H2 => wipe σ2 vs = wipe σ vs ∧
      tt σ2 H2 fun b H3 => if b = true then te σ2 H3 fun y H4 => ∃ acc, H4 D = some (.lst acc) ∧ acc.length < sizeLine ∧ Pv (i + 1) (upd H4 D (.lst (acc ++ [y]))) else Pv (i + 1) H3)
    (hd : ∀ H, Pv n H → Qd H) :
    ∃ W : Nat → Nat → Hp → Prop, (∃ m, W 0 m (upd H1 D (.lst []))) ∧ ∀ i m H, W i m H → (J.stop i H ∧ Qd H) ∨
      (J.go i H ∧ ∃ Nx : Hp → Prop, (∀ H', Nx H' → ∃ m', m' < m ∧ W (i + 1) m' H') ∧ ∀ x H', J.yld i H x H' → g x (wipe σ vs) H' fun σ2 H2 => wipe σ2 vs = wipe σ vs ∧
        tt σ2 H2 fun b H3 => if b = true then te σ2 H3 fun y H4 => ∃ acc, H4 D = some (.lst acc) ∧ acc.length < sizeLine ∧ Nx (upd H4 D (.lst (acc ++ [y]))) else Nx H3) := by
  refine ⟨fun i m H => m + i = n ∧ Pv i H, ⟨n, by simp, h0⟩, ?_⟩
  rintro i m H ⟨em, p⟩
  rcases Nat.lt_or_ge i n with lt | ge
  · refine .inr ⟨goes i H lt p, Pv (i + 1), fun H' p' => ⟨m - 1, by omega, by omega, p'⟩, fun v H' y => ?_⟩
    obtain ⟨T, x, y', rfl, hx, hy, hT, rfl⟩ := gives i H v H' lt p y
    exact hs i x y' T H lt hx hy p hT
  · have e : i = n := by omega
    subst e
    exact .inl ⟨stops H p, hd H p⟩
theorem tm_ok : ∀ t : Tm, (tmD t).canLay0 = true ∧ (tmD t).depth ≤ t.deep + 1 ∧ nd (tmD t) ≤ 2 * t.size
  | .v n => ⟨rfl, by simp [tmD, PyData.depth], by simp [tmD, nd, Tm.size]⟩
  | .z => ⟨by decide +kernel, by simp [tmD, PyData.depth, PyData.depthAll], by simp [tmD, nd, ndAll, Tm.size]⟩
  | .s t => by
    have ih := tm_ok t
    have a : PyData.canLay0 (.str "s") = true := by decide +kernel
    refine ⟨?_, ?_, ?_⟩
    · simp only [tmD, PyData.canLay0, PyData.canLayAll0, Bool.and_true, Bool.and_eq_true]; exact ⟨by simpa [PyData.canLay0] using a, ih.1⟩
    · simp only [tmD, PyData.depth, PyData.depthAll, Tm.deep]; omega
    · simp only [tmD, nd, ndAll, Tm.size]; omega
  | .f l r => by
    have ih := tm_ok l
    have ih2 := tm_ok r
    have a : PyData.canLay0 (.str "f") = true := by decide +kernel
    refine ⟨?_, ?_, ?_⟩
    · simp only [tmD, PyData.canLay0, PyData.canLayAll0, Bool.and_true, Bool.and_eq_true]; exact ⟨by simpa [PyData.canLay0] using a, ih.1, ih2.1⟩
    · simp only [tmD, PyData.depth, PyData.depthAll, Tm.deep]; omega
    · simp only [tmD, nd, ndAll, Tm.size]; omega
theorem rows_pos {ps : Prs} (ok : PrOk ps) (ne : ps ≠ []) : (Txt.join " " (ps.map row)).length ≠ 0 := by
  intro h0
  have e2 := rows_split ok ne
  have e3 : Txt.join " " (ps.map row) = Str.empty := by
    have := (len0_tl _).mp h0
    exact ext_tl this
  rw [e3] at e2
  have e4 : Txt.split Str.empty " " = [Str.empty] := by decide +kernel
  rw [e4] at e2
  match ps, ne with
  | [p], _ =>
    simp at e2
    have e5 := congrArg tl e2
    unfold row at e5
    rw [tl_append, tl_append, xn_signs (ok.num p (by simp)).1] at e5
    have e6 : tl Str.empty = [] := rfl
    rw [e6] at e5
    simp at e5
  | p :: p' :: r, _ => simp at e2
def spBText : Sp := fun vs H Q _ => ∃ (v : V) (ps : Prs), vs = [v] ∧ BiAt H v ps ∧ PrOk ps ∧ ∀ H', Same H H' → Q (.str (bitxt ps)) H'
def spPairIn : Sp := fun vs H Q _ => ∃ p : Int × Tm, vs = [.str (row p)] ∧ (0 ≤ p.1 ∧ p.1 ≤ 99) ∧ p.2.small ∧ p.2.size ≤ 40 ∧ ∀ (b : Addr) (y : V) (H' : Hp), H' b = some (.tup [.int p.1, y]) → TmAt H' y p.2 → Same H H' → Q (.ref b) H'
def spBOr : Sp := fun vs H Q _ => ∃ ps : Prs, vs = [.str (bitxt ps)] ∧ PrOk ps ∧ ∀ (v : V) (H' : Hp), BiAt H' v ps → Same H H' → Q v H'
def spIsPair : Sp := fun vs H Q _ => ∃ (b : Addr) (y : V) (p : Int × Tm), vs = [.ref b] ∧ H b = some (.tup [.int p.1, y]) ∧ TmAt H y p.2 ∧ (0 ≤ p.1 ∧ p.1 ≤ 99) ∧ p.2.small ∧ p.2.size ≤ 40 ∧ ∀ H', Same H H' → Q (.bl true) H'
def spIsBi : Sp := fun vs H Q _ => ∃ (v : V) (ps : Prs), vs = [v] ∧ BiAt H v ps ∧ PrOk ps ∧ ∀ H', Same H H' → Q (.bl true) H'
section
variable {P : Program} {w : World} {K : PySem.W.Frag} {mg : Str → Option Value} {base : Heap}
def teRow : TE := fun σ H Q => tJs [tC (.str "x"), tFmt (tVar 1), tC (.str "="), tFmt (tCall spTermText [] E0 (tCons (tVar 2) tNil))] Str.empty σ H fun out H1 => Q (.str out) H1
theorem scBText : FnScope ["binding", "variable", "term"] ["binding"] (defScope sBindingText) := ⟨rfl, rfl, rfl, by decide +kernel, rfl, by decide +kernel, by decide +kernel⟩
theorem ok_btext {f fT : Addr} {fd dT : FuncData} (F : Fun K "binding_text" "binding_text" sBindingText f fd)
    (GT : FnOk P w K mg base CX0 4 fT dT ["term"] spTermText) (kT : PySem.W.keepIn K (.ref fT) = true) (bT : Binds K dT ["term"] []) (mT : mg "term_text" = some (.ref fT)) : FnOk P w K mg base CX0 5 f fd ["binding"] spBText := by
  refine F.ok scBText (fun vs H Q E h => ?_) (fun cdv A outer s H vs Q E hr h => ?_)
  · obtain ⟨v, ps, rfl, _⟩ := h
    rfl
  obtain ⟨v, ps, rfl, ⟨a, xs, rfl, ha, Pa⟩, ok, q⟩ := h
  refine ⟨_, pss_one (ps_ret (pe_orT (pe_bm PySem.F.plainAttrs_str PySem.F.slot_str_join PySem.F.type_str_join mt_join pe_str (pa_cons
      (pe_lc (own := [("variable", 1), ("term", 2)]) (g := gTup K 2 (gCons (gName 1) (gCons (gName 2) gNil))) (tt := tYes) (te := teRow) rfl scBText.nd
        (pi_tup (pv 0)) (blkOk_by (N := ["binding", "variable", "term"]) (sc := defScope sBindingText) (by decide +kernel))
        (fun _ _ _ _ _ => pg_tup (by rfl) (pgs_cons (pg_name (i := 1) scBText.nd rfl (Or.inl rfl)) (pgs_cons (pg_name (i := 2) scBText.nd rfl (Or.inl rfl)) pgs_nil)))
        (fun _ _ _ _ _ => pts_nil) (fun _ _ _ _ _ => pe_joined (.cons pe_str (.cons (pe_fmt (pv 1)) (.cons pe_str (.cons (pe_fmt (pe_call GT hr (by rfl) mT kT bT .nil pass0 (pa_cons (pv 2) pa_nil))) .nil)))))) pa_nil)) (pe_one pe_str))), ?_⟩
  have big : (10000 : Nat) ≤ sizeLine := by decide
  have len := Pa.len
  refine ⟨rfl, _, rfl, a, rfl, ⟨_, .inl (.inl ha)⟩, fun D hD => lc_tup (K := K) (a := a) (xs := xs) (fun i H2 => H2 D = some (.lst (((ps.take i).map row).map V.str)) ∧ Same H H2) ⟨upd_same, same_new hD _⟩ (fun i H2 _ h => .inl (.inl (h.2 _ _ ha))) ?_ ?_⟩
  · rintro i x H2 hi ⟨h2, s2⟩
    obtain ⟨p, hp, b, y, rfl, hb, T⟩ := Pa.get hi
    have pm : p ∈ ps := List.mem_of_getElem? hp
    have np := ok.num p pm
    have sp_ := ok.sm p pm
    have zp := ok.sz p pm
    have nl := num_len np
    have tl1 := txt_len _ sp_
    have lx : ("x" : Str).length = 1 := by decide +kernel
    have le : ("=" : Str).length = 1 := by decide +kernel
    have li : i < ps.length := (List.getElem?_eq_some_iff.mp hp).1
    have few := ok.few
    refine ⟨b, _, rfl, .inl (.inl (s2 _ _ hb)), rfl, _, _, rfl, _, _, rfl, rfl, rfl, ?_⟩
    unfold teRow
    refine ⟨_, rfl, ?_, _, rfl, .inr ⟨p.1, rfl, ?_, _, rfl, ?_, _, rfl, ?_, _, rfl, y, p.2, rfl, T.same s2, sp_, by omega, fun H3 s3 => .inl ⟨_, rfl, by omega, _, rfl, ?_, _, s3 _ _ h2, ?_, ?_, ?_⟩⟩⟩
    · rw [Str.empty_append]; omega
    · have := Nat.log2_le_self p.1.natAbs; omega
    · rw [Str.empty_append, slen]; show _ + (Str.ofString (toString p.1)).length ≤ _; omega
    · rw [Str.empty_append, slen, slen]; show _ + (Str.ofString (toString p.1)).length + _ ≤ _; omega
    · rw [Str.empty_append, slen, slen, slen]; show _ + (Str.ofString (toString p.1)).length + _ + _ ≤ _; omega
    · rw [List.length_map, List.length_map, List.length_take]; omega
    · have tk : ps.take (i + 1) = ps.take i ++ [p] := by rw [List.take_add_one, hp]; rfl
      rw [upd_same, tk, List.map_append, List.map_append, Str.empty_append]
      rfl
    · intro c o z
      have nD : c ≠ D := ne_of_none z hD
      rw [upd_ne nD]
      exact s3 _ _ (s2 _ _ z)
  · rintro H2 ⟨h2, s2⟩
    rw [len, List.take_of_length_le (Nat.le_refl _)] at h2
    have few := ok.few
    have rl := rows_len (ps := ps) fun p hp => row_len (ok.num p hp) (ok.sm p hp) (by have := ok.sz p hp; omega)
    have l1 : (" " : Str).length = 1 := by decide +kernel
    have tot : ((ps.map row).map (·.length)).sum + (ps.map row).length * (" " : Str).length ≤ 10000 := by rw [l1, List.length_map]; omega
    refine ⟨_, D, ps.map row, rfl, rfl, .inl (.inl (.inl h2)), by omega, ?_⟩
    have jl := StrLaws.join_length_le " " (ps.map row)
    rw [← join_eq] at jl
    refine ⟨_, ⟨by omega, rfl⟩, ?_⟩
    have qq := q H2 s2
    unfold bitxt at qq
    by_cases e : ps = []
    · subst e
      rw [if_pos rfl] at qq
      exact iteF qq
    · rw [if_neg e] at qq
      have nz : (((Txt.join " " (ps.map row)).length : Int) != 0) = true := by
        have := rows_pos ok e
        simp
        omega
      rw [nz]
      exact iteT qq
end
end Rp

set_option maxHeartbeats 8000000
namespace Rp
open PySem PySem.Spec PyProof.Rows L2 TL RZ
section
variable {P : Program} {w : World} {K : PySem.W.Frag} {mg : Str → Option Value} {base : Heap}
theorem scPairIn : FnScope ["text", "variable", "_", "term"] ["text"] (defScope sPairIn) := ⟨rfl, rfl, rfl, by decide +kernel, rfl, by decide +kernel, by decide +kernel⟩
theorem ok_pairin {f fO : Addr} {fd dO : FuncData} (F : Fun K "_pair_in" "_pair_in" sPairIn f fd)
    (GO : FnOk P w K mg base CX0 5 fO dO ["text"] spTermOr) (kO : PySem.W.keepIn K (.ref fO) = true) (bO : Binds K dO ["text"] []) (mO : mg "term_or_none" = some (.ref fO)) : FnOk P w K mg base CX0 6 f fd ["text"] spPairIn := by
  refine F.ok scPairIn (fun vs H Q E h => ?_) (fun cdv A outer s H vs Q E hr h => ?_)
  · obtain ⟨p, rfl, _⟩ := h
    rfl
  obtain ⟨p, rfl, np, sp_, zp, q⟩ := h
  refine ⟨_, pss_cons (ps_asg (pe_partition (pv 0) pe_str) (pg_tup (by rfl) (pgs_cons (pg_name (i := 1) scPairIn.nd rfl (Or.inl rfl)) (pgs_cons (pg_name (i := 2) scPairIn.nd rfl (Or.inl rfl)) (pgs_cons (pg_name (i := 3) scPairIn.nd rfl (Or.inl rfl)) pgs_nil)))))
    (pss_one (ps_ret (pe_tup (pa_cons (pe_call GO hr rfl mO kO bO .nil pass0 (pa_cons (pv 1) pa_nil)) (pa_cons (pe_call GO hr rfl mO kO bO .nil pass0 (pa_cons (pv 3) pa_nil)) pa_nil))))), ?_⟩
  have big : (10000 : Nat) ≤ sizeLine := by decide
  have rl := row_len np sp_ (by omega)
  refine ⟨_, rfl, ⟨_, rfl⟩, row p, "=", rfl, rfl, by decide +kernel, by omega, fun g hg => ?_⟩
  rw [row_parts np.1]
  have s1 := same_new hg (.tup [V.str (xn p.1), .str "=", .str p.2.txt])
  refine ⟨g, _, rfl, .inl (.inl upd_same), rfl, _, _, rfl, _, _, rfl, _, _, rfl, rfl, ?_⟩
  refine ⟨_, rfl, .v p.1, rfl, fun n hn => by simp [Tm.nums] at hn; subst hn; exact np, by show 1 ≤ 200; decide, fun v H2 T2 s2 => ?_⟩
  cases T2
  refine ⟨_, rfl, p.2, rfl, sp_, by omega, fun y H3 T3 s3 => ?_⟩
  refine ⟨(by show 2 ≤ sizeLine; decide), fun b hb => ?_⟩
  have s4 := same_new hb (.tup [V.int p.1, y])
  exact q b y _ upd_same (T3.same s4) (s1.trans (s2.trans (s3.trans s4)))
theorem scIsPair : FnScope ["thing"] ["thing"] (defScope sIsPair) := ⟨rfl, rfl, rfl, by decide +kernel, rfl, by decide +kernel, by decide +kernel⟩
theorem ok_ispair {f fV fT : Addr} {fd dV dT : FuncData} (F : Fun K "_is_pair" "_is_pair" sIsPair f fd)
    (GV : FnOk P w K mg base CX0 2 fV dV ["thing"] spVariable) (kV : PySem.W.keepIn K (.ref fV) = true) (bV : Binds K dV ["thing"] []) (mV : mg "is_variable" = some (.ref fV))
    (GT : FnOk P w K mg base CX0 3 fT dT ["thing"] spTerm) (kT : PySem.W.keepIn K (.ref fT) = true) (bT : Binds K dT ["thing"] []) (mT : mg "is_term" = some (.ref fT)) (M : SameG mg) : FnOk P w K mg base CX0 4 f fd ["thing"] spIsPair := by
  refine F.ok scIsPair (fun vs H Q E h => ?_) (fun cdv A outer s H vs Q E hr h => ?_)
  · obtain ⟨b, y, p, rfl, _⟩ := h
    rfl
  obtain ⟨b, y, p, rfl, hb, T, np, sp_, zp, q⟩ := h
  have r2 : Room 2 _ := hr.mono (by decide)
  refine ⟨_, pss_one (ps_ret (pe_and (pe_callB (id := "isinstance") call_isi (by rfl) M.isi (by decide +kernel) (pa_cons (pv 0) (pa_cons (pe_bltn (v := .ty "tuple") (by rfl) M.tuple (by decide +kernel) rfl) pa_nil)))
    (pe_and (pe_cmpR op_eq (pe_callB call_len_seq (by rfl) M.len PySem.boot_len (pa_cons (pv 0) pa_nil)) pe_int (nomark _))
    (pe_and (pe_call GV r2 rfl mV kV bV .nil pass0 (pa_cons (pe_ix ix_tup (pv 0) pe_int (fun _ _ => rfl)) pa_nil))
    (pe_one (pe_call GT hr rfl mT kT bT .nil pass0 (pa_cons (pe_ix ix_tup (pv 0) pe_int (fun _ _ => rfl)) pa_nil))))))), ?_⟩
  have okk := tm_ok p.2
  have dl := Tm.deep_lt p.2
  refine ⟨_, rfl, _, _, _, _, true, rfl, .ty "tuple", .base (.tup hb), kit_ty (by decide +kernel), true, rfl, iteT ?_⟩
  refine ⟨_, rfl, b, _, rfl, .inr (.inl (.inl hb)), rfl, true, congrArg V.bl (decide_eq_true rfl), iteT ?_⟩
  have iv : isVar (.int p.1) = true := by simp [isVar]; exact np
  refine ⟨_, rfl, b, _, _, _, rfl, rfl, .inl (.inl hb), at_of (j := 0) rfl rfl, b, _, .int p.1, rfl, (by unfold DAt; rfl), true, congrArg V.bl iv, iteT ?_⟩
  refine ⟨_, rfl, b, _, _, _, rfl, rfl, .inl (.inl hb), at_of (j := 1) rfl rfl, b, y, tmD p.2, rfl, T.dat, ⟨okk.1, by omega⟩, by omega, fun r H1 hr1 s1 => ?_⟩
  obtain rfl : r = true := hr1.mpr ⟨p.2, rfl, sp_⟩
  exact q H1 s1
theorem scIsBi : FnScope ["thing", "pair", "left", "right"] ["thing"] (defScope sIsBinding) := ⟨rfl, rfl, rfl, by decide +kernel, rfl, by decide +kernel, by decide +kernel⟩
theorem ok_isbi {f fP : Addr} {fd dP : FuncData} (F : Fun K "is_binding" "is_binding" sIsBinding f fd)
    (GP : FnOk P w K mg base CX0 4 fP dP ["thing"] spIsPair) (kP : PySem.W.keepIn K (.ref fP) = true) (bP : Binds K dP ["thing"] []) (mP : mg "_is_pair" = some (.ref fP)) (M : SameG mg) : FnOk P w K mg base CX0 5 f fd ["thing"] spIsBi := by
  refine F.ok scIsBi (fun vs H Q E h => ?_) (fun cdv A outer s H vs Q E hr h => ?_)
  · obtain ⟨v, ps, rfl, _⟩ := h
    rfl
  obtain ⟨v, ps, rfl, ⟨a, xs, rfl, ha, Pa⟩, ok, q⟩ := h
  refine ⟨_, pss_cons (ps_if (PW.pt (pw_or (pt_not (pt_val (pe_callB (id := "isinstance") call_isi (by rfl) M.isi (by decide +kernel) (pa_cons (pv 0) (pa_cons (pe_bltn (v := .ty "tuple") (by rfl) M.tuple (by decide +kernel) rfl) pa_nil)))))
      (pw_or1 (pt_not (pt_val (pe_callB (cr_all rfl) (by rfl) M.all (by decide +kernel) (pa_cons (pe_lc (own := [("pair", 1)]) (g := gName 1) (tt := tYes) (te := tCall spIsPair [] E0 (tCons (tVar 1) tNil)) rfl scIsBi.nd
        (pi_tup (pv 0)) (blkOk_by (N := ["thing", "pair", "left", "right"]) (sc := defScope sIsBinding) (by decide +kernel)) (fun _ _ _ _ _ => pg_name (i := 1) scIsBi.nd rfl (Or.inl rfl))
        (fun _ _ _ _ _ => pts_nil) (fun _ _ _ _ _ => pe_call GP hr (by rfl) mP kP bP .nil pass0 (pa_cons (pv 1) pa_nil))) pa_nil))))))) (pss_one (ps_ret pe_bl)) pss_nil)
    (pss_one (ps_ret (pe_callB (cr_all rfl) (by rfl) M.all (by decide +kernel) (pa_cons (pe_lc (own := [("left", 2), ("right", 3)]) (g := gTup K 2 (gCons (gName 2) (gCons (gName 3) gNil))) (tt := tYes)
        (te := tOp (rI0 fun i j => .bl (decide (i < j))) (tOp (rIxT K) (tVar 2) (tC (.int 0))) (tOp (rIxT K) (tVar 3) (tC (.int 0)))) rfl scIsBi.nd
        (pi_zipA (by rfl) M.zip (pa_cons (pv 0) (pa_cons (pe_slice sl_tupA (pv 0) (po_some pe_int) po_none) pa_nil))) (blkOk_by (N := ["thing", "pair", "left", "right"]) (sc := defScope sIsBinding) (by decide +kernel))
        (fun _ _ _ _ _ => pg_tup (by rfl) (pgs_cons (pg_name (i := 2) scIsBi.nd rfl (Or.inl rfl)) (pgs_cons (pg_name (i := 3) scIsBi.nd rfl (Or.inl rfl)) pgs_nil)))
        (fun _ _ _ _ _ => pts_nil) (fun _ _ _ _ _ => pe_cmpR op_lt (pe_ix ix_tup (pv 2) pe_int (fun _ _ => rfl)) (pe_ix ix_tup (pv 3) pe_int (fun _ _ => rfl)) (nomark _))) pa_nil)))), ?_⟩
  have len := Pa.len
  have few := ok.few
  have big : (10000 : Nat) ≤ sizeLine := by decide
  refine ⟨_, rfl, _, _, _, _, true, rfl, .ty "tuple", .base (.tup ha), kit_ty (by decide +kernel), true, rfl, iteF ?_⟩
  refine ⟨_, rfl, a, rfl, ⟨_, .inl (.inl ha)⟩, fun D hD => lc_tup (K := K) (a := a) (xs := xs) (fun i H2 => H2 D = some (.lst (List.replicate i (V.bl true))) ∧ Same H H2) ⟨upd_same, same_new hD _⟩ (fun i H2 _ h => .inl (.inl (h.2 _ _ ha))) ?_ ?_⟩
  · rintro i x H2 hi ⟨h2, s2⟩
    obtain ⟨p, hp, b, y, rfl, hb, T⟩ := Pa.get hi
    have pm : p ∈ ps := List.mem_of_getElem? hp
    have li : i < xs.length := (List.getElem?_eq_some_iff.mp hi).1
    refine ⟨rfl, ?_⟩
    refine ⟨_, rfl, b, y, p, rfl, s2 _ _ hb, T.same s2, ok.num p pm, ok.sm p pm, ok.sz p pm, fun H' s' => ⟨_, s' _ _ h2, ?_, ?_, ?_⟩⟩
    · rw [List.length_replicate]; omega
    · rw [upd_same, List.replicate_succ']
    · intro c o z
      rw [upd_ne (ne_of_none z hD)]
      exact s' _ _ (s2 _ _ z)
  · rintro H2 ⟨h2, s2⟩
    have e : (List.replicate xs.length true).all id = true := by rw [List.all_eq_true]; intro x hx; rw [List.eq_of_mem_replicate hx]; rfl
    refine ⟨D, List.replicate xs.length true, rfl, .inl (.inl (by rw [List.map_replicate]; exact h2)), true, congrArg V.bl e, iteF ?_⟩
    have ha2 := s2 _ _ ha
    refine ⟨_, rfl, _, rfl, 1, rfl, a, xs, rfl, .inl (.inl ha2), fun hw => ?_, fun hw g hg => ?_⟩
    · have e0 : xs = [] := by
        have := hw.1
        rw [show (some 1 : Option Int) = some ((1 : Nat) : Int) from rfl, HT.sIx_nat] at this
        rcases xs with _ | ⟨x, r⟩
        · rfl
        · simp at this
      subst e0
      refine ⟨a, a, [], [], rfl, .inr ⟨.inl (.inl ha2), .inl (.inl ha2), fun D2 hD2 => ?_⟩⟩
      refine lc_pairsN (J := ItzT K a a) (n := 0) (xs := []) (ys := []) (fun i H4 => i = 0 ∧ H4 D2 = some (.lst []) ∧ Same H2 H4)
        (fun H4 h => ⟨[], [], .inl (.inl (h.2.2 _ _ ha2)), .inl (.inl (h.2.2 _ _ ha2)), .inl (Nat.le_refl _)⟩) (fun i H4 lt => absurd lt (by omega)) (fun i H4 v H5 lt => absurd lt (by omega))
        ⟨rfl, upd_same, same_new hD2 _⟩ (fun i _ _ _ _ lt => absurd lt (by omega)) (fun H4 h => ⟨D2, [], rfl, .inl (.inl h.2.1), q _ (s2.trans h.2.2)⟩)
    · have ec : cutV xs (some 1) none = xs.drop 1 := cut_from (i := 1) rfl
      rw [ec]
      have s3 := same_new hg (.tup (xs.drop 1))
      have ha3 := s3 _ _ ha2
      refine ⟨a, g, xs, xs.drop 1, rfl, .inr ⟨.inl (.inl ha3), .inl (.inl upd_same), fun D2 hD2 => ?_⟩⟩
      have hg3 : (upd H2 g (.tup (xs.drop 1))) g = some (.tup (xs.drop 1)) := upd_same
      refine lc_pairsN (J := ItzT K a g) (n := xs.length - 1) (xs := xs) (ys := xs.drop 1) (fun i H4 => H4 D2 = some (.lst (List.replicate i (V.bl true))) ∧ Same (upd H2 g (.tup (xs.drop 1))) H4)
        (fun H4 h => ⟨xs, xs.drop 1, .inl (.inl (h.2 _ _ ha3)), .inl (.inl (h.2 _ _ hg3)), .inr (by rw [List.length_drop]; exact Nat.le_refl _)⟩)
        (fun i H4 lt h => ⟨xs, xs.drop 1, xs[i]'(by omega), (xs.drop 1)[i]'(by rw [List.length_drop]; exact lt), .inl (.inl (h.2 _ _ ha3)), .inl (.inl (h.2 _ _ hg3)), List.getElem?_eq_getElem _, List.getElem?_eq_getElem _⟩)
        (fun i H4 v H5 lt h ⟨T, u, v', e1, hT, e2, f1, f2⟩ => ⟨T, u, v', e1, f1 xs (.inl (.inl (h.2 _ _ ha3))), f2 (xs.drop 1) (.inl (.inl (h.2 _ _ hg3))), hT, e2⟩)
        ⟨upd_same, same_new hD2 _⟩ (fun i u v T H4 lt hu hv h hT => ?_) (fun H4 h => ⟨D2, List.replicate (xs.length - 1) true, rfl, .inl (.inl (by rw [List.map_replicate]; exact h.1)), ?_⟩)
      · have sT := same_new hT (.tup [u, v])
        rw [List.getElem?_drop] at hv
        obtain ⟨p, hp, b, y, rfl, hb, _⟩ := Pa.get hu
        obtain ⟨p', hp', b', y', rfl, hb', _⟩ := Pa.get hv
        have sAll : Same H (upd H4 T (.tup [V.ref b, .ref b'])) := s2.trans (s3.trans (h.2.trans sT))
        have lt' : p.1 < p'.1 := by
          have up := List.pairwise_iff_getElem.mp ok.up i (1 + i) (by rw [List.length_map]; have := (List.getElem?_eq_some_iff.mp hp).1; omega) (by rw [List.length_map]; exact (List.getElem?_eq_some_iff.mp hp').1) (by omega)
          rw [List.getElem_map, List.getElem_map, (List.getElem?_eq_some_iff.mp hp).2, (List.getElem?_eq_some_iff.mp hp').2] at up
          exact up
        refine ⟨T, _, rfl, .inl (.inl upd_same), rfl, _, _, rfl, _, _, rfl, rfl, rfl, ?_⟩
        refine ⟨_, rfl, b, _, _, _, rfl, rfl, .inl (.inl (sAll _ _ hb)), at_of (j := 0) rfl rfl, _, rfl, b', _, _, _, rfl, rfl, .inl (.inl (sAll _ _ hb')), at_of (j := 0) rfl rfl, _, _, rfl, rfl, _, sT _ _ h.1, ?_, ?_, ?_⟩
        · rw [List.length_replicate]; omega
        · dsimp only
          rw [decide_eq_true lt', upd_same, List.replicate_succ']
        · intro c o z
          rw [upd_ne (ne_of_none z hD2)]
          exact sT _ _ (h.2 _ _ z)
      · have e : (List.replicate (xs.length - 1) true).all id = true := by rw [List.all_eq_true]; intro x hx; rw [List.eq_of_mem_replicate hx]; rfl
        rw [e]
        exact q _ (s2.trans (s3.trans h.2))
theorem scBOr : FnScope ["text", "binding", "row"] ["text"] (defScope sBindingOrNone) := ⟨rfl, rfl, rfl, by decide +kernel, rfl, by decide +kernel, by decide +kernel⟩
theorem ok_bor {f fP fI : Addr} {fd dP dI : FuncData} (F : Fun K "binding_or_none" "binding_or_none" sBindingOrNone f fd)
    (GP : FnOk P w K mg base CX0 6 fP dP ["text"] spPairIn) (kP : PySem.W.keepIn K (.ref fP) = true) (bP : Binds K dP ["text"] []) (mP : mg "_pair_in" = some (.ref fP))
    (GI : FnOk P w K mg base CX0 5 fI dI ["thing"] spIsBi) (kI : PySem.W.keepIn K (.ref fI) = true) (bI : Binds K dI ["thing"] []) (mI : mg "is_binding" = some (.ref fI)) (mTuple : mg "tuple" = none) : FnOk P w K mg base CX0 7 f fd ["text"] spBOr := by
  refine F.ok scBOr (fun vs H Q E h => ?_) (fun cdv A outer s H vs Q E hr h => ?_)
  · obtain ⟨ps, rfl, _⟩ := h
    rfl
  obtain ⟨ps, rfl, ok, q⟩ := h
  have r5 : Room 5 _ := hr.mono (by decide)
  refine ⟨_, pss_cons (ps_if (pt_cmpR op_eq (pv 0) pe_str (nomark _)) (pss_one (ps_ret (pe_tup pa_nil))) pss_nil)
    (pss_cons (ps_set (i := 1) scBOr.nd rfl (Or.inl rfl) (pe_callTy call_tuple_of (by rfl) mTuple (by decide +kernel) (pa_cons (pe_lc (own := [("row", 2)]) (g := gName 2) (tt := tYes) (te := tCall spPairIn [] E0 (tCons (tVar 2) tNil)) rfl scBOr.nd
        (pi_list (pe_split (pv 0) pe_str)) (blkOk_by (N := ["text", "binding", "row"]) (sc := defScope sBindingOrNone) (by decide +kernel)) (fun _ _ _ _ _ => pg_name (i := 2) scBOr.nd rfl (Or.inl rfl))
        (fun _ _ _ _ _ => pts_nil) (fun _ _ _ _ _ => pe_call GP hr (by rfl) mP kP bP .nil pass0 (pa_cons (pv 2) pa_nil))) pa_nil)))
    (pss_one (ps_ret (pe_ifExp (pt_val (pe_call GI r5 rfl mI kI bI .nil pass0 (pa_cons (pv 1) pa_nil))) (pv 1) pe_non)))), ?_⟩
  have few := ok.few
  have big : (10000 : Nat) ≤ sizeLine := by decide
  by_cases e : ps = []
  · subst e
    refine ⟨_, rfl, rfl, true, congrArg V.bl (decide_eq_true rfl), iteT ⟨(by show 0 ≤ sizeLine; decide), fun p hp => ?_⟩⟩
    exact q _ _ ⟨p, [], rfl, upd_same, trivial⟩ (same_new hp _)
  · have bt : bitxt ps = Txt.join " " (ps.map row) := if_neg e
    rw [bt]
    have rl := rows_len (ps := ps) fun p hp => row_len (ok.num p hp) (ok.sm p hp) (by have := ok.sz p hp; omega)
    have l1 : (" " : Str).length = 1 := by decide +kernel
    have jl := StrLaws.join_length_le " " (ps.map row)
    rw [← join_eq, l1, List.length_map] at jl
    refine ⟨_, rfl, rfl, false, congrArg V.bl (str_ne (rows_ne ok e)), iteF ?_⟩
    refine ⟨_, rfl, ⟨_, rfl⟩, Txt.join " " (ps.map row), " ", rfl, rfl, by decide +kernel, by omega, fun l hl => ?_⟩
    rw [rows_split ok e]
    have s1 := same_new hl (.lst ((ps.map row).map V.str))
    refine ⟨l, rfl, ⟨_, .inl (.inl upd_same)⟩, fun D hD => lc_list (K := K) (a := l) (xs := (ps.map row).map V.str) (fun i H2 => ∃ xs : List V, H2 D = some (.lst xs) ∧ PrAt H2 xs (ps.take i) ∧ Same (upd H l (.lst ((ps.map row).map V.str))) H2)
      ⟨[], upd_same, trivial, same_new hD _⟩ (fun i H2 _ ⟨_, _, _, h⟩ => .inl (.inl (h _ _ upd_same))) ?_ ?_⟩
    · rintro i x H2 hi ⟨xs, h2, A2, s2⟩
      rw [List.map_map, List.getElem?_map] at hi
      obtain ⟨p, hp, rfl⟩ : ∃ p, ps[i]? = some p ∧ x = .str (row p) := by
        cases hq : ps[i]? with
        | none => rw [hq] at hi; cases hi
        | some p => rw [hq] at hi; exact ⟨p, rfl, by simpa using hi.symm⟩
      have pm : p ∈ ps := List.mem_of_getElem? hp
      have li : i < ps.length := (List.getElem?_eq_some_iff.mp hp).1
      have xl := A2.len
      rw [List.length_take] at xl
      refine ⟨rfl, ?_⟩
      refine ⟨_, rfl, p, rfl, ok.num p pm, ok.sm p pm, ok.sz p pm, fun b y H3 hb T s3 => ⟨xs, s3 _ _ h2, by omega, xs ++ [.ref b], upd_same, ?_, ?_⟩⟩
      · have h3 := s3 _ _ h2
        have keep : ∀ a zs, H3 a = some (.tup zs) → (upd H3 D (.lst (xs ++ [.ref b]))) a = some (.tup zs) := fun a zs z => by rw [upd_ne (ne_of z h3 (by intro z; cases z))]; exact z
        have tk : ps.take (i + 1) = ps.take i ++ [p] := by rw [List.take_add_one, hp]; rfl
        rw [tk]
        exact (A2.mono fun a zs z => keep a zs (s3 _ _ z)).append ⟨⟨b, y, rfl, keep _ _ hb, T.mono keep⟩, trivial⟩
      · intro c o z
        rw [upd_ne (ne_of_none z hD)]
        exact s3 _ _ (s2 _ _ z)
    · rintro H2 ⟨xs, h2, A2, s2⟩
      rw [List.length_map, List.length_map, List.take_of_length_le (Nat.le_refl _)] at A2
      refine ⟨D, xs, rfl, .inl ⟨.inl (.inl h2), fun a ha => ?_⟩⟩
      have s3 := same_new ha (.tup xs)
      have B : BiAt (upd H2 a (.tup xs)) (.ref a) ps := ⟨a, xs, rfl, upd_same, A2.mono fun b zs z => s3 _ _ z⟩
      refine ⟨_, rfl, _, ps, rfl, B, ok, fun H4 s4 => ⟨true, rfl, iteT ⟨_, rfl, q _ H4 ?_ (s1.trans (s2.trans (s3.trans s4)))⟩⟩⟩
      obtain ⟨a', xs', e1, e2, e3⟩ := B
      exact ⟨a', xs', e1, s4 _ _ e2, e3.mono fun b zs z => s4 _ _ z⟩
end
end Rp

/-! a, *b = xs, a list of one item at least. -/
namespace Rp
open PySem PySem.Spec PySem.Calls PyProof.Rows L2 PySem.W
section
variable {prog : Program} {w : World} {A : Around} {E : Value → Shared → Prop} {s : Shared}
theorem unpack_star {l : Addr} {items : Array Value} {n i : Nat} {Q : List Value → Shared → Prop} (isL : s.heap.IsList l items) (calm : A.handled = none) (hi : i < n) (hn : n ≤ items.size + 1) (few : items.size ≤ 16384)
    (go : ∀ (h' : Heap) (tk : Nat), (∀ b o, s.heap.get? b = some o → h'.get? b = some o) → Q (items.toList.take i ++ [.ref h'.objs.size] ++ (items.toList.drop i).drop (items.size + 1 - n))
      { s with heap := h'.push (seqObj "list" ((items.toList.drop i).take (items.size + 1 - n)).toArray 0), toks := tk }) : wpAny (model prog w) A (unpackItems (.ref l) n (some i)) Q E s := by
  have apart : l ≠ s.heap.objs.size := by obtain ⟨o, ho, _⟩ := isL; exact Nat.ne_of_lt (Heap.lt_size ho)
  unfold unpackItems; refine wpAny_bind ?_; unfold notIterableAtAll
  refine wpAny_bind (wpAny_specialOf isL.typeIs slot_list_iter.lookup (wpAny_pure ?_)); simp only [Bool.false_eq_true, if_false]
  refine wpAny_bind (wpAny_holding (wpAny_pyIter_list isL (wpAny_bind (wpAny_holding (kun_draw apart i 0 _ _ ⟨_, Heap.get?_push_size _ rfl, rfl, rfl⟩ (isL.push _) (by omega) fun h₁ it1 sb1 => ?_)))))
  have isL1 : h₁.IsList l items := (isL.push _).extBut sb1.extBut apart
  rw [Nat.zero_add] at it1
  obtain ⟨oi, hoi, _⟩ := id it1
  obtain ⟨ol, hol, _⟩ := id isL1
  rw [List.drop_zero, if_neg (show ¬ ((items.toList.take i).length < i) by rw [List.length_take, Array.length_toList]; omega)]
  refine wpAny_bind (wpAny_holding (kun_collect (s := { s with heap := h₁ }) (T := "list_iterator") (.inr (.inr (.inl rfl))) (Walks.list (A := A.in1) calm s.heap.objs.size l apart items) (fun j u st => st.1.typeIs) (k := i) (by omega) ⟨it1, isL1⟩
    (Heap.lt_size hoi) (Heap.lt_size hol) (fun h₂ tk old => ?_) (by rw [sizeLine_eq]; omega)))
  have rest : (items.toList.drop i).length = items.size - i := by rw [List.length_drop, Array.length_toList]
  show wpAny _ _ (if (items.toList.drop i).length < n - 1 - i then _ else _) _ _ _; rw [if_neg (by rw [rest]; omega)]
  show wpAny _ _ (newList ((items.toList.drop i).take ((items.toList.drop i).length - (n - 1 - i))) >>= fun d => pure (items.toList.take i ++ [d] ++ (items.toList.drop i).drop ((items.toList.drop i).length - (n - 1 - i)))) _ _ _
  rw [show (items.toList.drop i).length - (n - 1 - i) = items.size + 1 - n by rw [rest]; omega]
  refine wpAny_bind (wpAny_newList (wpAny_pure (go h₂ tk fun b o z => old b o (Nat.ne_of_lt (Heap.lt_size z)) (sb1.extBut b o (Nat.ne_of_lt (Heap.lt_size z)) (Heap.get?_push_of_some _ z)))) (by rw [List.length_take, rest, sizeLine_eq]; omega))
end
section
variable {X : Cx} {pos : Pos}
/-- (a, *b) = a list: the first item, a new list of the others -/
def gStar (K : PySem.W.Frag) (t : TGs) : TG := fun v σ H Q => ∃ (a : Addr) (x : V) (xs : List V), v = .ref a ∧ SqL K H a (x :: xs) ∧ xs.length ≤ 16000 ∧ ∀ p, H p = none → t [x, .ref p] σ (upd H p (.lst xs)) Q
theorem pg_star {es : List Expr} {k : Nat} {t : TGs} (calm : X.calm = true) (h : PGs X es t) (hn : (assignEach es X.env).length = 2 := by rfl) (hst : (assignEach es X.env).findIdx? (·.1) = some 1 := by rfl) : PG X (.Tuple es k pos) (gStar X.K t) := by
  refine ⟨fun pins s σ H v u Q I r hw => ?_⟩
  obtain ⟨a, x, xs, rfl, sq, few, go⟩ := hw
  cases r
  obtain ⟨its, rv, isL, _⟩ := I.list sq
  have len := rv.length
  cases rv with
  | @cons _ v0 _ vs r0 rr =>
    have lv := rr.length
    rw [assign_Tuple]
    refine wpAny_bind (wpAny_standAt ?_)
    unfold unpack
    rw [hn, hst]
    refine wpAny_bind (wpAny_holding (unpack_star isL.isList (I.ok.hd calm) (by decide) (by simp) (by simp; omega) fun h' tk old => ?_))
    have J : Inv X pins σ H { s with heap := h', toks := tk } := I.kept old
    have big : (20000 : Nat) ≤ sizeLine := by decide
    have K1 : Inv X pins σ (upd H h'.objs.size (.lst xs)) { s with heap := h'.push (seqObj "list" vs.toArray 0), toks := tk } :=
      J.laid (t' := tk) (fun b o z => Heap.get?_push_of_some _ z) (Nat.le_refl _) ⟨by omega, vs, 0, rr, Heap.get?_push_size _ rfl⟩
    have e1 : ((v0 :: vs).toArray.toList.drop 1).take ((v0 :: vs).toArray.size + 1 - 2) = vs := by simp
    have e2 : (v0 :: vs).toArray.toList.take 1 ++ [Value.ref h'.objs.size] ++ ((v0 :: vs).toArray.toList.drop 1).drop ((v0 :: vs).toArray.size + 1 - 2) = [v0, .ref h'.objs.size] := by simp
    rw [e1, e2]
    exact h.run pins _ σ _ [x, .ref h'.objs.size] _ Q K1 (.cons r0 (.cons rfl .nil)) (go _ (J.hok.fresh (Nat.le_refl _)))
end
end Rp

set_option maxHeartbeats 8000000
/-! NAMEs and ATOMs. -/
namespace Rp
open PySem PySem.Spec PyProof.Rows L2 TL
def letters : Str := "abcdefghijklmnopqrstuvwxyz"
structure NameOk (x : Str) : Prop where
  pos : 1 ≤ x.length
  few : x.length ≤ 6
  low : ∀ c ∈ tl x, 97 ≤ c ∧ c ≤ 122
  nif : x ≠ "if"
theorem in_letters {c : Nat} (h : 97 ≤ c ∧ c ≤ 122) : c ∈ letters.cps.toList := by
  have all : ∀ k : Fin 26, k.val + 97 ∈ letters.cps.toList := by decide +kernel
  have := all ⟨c - 97, by omega⟩
  rwa [show c - 97 + 97 = c by omega] at this
structure At where
  nm : Str
  ts : List Tm
structure AtOk (z : Nat) (a : At) : Prop where
  nm : NameOk a.nm
  one : 1 ≤ a.ts.length
  two : a.ts.length ≤ 2
  sm : ∀ t ∈ a.ts, t.small ∧ t.size ≤ z
def AtAt (H : Hp) (v : V) (a : At) : Prop := ∃ (p : Addr) (xs : List V), v = .ref p ∧ H p = some (.tup (.str a.nm :: xs)) ∧ AllAt H xs a.ts
def spIsName : Sp := fun vs H Q _ => ∃ x : Str, vs = [.str x] ∧ NameOk x ∧ ∀ H', Same H H' → Q (.bl true) H'
def spIsAtom : Sp := fun vs H Q _ => ∃ (v : V) (a : At), vs = [v] ∧ AtAt H v a ∧ AtOk 50 a ∧ ∀ H', Same H H' → Q (.bl true) H'
section
variable {P : Program} {w : World} {K : PySem.W.Frag} {mg : Str → Option Value} {base : Heap}
theorem scIsName : FnScope ["thing", "sign"] ["thing"] (defScope sIsName) := ⟨rfl, rfl, rfl, by decide +kernel, rfl, by decide +kernel, by decide +kernel⟩
theorem ok_isname {f : Addr} {fd : FuncData} {t1 t2 : Tok} (F : Fun K "is_name" "is_name" sIsName f fd) (M : SameG mg) (mL : mg "LETTERS" = some (.str letters t1)) (mM : mg "MOST_LETTERS" = some (.int 6 t2)) : FnOk P w K mg base CX0 1 f fd ["thing"] spIsName := by
  refine F.ok scIsName (fun vs H Q E h => ?_) (fun cdv A outer s H vs Q E hr h => ?_)
  · obtain ⟨x, rfl, _⟩ := h
    rfl
  obtain ⟨x, rfl, ok, q⟩ := h
  refine ⟨_, pss_cons (ps_if (PW.pt (pw_or (pt_not (pt_val (pe_callB (id := "isinstance") call_isi (by rfl) M.isi (by decide +kernel) (pa_cons (pv 0) (pa_cons (pe_bltn (v := .ty "str") (by rfl) M.str (by decide +kernel) rfl) pa_nil)))))
      (pw_or1 (pt_not (pt_chain op_le op_le pe_int (pe_callB call_len_str (by rfl) M.len PySem.boot_len (pa_cons (pv 0) pa_nil)) (pe_glob (v := .int 6) rfl mM ⟨_, rfl⟩)))))) (pss_one (ps_ret pe_bl)) pss_nil)
    (pss_one (ps_ret (pe_and (pe_cmpR op_ne (pv 0) pe_str (nomark _)) (pe_one (pe_callB (cr_all rfl) (by rfl) M.all (by decide +kernel) (pa_cons (pe_lc (own := [("sign", 1)]) (g := gName 1) (tt := tYes) (te := tOp rInS (tVar 1) (tC (.str letters))) rfl scIsName.nd
        (pi_str (pv 0)) (blkOk_by (N := ["thing", "sign"]) (sc := defScope sIsName) (by decide +kernel)) (fun _ _ _ _ _ => pg_name (i := 1) scIsName.nd rfl (Or.inl rfl))
        (fun _ _ _ _ _ => pts_nil) (fun _ _ _ _ _ => pe_cmpR op_inS (pv 1) (pe_glob (v := .str letters) (by rfl) mL ⟨_, rfl⟩) (by rfl))) pa_nil)))))), ?_⟩
  have big : (10000 : Nat) ≤ sizeLine := by decide
  have h1 := ok.pos
  have h2 := ok.few
  refine ⟨_, rfl, _, _, _, _, true, rfl, .ty "str", .base (.str x), kit_ty (by decide +kernel), true, rfl, iteF ?_⟩
  refine ⟨_, rfl, x, rfl, by omega, _, _, rfl, rfl, decide ((1 : Int) ≤ (x.length : Nat)), rfl, ?_⟩
  rw [decide_eq_true (by omega)]
  refine iteT ⟨_, _, rfl, rfl, true, congrArg V.bl (decide_eq_true (by omega)), iteF ?_⟩
  refine ⟨_, rfl, rfl, true, congrArg (fun z => V.bl (!z)) (str_ne ok.nif), iteT ?_⟩
  refine ⟨_, rfl, x, rfl, fun D hD => lc_it (walk_str (z := x)) (fun i H2 => H2 D = some (.lst (List.replicate i (V.bl true))) ∧ Same H H2) ⟨upd_same, same_new hD _⟩ (fun _ _ _ _ => trivial) ?_ ?_⟩
  · rintro i y H2 H3 hi ⟨h2, s2⟩ ⟨rfl, c, hc, rfl⟩
    have cm : c ∈ tl x := Array.mem_toList_iff.mpr (Array.mem_of_getElem? hc)
    have cl := in_letters (ok.low c cm)
    have li : x.cps.size = x.length := rfl
    refine ⟨rfl, ?_⟩
    refine ⟨_, rfl, c, letters, rfl, rfl, _, h2, ?_, ?_, ?_⟩
    · rw [List.length_replicate]; omega
    · rw [decide_eq_true cl, upd_same, List.replicate_succ']
    · intro a o z
      rw [upd_ne (ne_of_none z hD)]
      exact s2 _ _ z
  · rintro H2 ⟨h2, s2⟩
    have e : (List.replicate x.cps.size true).all id = true := by rw [List.all_eq_true]; intro y hy; rw [List.eq_of_mem_replicate hy]; rfl
    refine ⟨D, List.replicate x.cps.size true, rfl, .inl (.inl (by rw [List.map_replicate]; exact h2)), ?_⟩
    rw [e]
    exact q H2 s2
theorem scIsAtom : FnScope ["thing", "term"] ["thing"] (defScope sIsAtom) := ⟨rfl, rfl, rfl, by decide +kernel, rfl, by decide +kernel, by decide +kernel⟩
theorem ok_isatom {f fN fT : Addr} {fd dN dT : FuncData} (F : Fun K "is_atom" "is_atom" sIsAtom f fd)
    (GN : FnOk P w K mg base CX0 1 fN dN ["thing"] spIsName) (kN : PySem.W.keepIn K (.ref fN) = true) (bN : Binds K dN ["thing"] []) (mN : mg "is_name" = some (.ref fN))
    (GT : FnOk P w K mg base CX0 3 fT dT ["thing"] spTerm) (kT : PySem.W.keepIn K (.ref fT) = true) (bT : Binds K dT ["thing"] []) (mT : mg "is_term" = some (.ref fT)) (M : SameG mg) : FnOk P w K mg base CX0 4 f fd ["thing"] spIsAtom := by
  refine F.ok scIsAtom (fun vs H Q E h => ?_) (fun cdv A outer s H vs Q E hr h => ?_)
  · obtain ⟨v, a, rfl, _⟩ := h
    rfl
  obtain ⟨v, a, rfl, ⟨p, xs, rfl, hp, A1⟩, ok, q⟩ := h
  have r1 : Room 1 _ := hr.mono (by decide)
  refine ⟨_, pss_cons (ps_if (PW.pt (pw_or (pt_not (pt_val (pe_callB (id := "isinstance") call_isi (by rfl) M.isi (by decide +kernel) (pa_cons (pv 0) (pa_cons (pe_bltn (v := .ty "tuple") (by rfl) M.tuple (by decide +kernel) rfl) pa_nil)))))
      (pw_or1 (pt_not (pt_chain op_le op_le pe_int (pe_callB call_len_seq (by rfl) M.len PySem.boot_len (pa_cons (pv 0) pa_nil)) pe_int))))) (pss_one (ps_ret pe_bl)) pss_nil)
    (pss_one (ps_ret (pe_and (pe_call GN r1 rfl mN kN bN .nil pass0 (pa_cons (pe_ix ix_tup (pv 0) pe_int (fun _ _ => rfl)) pa_nil)) (pe_one (pe_callB (cr_all rfl) (by rfl) M.all (by decide +kernel) (pa_cons (pe_lc (own := [("term", 1)]) (g := gName 1) (tt := tYes) (te := tCall spTerm [] E0 (tCons (tVar 1) tNil)) rfl scIsAtom.nd
        (pi_tup (pe_slice sl_tup (pv 0) (po_some pe_int) po_none)) (blkOk_by (N := ["thing", "term"]) (sc := defScope sIsAtom) (by decide +kernel)) (fun _ _ _ _ _ => pg_name (i := 1) scIsAtom.nd rfl (Or.inl rfl))
        (fun _ _ _ _ _ => pts_nil) (fun _ _ _ _ _ => pe_call GT hr (by rfl) mT kT bT .nil pass0 (pa_cons (pv 1) pa_nil))) pa_nil)))))), ?_⟩
  have big : (10000 : Nat) ≤ sizeLine := by decide
  have xl := A1.len
  have o1 := ok.one
  have o2 := ok.two
  refine ⟨_, rfl, _, _, _, _, true, rfl, .ty "tuple", .base (.tup hp), kit_ty (by decide +kernel), true, rfl, iteF ?_⟩
  have l2 : (((V.str a.nm :: xs).length : Nat) : Int) = (xs.length : Nat) + 1 := by rw [List.length_cons]; omega
  refine ⟨_, rfl, p, _, rfl, .inr (.inl (.inl hp)), _, _, rfl, rfl, true, congrArg V.bl (decide_eq_true (by omega)), iteT ⟨_, _, rfl, rfl, true, congrArg V.bl (decide_eq_true (by omega)), iteF ?_⟩⟩
  refine ⟨_, rfl, p, _, _, _, rfl, rfl, .inl (.inl hp), at_of (j := 0) rfl rfl, a.nm, rfl, ok.nm, fun H1 s1 => ⟨true, rfl, iteT ?_⟩⟩
  refine ⟨_, rfl, 1, rfl, p, _, rfl, .inl (.inl (s1 _ _ hp)), cut_part _ _, fun g hg => ?_⟩
  rw [cut_tail]
  have s2 := same_new hg (.tup xs)
  refine ⟨g, rfl, ⟨_, .inl (.inl upd_same)⟩, fun D hD => lc_tup (K := K) (a := g) (xs := xs) (fun i H2 => H2 D = some (.lst (List.replicate i (V.bl true))) ∧ Same (upd H1 g (.tup xs)) H2) ⟨upd_same, same_new hD _⟩ (fun i H2 _ h => .inl (.inl (h.2 _ _ upd_same))) ?_ ?_⟩
  · rintro i x H2 hi ⟨h2, s3⟩
    obtain ⟨t, ht, T⟩ := A1.get hi
    obtain ⟨sm, sz⟩ := ok.sm t (List.mem_of_getElem? ht)
    have li : i < xs.length := (List.getElem?_eq_some_iff.mp hi).1
    have d1 := Tm.deep_lt t
    have T2 := ((T.same s1).same s2).same s3
    obtain ⟨c1, c2, c3⟩ : (tmD t).canLay0 = true ∧ (tmD t).depth ≤ t.deep + 1 ∧ nd (tmD t) ≤ 2 * t.size := tm_ok t
    refine ⟨rfl, ?_⟩
    refine ⟨_, rfl, g, x, tmD t, rfl, T2.dat, ⟨c1, by omega⟩, by omega, fun r H3 hr3 s4 => ?_⟩
    obtain rfl : r = true := hr3.mpr ⟨t, rfl, sm⟩
    refine ⟨_, s4 _ _ h2, ?_, ?_, ?_⟩
    · rw [List.length_replicate]; omega
    · rw [upd_same, List.replicate_succ']
    · intro c o z
      rw [upd_ne (ne_of_none z hD)]
      exact s4 _ _ (s3 _ _ z)
  · rintro H2 ⟨h2, s3⟩
    have e : (List.replicate xs.length true).all id = true := by rw [List.all_eq_true]; intro y hy; rw [List.eq_of_mem_replicate hy]; rfl
    refine ⟨D, List.replicate xs.length true, rfl, .inl (.inl (by rw [List.map_replicate]; exact h2)), ?_⟩
    rw [e]
    exact q H2 (s1.trans (s2.trans s3))
end
end Rp

set_option maxHeartbeats 8000000
namespace Rp
open PySem PySem.Spec PyProof.Rows L2 TL StX
theorem pgs_star {X : Cx} {e : Expr} {es : List Expr} {p : Pos} {t : TG} {u : TGs} (h1 : PG X e t) (h2 : PGs X es u) (hs : (assignEach (.Starred e p :: es) X.env).map (·.2) = assign e X.env :: (assignEach es X.env).map (·.2) := by rfl) : PGs X (.Starred e p :: es) (gCons t u) := by
  refine ⟨fun pins s σ H vs us Q I rel told => ?_⟩
  obtain ⟨v, rest, rfl, told⟩ := told
  cases rel with
  | cons r rr =>
    rw [hs]
    exact assignInOrder_cons (thn (h1.run pins s σ H _ _ _ I r told) fun _ s1 ⟨σ1, H1, J, go⟩ => h2.run pins s1 σ1 H1 _ _ Q J rr go)
theorem txt_low : ∀ (t : Tm), t.small → ∀ d ∈ tl t.txt, 40 ≤ d ∧ d ≤ 120
  | .v n, h, d, hd => by
    have hd : d ∈ tl (("x" : Str) ++ Str.ofString (toString n)) := hd
    rw [tl_append, t_x, tl_int (h n (by simp [Tm.nums])).1] at hd
    rcases List.mem_append.mp hd with hd | hd
    · simp at hd; omega
    · have := numL_small _ d hd; omega
  | .z, h, d, hd => by
    have hd : d ∈ tl ("0" : Str) := hd
    rw [t_0] at hd; simp at hd; omega
  | .s t, h, d, hd => by
    have hd : d ∈ tl (("s" : Str) ++ "(" ++ Txt.join "," [t.txt] ++ ")") := hd
    rw [join1, tl_append, tl_append, tl_append, t_s, t_open, t_close] at hd
    simp only [List.mem_append, List.mem_singleton] at hd
    rcases hd with ((hd | hd) | hd) | hd
    · omega
    · omega
    · exact txt_low t h d hd
    · omega
  | .f l r, h, d, hd => by
    have hd : d ∈ tl (("f" : Str) ++ "(" ++ Txt.join "," [l.txt, r.txt] ++ ")") := hd
    rw [join2, tl_append, tl_append, tl_append, tl_append, tl_append, t_f, t_open, t_close, t_comma] at hd
    simp only [List.mem_append, List.mem_singleton] at hd
    rcases hd with ((hd | hd) | (hd | hd) | hd) | hd
    · omega
    · omega
    · exact txt_low l (fun n hn => h n (by simp [Tm.nums, hn])) d hd
    · omega
    · exact txt_low r (fun n hn => h n (by simp [Tm.nums, hn])) d hd
    · omega
def parts (a : At) : List Str := a.nm :: a.ts.map Tm.txt
def atxt (a : At) : Str := Txt.join " " (parts a)
theorem parts_free {z : Nat} {a : At} (ok : AtOk z a) : ∀ p ∈ parts a, 32 ∉ tl p := by
  intro p hp hd
  rcases List.mem_cons.mp hp with rfl | hp
  · have := ok.nm.low _ hd; omega
  · obtain ⟨t, ht, rfl⟩ := List.mem_map.mp hp
    have := txt_low t (ok.sm t ht).1 _ hd
    omega
theorem atxt_split {z : Nat} {a : At} (ok : AtOk z a) : Txt.split (atxt a) " " = parts a := split_join t_sp (by decide +kernel) (by simp [parts]) (parts_free ok)
theorem parts_sum {a : At} (ok : AtOk 50 a) : ((parts a).map (·.length)).sum + (parts a).length * 1 ≤ 500 := by
  have h1 := ok.nm.few
  have each : ∀ t ∈ a.ts, t.txt.length ≤ 200 := fun t ht => by
    have := txt_len t (ok.sm t ht).1
    have := (ok.sm t ht).2
    omega
  have o1 := ok.one
  have o2 := ok.two
  unfold parts
  match hts : a.ts with
  | [] => rw [hts] at o1; simp at o1
  | [t] => have := each t (by rw [hts]; simp); simp; omega
  | [t, u] => have := each t (by rw [hts]; simp); have := each u (by rw [hts]; simp); simp; omega
  | t :: u :: v :: r => rw [hts] at o2; simp at o2
theorem atxt_len {a : At} (ok : AtOk 50 a) : (atxt a).length ≤ 500 := by
  have jl := StrLaws.join_length_le " " (parts a)
  have l1 : (" " : Str).length = 1 := by decide +kernel
  rw [l1] at jl
  have := parts_sum ok
  unfold atxt
  rw [join_eq]
  omega
def spAtomText : Sp := fun vs H Q _ => ∃ (v : V) (a : At), vs = [v] ∧ AtAt H v a ∧ AtOk 50 a ∧ ∀ H', Same H H' → Q (.str (atxt a)) H'
def spAtomOr : Sp := fun vs H Q _ => ∃ a : At, vs = [.str (atxt a)] ∧ AtOk 50 a ∧ ∀ (v : V) (H' : Hp), AtAt H' v a → Same H H' → Q v H'
section
variable {P : Program} {w : World} {K : PySem.W.Frag} {mg : Str → Option Value} {base : Heap}
theorem scAtomText : FnScope ["atom", "term"] ["atom"] (defScope sAtomText) := ⟨rfl, rfl, rfl, by decide +kernel, rfl, by decide +kernel, by decide +kernel⟩
theorem ok_atomtext {f fT : Addr} {fd dT : FuncData} (F : Fun K "atom_text" "atom_text" sAtomText f fd)
    (GT : FnOk P w K mg base CX0 4 fT dT ["term"] spTermText) (kT : PySem.W.keepIn K (.ref fT) = true) (bT : Binds K dT ["term"] []) (mT : mg "term_text" = some (.ref fT)) : FnOk P w K mg base CX0 5 f fd ["atom"] spAtomText := by
  refine F.ok scAtomText (fun vs H Q E h => ?_) (fun cdv A outer s H vs Q E hr h => ?_)
  · obtain ⟨v, a, rfl, _⟩ := h
    rfl
  obtain ⟨v, a, rfl, ⟨p, xs, rfl, hp, A1⟩, ok, q⟩ := h
  refine ⟨_, pss_one (ps_ret (pe_bm PySem.F.plainAttrs_str PySem.F.slot_str_join PySem.F.type_str_join mt_join pe_str (pa_cons (pe_lst (pa_cons (pe_ix ix_tup (pv 0) pe_int (fun _ _ => rfl)) (pa_star
      (pe_lc (own := [("term", 1)]) (g := gName 1) (tt := tYes) (te := tCall spTermText [] E0 (tCons (tVar 1) tNil)) rfl scAtomText.nd (pi_tup (pe_slice sl_tup (pv 0) (po_some pe_int) po_none)) (blkOk_by (N := ["atom", "term"]) (sc := defScope sAtomText) (by decide +kernel)) (fun _ _ _ _ _ => pg_name (i := 1) scAtomText.nd rfl (Or.inl rfl))
        (fun _ _ _ _ _ => pts_nil) (fun _ _ _ _ _ => pe_call GT hr (by rfl) mT kT bT .nil pass0 (pa_cons (pv 1) pa_nil))) pa_nil))) pa_nil))), ?_⟩
  have big : (10000 : Nat) ≤ sizeLine := by decide
  have xl := A1.len
  have o2 := ok.two
  refine ⟨rfl, _, rfl, p, _, _, _, rfl, rfl, .inl (.inl hp), at_of (j := 0) rfl rfl, _, rfl, 1, rfl, p, _, rfl, .inl (.inl hp), cut_part _ _, fun g hg => ?_⟩
  rw [cut_tail]
  have s2 := same_new hg (.tup xs)
  refine ⟨g, rfl, ⟨_, .inl (.inl upd_same)⟩, fun D hD => lc_tup (K := K) (a := g) (xs := xs) (fun i H2 => H2 D = some (.lst (((a.ts.take i).map Tm.txt).map V.str)) ∧ Same (upd H g (.tup xs)) H2) ⟨upd_same, same_new hD _⟩ (fun i H2 _ h => .inl (.inl (h.2 _ _ upd_same))) ?_ ?_⟩
  · rintro i x H2 hi ⟨h2, s3⟩
    obtain ⟨t, ht, T⟩ := A1.get hi
    obtain ⟨sm, sz⟩ := ok.sm t (List.mem_of_getElem? ht)
    refine ⟨rfl, ?_⟩
    refine ⟨_, rfl, x, t, rfl, (T.same s2).same s3, sm, by omega, fun H3 s4 => ⟨_, s4 _ _ h2, ?_, ?_, ?_⟩⟩
    · rw [List.length_map, List.length_map, List.length_take]; omega
    · have tk : a.ts.take (i + 1) = a.ts.take i ++ [t] := by rw [List.take_add_one, ht]; rfl
      rw [upd_same, tk, List.map_append, List.map_append]; rfl
    · intro c o z
      rw [upd_ne (ne_of_none z hD)]
      exact s4 _ _ (s3 _ _ z)
  · rintro H2 ⟨h2, s3⟩
    rw [xl, List.take_of_length_le (Nat.le_refl _)] at h2
    refine ⟨D, _, rfl, .inr (.inl (.inl h2)), ?_⟩
    have ps := parts_sum ok
    have l1 : (" " : Str).length = 1 := by decide +kernel
    have e : [V.str a.nm] ++ ((a.ts.map Tm.txt).map V.str ++ []) = (parts a).map V.str := by simp [parts]
    refine ⟨?_, fun l hl => ?_⟩
    · simp; omega
    · have s4 := same_new hl (.lst ((parts a).map V.str))
      refine ⟨" ", l, parts a, rfl, rfl, .inl (.inl (.inl ?_)), by rw [l1]; omega, ?_⟩
      · rw [upd_same]; simp [parts]
      · exact q _ (s2.trans (Same.trans (H1 := H2) s3 (same_new hl _)))
end
end Rp

set_option maxHeartbeats 8000000
namespace Rp
open PySem PySem.Spec PyProof.Rows L2 TL StX
section
variable {P : Program} {w : World} {K : PySem.W.Frag} {mg : Str → Option Value} {base : Heap}
theorem scAtomOr : FnScope ["text", "name", "terms", "atom", "term"] ["text"] (defScope sAtomOr) := ⟨rfl, rfl, rfl, by decide +kernel, rfl, by decide +kernel, by decide +kernel⟩
theorem ok_atomor {f fT fI : Addr} {fd dT dI : FuncData} (F : Fun K "atom_or_none" "atom_or_none" sAtomOr f fd)
    (GT : FnOk P w K mg base CX0 5 fT dT ["text"] spTermOr) (kT : PySem.W.keepIn K (.ref fT) = true) (bT : Binds K dT ["text"] []) (mT : mg "term_or_none" = some (.ref fT))
    (GI : FnOk P w K mg base CX0 4 fI dI ["thing"] spIsAtom) (kI : PySem.W.keepIn K (.ref fI) = true) (bI : Binds K dI ["thing"] []) (mI : mg "is_atom" = some (.ref fI)) : FnOk P w K mg base CX0 6 f fd ["text"] spAtomOr := by
  refine F.ok scAtomOr (fun vs H Q E h => ?_) (fun cdv A outer s H vs Q E hr h => ?_)
  · obtain ⟨a, rfl, _⟩ := h
    rfl
  obtain ⟨a, rfl, ok, q⟩ := h
  have r4 : Room 4 _ := hr.mono (by decide)
  refine ⟨_, pss_cons (ps_asg (pe_split (pv 0) pe_str) (pg_star rfl (pgs_cons (pg_name (i := 1) scAtomOr.nd rfl (Or.inl rfl)) (pgs_star (pg_name (i := 2) scAtomOr.nd rfl (Or.inl rfl)) pgs_nil))))
    (pss_cons (ps_set (i := 3) scAtomOr.nd rfl (Or.inl rfl) (pe_tup (pa_cons (pv 1) (pa_star
      (pe_lc (own := [("term", 4)]) (g := gName 4) (tt := tYes) (te := tCall spTermOr [] E0 (tCons (tVar 4) tNil)) rfl scAtomOr.nd (pi_list (pv 2)) (blkOk_by (N := ["text", "name", "terms", "atom", "term"]) (sc := defScope sAtomOr) (by decide +kernel)) (fun _ _ _ _ _ => pg_name (i := 4) scAtomOr.nd rfl (Or.inl rfl))
        (fun _ _ _ _ _ => pts_nil) (fun _ _ _ _ _ => pe_call GT hr (by rfl) mT kT bT .nil pass0 (pa_cons (pv 4) pa_nil))) pa_nil))))
    (pss_one (ps_ret (pe_ifExp (pt_val (pe_call GI r4 rfl mI kI bI .nil pass0 (pa_cons (pv 3) pa_nil))) (pv 3) pe_non)))), ?_⟩
  have big : (10000 : Nat) ≤ sizeLine := by decide
  have al := atxt_len ok
  have o2 := ok.two
  refine ⟨_, rfl, ⟨_, rfl⟩, atxt a, " ", rfl, rfl, by decide +kernel, by omega, fun l hl => ?_⟩
  rw [atxt_split ok]
  have s1 := same_new hl (.lst ((parts a).map V.str))
  refine ⟨l, .str a.nm, (a.ts.map Tm.txt).map V.str, rfl, .inl (.inl upd_same), by simp; omega, fun p hp => ?_⟩
  have s2 := same_new hp (.lst ((a.ts.map Tm.txt).map V.str))
  refine ⟨_, _, rfl, _, _, rfl, rfl, ?_⟩
  have hp2 : (upd (upd H l (.lst ((parts a).map V.str))) p (.lst ((a.ts.map Tm.txt).map V.str))) p = some (.lst ((a.ts.map Tm.txt).map V.str)) := upd_same
  refine ⟨_, rfl, _, rfl, p, rfl, ⟨_, .inl (.inl hp2)⟩, fun D hD => lc_list (K := K) (a := p) (xs := (a.ts.map Tm.txt).map V.str) (fun i H2 => ∃ xs : List V, H2 D = some (.lst xs) ∧ AllAt H2 xs (a.ts.take i) ∧ Same (upd (upd H l (.lst ((parts a).map V.str))) p (.lst ((a.ts.map Tm.txt).map V.str))) H2)
    ⟨[], upd_same, trivial, same_new hD _⟩ (fun i H2 _ ⟨_, _, _, h⟩ => .inl (.inl (h _ _ hp2))) ?_ ?_⟩
  · rintro i x H2 hi ⟨xs, h2, A2, s3⟩
    rw [List.map_map, List.getElem?_map] at hi
    obtain ⟨t, ht, rfl⟩ : ∃ t, a.ts[i]? = some t ∧ x = .str t.txt := by
      cases hq : a.ts[i]? with
      | none => rw [hq] at hi; cases hi
      | some t => rw [hq] at hi; exact ⟨t, rfl, by simpa using hi.symm⟩
    obtain ⟨sm, sz⟩ := ok.sm t (List.mem_of_getElem? ht)
    have xl := A2.len
    rw [List.length_take] at xl
    refine ⟨rfl, ?_⟩
    refine ⟨_, rfl, t, rfl, sm, by omega, fun v H3 T s4 => ?_⟩
    have h3 := s4 _ _ h2
    have keep : ∀ b zs, H3 b = some (.tup zs) → (upd H3 D (.lst (xs ++ [v]))) b = some (.tup zs) := fun b zs z => by rw [upd_ne (ne_of z h3 (by intro e; cases e))]; exact z
    have tk : a.ts.take (i + 1) = a.ts.take i ++ [t] := by rw [List.take_add_one, ht]; rfl
    refine ⟨xs, h3, by omega, xs ++ [v], upd_same, ?_, ?_⟩
    · rw [tk]
      exact (A2.mono fun b zs z => keep b zs (s4 _ _ z)).append ⟨T.mono keep, trivial⟩
    · intro c o z
      rw [upd_ne (ne_of_none z hD)]
      exact s4 _ _ (s3 _ _ z)
  · rintro H2 ⟨xs, h2, A2, s3⟩
    rw [List.length_map, List.length_map, List.take_of_length_le (Nat.le_refl _)] at A2
    have xl := A2.len
    refine ⟨D, xs, rfl, .inr (.inl (.inl h2)), ?_⟩
    refine ⟨by simp; omega, fun g hg => ?_⟩
    have e0 : V.str a.nm :: (xs ++ []) = V.str a.nm :: xs := by simp
    rw [e0]
    have s4 := same_new hg (.tup (V.str a.nm :: xs))
    have T4 : AtAt (upd H2 g (.tup (V.str a.nm :: xs))) (.ref g) a := ⟨g, xs, rfl, upd_same, A2.mono fun b zs z => s4 _ _ z⟩
    have sA : Same H _ := s1.trans (s2.trans (s3.trans s4))
    refine ⟨_, rfl, _, a, rfl, T4, ok, fun H5 s5 => ⟨true, rfl, iteT ⟨_, rfl, q _ H5 ?_ (sA.trans s5)⟩⟩⟩
    obtain ⟨g', xs', e1, e2, e3⟩ := T4
    exact ⟨g', xs', e1, s5 _ _ e2, e3.mono fun b zs z => s5 _ _ z⟩
end
end Rp

set_option maxHeartbeats 8000000
namespace Rp
open PySem PySem.Spec PyProof.Rows L2 TL StX
theorem atAt_same {H H' : Hp} {v : V} {a : At} (h : AtAt H v a) (s : Same H H') : AtAt H' v a := by
  obtain ⟨p, xs, e, h1, h2⟩ := h
  exact ⟨p, xs, e, s _ _ h1, h2.mono fun b zs z => s _ _ z⟩
theorem walk_tup {K : PySem.W.Frag} {a : Addr} {xs : List V} {B : V → Hp → (Hp → Prop) → Prop} {H1 : Hp} {Done : Hp → Prop} (Pv : Nat → Hp → Prop) (h0 : Pv 0 H1) (hl : ∀ i H, i ≤ xs.length → Pv i H → SqT K H a xs)
    (hs : ∀ i x H, xs[i]? = some x → Pv i H → B x H (Pv (i + 1))) (hd : ∀ H, Pv xs.length H → Done H) :
    ∃ W : Nat → Nat → Hp → Prop, (∃ m, W 0 m H1) ∧ ∀ i m H, W i m H →
      ((Itt K a).stop i H ∧ Done H) ∨ ((Itt K a).go i H ∧ ∃ Nx : Hp → Prop, (∀ H', Nx H' → ∃ m', m' < m ∧ W (i + 1) m' H') ∧ ∀ x H', (Itt K a).yld i H x H' → B x H' Nx) := by
  refine ⟨fun i m H => m = xs.length - i ∧ i ≤ xs.length ∧ Pv i H, ⟨xs.length, by simp, Nat.zero_le _, h0⟩, ?_⟩
  rintro i m H ⟨rfl, hi, p⟩
  have q := hl i H hi p
  by_cases hlt : i < xs.length
  · refine .inr ⟨⟨xs, xs[i], q, by simp [hlt]⟩, Pv (i + 1), fun H' p' => ⟨xs.length - (i + 1), by omega, rfl, hlt, p'⟩, fun x H' y => ?_⟩
    obtain ⟨e, y⟩ := y
    subst e
    exact hs i x _ (y xs q) p
  · have e : i = xs.length := by omega
    subst e
    exact .inl ⟨⟨xs, q, Nat.le_refl _⟩, hd H p⟩
def AtsAt (H : Hp) : List V → List At → Prop
  | [], [] => True
  | v :: xs, a :: as => AtAt H v a ∧ AtsAt H xs as
  | _, _ => False
theorem AtsAt.len {H : Hp} : ∀ {xs : List V} {as : List At}, AtsAt H xs as → xs.length = as.length
  | [], [], _ => rfl
  | _ :: _, _ :: _, h => congrArg (· + 1) (AtsAt.len h.2)
theorem AtsAt.same {H H' : Hp} (s : Same H H') : ∀ {xs : List V} {as : List At}, AtsAt H xs as → AtsAt H' xs as
  | [], [], _ => trivial
  | _ :: _, _ :: _, h => ⟨atAt_same h.1 s, AtsAt.same s h.2⟩
theorem AtsAt.get {H : Hp} : ∀ {xs : List V} {as : List At} {i : Nat} {x : V}, AtsAt H xs as → xs[i]? = some x → ∃ a, as[i]? = some a ∧ AtAt H x a
  | v :: xs, a :: as, 0, x, h, e => ⟨a, rfl, by have : v = x := by simpa using e
                                                subst this; exact h.1⟩
  | _ :: xs, _ :: as, i + 1, x, h, e => by simpa using AtsAt.get h.2 (by simpa using e)
theorem AtsAt.append {H : Hp} : ∀ {xs ys : List V} {as bs : List At}, AtsAt H xs as → AtsAt H ys bs → AtsAt H (xs ++ ys) (as ++ bs)
  | [], _, [], _, _, h => h
  | _ :: xs, _, _ :: as, _, h, h' => ⟨h.1, AtsAt.append h.2 h'⟩
def btxt (as : List At) : Str := Txt.join ", " (as.map atxt)
structure AtsOk (as : List At) : Prop where
  few : as.length ≤ 6
  ok : ∀ a ∈ as, AtOk 50 a
def spAtomsText : Sp := fun vs H Q _ => ∃ (q : Addr) (xs : List V) (as : List At), vs = [.ref q] ∧ H q = some (.tup xs) ∧ AtsAt H xs as ∧ AtsOk as ∧ ∀ H', Same H H' → Q (.str (btxt as)) H'
theorem btxt_sum {as : List At} (ok : AtsOk as) : ((as.map atxt).map (·.length)).sum ≤ 500 * as.length := by
  have each : ∀ l : List At, (∀ a ∈ l, AtOk 50 a) → ((l.map atxt).map (·.length)).sum ≤ 500 * l.length := by
    intro l
    induction l with
    | nil => intro _; simp
    | cons a l ih =>
      intro h
      have h1 := atxt_len (h a (by simp))
      have h2 := ih fun b hb => h b (by simp [hb])
      simp only [List.map_cons, List.sum_cons, List.length_cons] at h2 ⊢
      omega
  exact each as ok.ok
theorem btxt_len {as : List At} (ok : AtsOk as) : (btxt as).length ≤ 3012 := by
  unfold btxt
  have jl := StrLaws.join_length_le ", " (as.map atxt)
  have l1 : (", " : Str).length = 2 := by decide +kernel
  rw [l1, List.length_map] at jl
  have h1 := btxt_sum ok
  have h2 := ok.few
  rw [join_eq]
  omega
section
variable {P : Program} {w : World} {K : PySem.W.Frag} {mg : Str → Option Value} {base : Heap}
theorem scAtomsText : FnScope ["atoms", "atom"] ["atoms"] (defScope sAtomsText) := ⟨rfl, rfl, rfl, by decide +kernel, rfl, by decide +kernel, by decide +kernel⟩
theorem ok_atomstext {f fA : Addr} {fd dA : FuncData} (F : Fun K "atoms_text" "atoms_text" sAtomsText f fd)
    (GA : FnOk P w K mg base CX0 5 fA dA ["atom"] spAtomText) (kA : PySem.W.keepIn K (.ref fA) = true) (bA : Binds K dA ["atom"] []) (mA : mg "atom_text" = some (.ref fA)) : FnOk P w K mg base CX0 6 f fd ["atoms"] spAtomsText := by
  refine F.ok scAtomsText (fun vs H Q E h => ?_) (fun cdv A outer s H vs Q E hr h => ?_)
  · obtain ⟨q, xs, as, rfl, _⟩ := h
    rfl
  obtain ⟨q, xs, as, rfl, hq, A2, ok, fin⟩ := h
  refine ⟨_, pss_one (ps_ret (pe_bm PySem.F.plainAttrs_str PySem.F.slot_str_join PySem.F.type_str_join mt_join pe_str (pa_cons
      (pe_lc (own := [("atom", 1)]) (g := gName 1) (tt := tYes) (te := tCall spAtomText [] E0 (tCons (tVar 1) tNil)) rfl scAtomsText.nd (pi_tup (pv 0)) (blkOk_by (N := ["atoms", "atom"]) (sc := defScope sAtomsText) (by decide +kernel)) (fun _ _ _ _ _ => pg_name (i := 1) scAtomsText.nd rfl (Or.inl rfl))
        (fun _ _ _ _ _ => pts_nil) (fun _ _ _ _ _ => pe_call GA hr (by rfl) mA kA bA .nil pass0 (pa_cons (pv 1) pa_nil))) pa_nil))), ?_⟩
  have big : (10000 : Nat) ≤ sizeLine := by decide
  have xl := A2.len
  have o3 := ok.few
  refine ⟨rfl, _, rfl, q, rfl, ⟨_, .inl (.inl hq)⟩, fun D hD => lc_tup (K := K) (a := q) (xs := xs) (fun i H2 => H2 D = some (.lst (((as.take i).map atxt).map V.str)) ∧ Same H H2) ⟨upd_same, same_new hD _⟩ (fun i H2 _ h => .inl (.inl (h.2 _ _ hq))) ?_ ?_⟩
  · rintro i x H2 hi ⟨h2, s3⟩
    obtain ⟨a, ha, T⟩ := A2.get hi
    have li : i < as.length := (List.getElem?_eq_some_iff.mp ha).1
    refine ⟨rfl, ?_⟩
    refine ⟨_, rfl, x, a, rfl, atAt_same T s3, ok.ok a (List.mem_of_getElem? ha), fun H3 s4 => ⟨_, s4 _ _ h2, ?_, ?_, ?_⟩⟩
    · rw [List.length_map, List.length_map, List.length_take]; omega
    · have tk : as.take (i + 1) = as.take i ++ [a] := by rw [List.take_add_one, ha]; rfl
      rw [upd_same, tk, List.map_append, List.map_append]; rfl
    · intro c o z
      rw [upd_ne (ne_of_none z hD)]
      exact s4 _ _ (s3 _ _ z)
  · rintro H2 ⟨h2, s2⟩
    rw [show as.take xs.length = as from by rw [xl]; exact List.take_length] at h2
    have bs := btxt_sum ok
    have l2 : (", " : Str).length = 2 := by decide +kernel
    exact ⟨", ", D, as.map atxt, rfl, rfl, .inl (.inl (.inl h2)), by rw [l2, List.length_map]; omega, fin H2 s2⟩
end
end Rp

set_option maxHeartbeats 8000000
/-! Texts cut at a separator of more than one sign. -/
namespace Rp
open PySem PySem.Spec PyProof.Rows L2 TL StX
/-- each s has a sign behind it, and not n -/
def Fol (s n : Nat) : List Nat → Prop
  | [] => True
  | [c] => c ≠ s
  | c :: d :: r => (c = s → d ≠ n) ∧ Fol s n (d :: r)
theorem fol_free {s n : Nat} : ∀ {p : List Nat}, s ∉ p → Fol s n p
  | [], _ => trivial
  | [c], h => fun e => h (by simp [e])
  | c :: d :: r, h => ⟨fun e => absurd (by simp [e] : s ∈ c :: d :: r) h, fol_free fun z => h (List.mem_cons_of_mem _ z)⟩
theorem fol_append {s n : Nat} : ∀ {p q : List Nat}, Fol s n p → Fol s n q → Fol s n (p ++ q)
  | [], _, _, h => h
  | [c], [], h, _ => h
  | [c], d :: q, h, h' => ⟨fun e => absurd e h, h'⟩
  | c :: d :: r, q, h, h' => ⟨h.1, fol_append (p := d :: r) h.2 h'⟩
theorem fol_cons {s n c : Nat} {q : List Nat} (hc : c ≠ n) (h : Fol s n (c :: q)) : Fol s n (s :: c :: q) := ⟨fun _ => hc, h⟩
theorem fol_pre {s n : Nat} {S q : List Nat} : ∀ {p : List Nat}, Fol s n p → ∀ i, i < p.length → pre (s :: n :: S) ((p ++ q).drop i) = false
  | [c], h, 0, _ => pre_of_head _ _ h
  | c :: d :: r, h, 0, _ => by
    by_cases e : c = s
    · have hd := h.1 e
      subst e
      show (List.take (c :: n :: S).length (c :: d :: (r ++ q)) == c :: n :: S) = false
      rw [beq_eq_false_iff_ne]
      intro z
      rw [List.length_cons, List.length_cons, List.take_succ_cons, List.take_succ_cons] at z
      exact hd (by injection z with _ z; injection z)
    · exact pre_of_head _ _ e
  | c :: d :: r, h, i + 1, hi => by
    have := fol_pre (S := S) (q := q) h.2 i (by simpa using hi)
    simpa using this
  | [c], h, i + 1, hi => by simp at hi
theorem partition_fol {y : Str} {s n : Nat} {S : List Nat} (ey : tl y = s :: n :: S) {a b : Str} (h : Fol s n (tl a)) : Txt.partition (a ++ y ++ b) y = (a, y, b) := by
  rw [partition_par _ y (by rw [ey]; simp), tl_append, tl_append, List.append_assoc, ey, par_part (by simp) (fol_pre h)]
  show ((⟨([] ++ tl a).toArray⟩ : Str), y, (⟨(tl b).toArray⟩ : Str)) = _
  rw [List.nil_append, mk_tl, mk_tl]
theorem fol_pre0 {s n : Nat} {S : List Nat} {p : List Nat} (h : Fol s n p) : ∀ i, i < p.length → pre (s :: n :: S) (p.drop i) = false := fun i hi => by
  have := fol_pre (S := S) (q := []) h i hi
  rwa [List.append_nil] at this
theorem partition_nofol {y : Str} {s n : Nat} {S : List Nat} (ey : tl y = s :: n :: S) {a : Str} (h : Fol s n (tl a)) : Txt.partition a y = (a, Str.empty, Str.empty) := by
  rw [partition_par _ y (by rw [ey]; simp), ey, par_none (fol_pre0 h)]
theorem spl_fol {s n : Nat} {S : List Nat} : ∀ {parts : List (List Nat)}, parts ≠ [] → (∀ p ∈ parts, Fol s n p) → spl (s :: n :: S) 0 [] (joinL (s :: n :: S) parts) = parts
  | [], h, _ => absurd rfl h
  | [p], _, hp => by
    show spl (s :: n :: S) 0 [] p = [p]
    rw [spl_last (fol_pre0 (hp p (List.mem_singleton.mpr rfl))), List.nil_append]
  | p :: q :: r, _, hp => by
    show spl (s :: n :: S) 0 [] (p ++ (s :: n :: S ++ joinL (s :: n :: S) (q :: r))) = p :: q :: r
    rw [spl_part (by simp) (fol_pre (hp p (List.mem_cons_self ..))), List.nil_append, spl_fol (by simp) fun z hz => hp z (List.mem_cons_of_mem _ hz)]
theorem split_fol {y : Str} {s n : Nat} {S : List Nat} (ey : tl y = s :: n :: S) (hk : y.cps.all (· < 256) = true) {parts : List Str} (hne : parts ≠ []) (hp : ∀ p ∈ parts, Fol s n (tl p)) :
    Txt.split (Txt.join y parts) y = parts := by
  refine map_tl_inj ?_
  rw [split_spl _ y (by rw [ey]; simp) (kind_ok hk), join_eq, tl_join, ey]
  refine spl_fol (fun e => hne (List.map_eq_nil_iff.mp e)) fun p h => ?_
  obtain ⟨z, hz, rfl⟩ := List.mem_map.mp h
  exact hp z hz
/-! The texts of terms and atoms. -/
theorem txt_head : ∀ t : Tm, ∃ c q, tl t.txt = c :: q ∧ c ≠ 105 ∧ c ≠ 32
  | .v n => ⟨120, tl (Str.ofString (toString n)), by show tl (("x" : Str) ++ Str.ofString (toString n)) = _; rw [tl_append, t_x]; rfl, by decide, by decide⟩
  | .z => ⟨48, [], t_0, by decide, by decide⟩
  | .s t => ⟨115, tl ("(" ++ Txt.join "," [t.txt] ++ ")"), by show tl (("s" : Str) ++ "(" ++ Txt.join "," [t.txt] ++ ")") = _; simp only [tl_append, t_s]; rfl, by decide, by decide⟩
  | .f l r => ⟨102, tl ("(" ++ Txt.join "," [l.txt, r.txt] ++ ")"), by show tl (("f" : Str) ++ "(" ++ Txt.join "," [l.txt, r.txt] ++ ")") = _; simp only [tl_append, t_f]; rfl, by decide, by decide⟩
theorem txt_fol : ∀ (t : Tm), t.small → Fol 44 32 (tl t.txt)
  | .v n, h => by
    show Fol 44 32 (tl (("x" : Str) ++ Str.ofString (toString n)))
    rw [tl_append, t_x, tl_int (h n (by simp [Tm.nums])).1]
    refine fol_free fun hd => ?_
    rcases List.mem_append.mp hd with hd | hd
    · simp at hd
    · have := numL_small _ _ hd; omega
  | .z, h => by
    show Fol 44 32 (tl ("0" : Str))
    rw [t_0]
    exact fol_free (by simp)
  | .s t, h => by
    show Fol 44 32 (tl (("s" : Str) ++ "(" ++ Txt.join "," [t.txt] ++ ")"))
    rw [join1, tl_append, tl_append, tl_append, t_s, t_open, t_close]
    exact fol_append (fol_append (fol_free (by simp)) (txt_fol t h)) (fol_free (by simp))
  | .f l r, h => by
    show Fol 44 32 (tl (("f" : Str) ++ "(" ++ Txt.join "," [l.txt, r.txt] ++ ")"))
    rw [join2, tl_append, tl_append, tl_append, tl_append, tl_append, t_f, t_open, t_close, t_comma]
    have hl := txt_fol l (fun n hn => h n (by simp [Tm.nums, hn]))
    have hr := txt_fol r (fun n hn => h n (by simp [Tm.nums, hn]))
    obtain ⟨c, q, e, _, c2⟩ := txt_head r
    have hc : Fol 44 32 ([44] ++ tl r.txt) := by
      rw [e] at hr ⊢
      exact fol_cons c2 hr
    rw [List.append_assoc (tl l.txt)]
    exact fol_append (fol_append (fol_free (by simp)) (fol_append hl hc)) (fol_free (by simp))
theorem join_parts (x : Str) : ∀ l : List Str, tl (Txt.join " " (x :: l)) = tl x ++ l.flatMap fun p => 32 :: tl p
  | [] => by rw [join1]; simp
  | y :: l => by
    have ih := join_parts y l
    rw [TL.join_eq] at ih ⊢
    show tl (x ++ " " ++ Str.join " " (y :: l)) = _
    rw [tl_append, tl_append, ih, t_sp]
    simp
theorem atxt_tl (a : At) : tl (atxt a) = tl a.nm ++ a.ts.flatMap fun t => 32 :: tl t.txt := by
  unfold atxt parts
  rw [join_parts, List.flatMap_map]
theorem atxt_if {z : Nat} {a : At} (ok : AtOk z a) : Fol 32 105 (tl (atxt a)) := by
  rw [atxt_tl]
  refine fol_append (fol_free fun hd => ?_) ?_
  · have := ok.nm.low _ hd; omega
  · have each : ∀ l : List Tm, (∀ t ∈ l, t.small) → Fol 32 105 (l.flatMap fun t => 32 :: tl t.txt) := by
      intro l
      induction l with
      | nil => intro _; trivial
      | cons t l ih =>
        intro h
        rw [List.flatMap_cons]
        refine fol_append ?_ (ih fun u hu => h u (by simp [hu]))
        obtain ⟨c, q, e, c1, _⟩ := txt_head t
        have lo : Fol 32 105 (tl t.txt) := fol_free fun hd => by have := txt_low t (h t (by simp)) _ hd; omega
        rw [e] at lo ⊢
        exact fol_cons c1 lo
    exact each a.ts fun t ht => (ok.sm t ht).1
theorem atxt_com {z : Nat} {a : At} (ok : AtOk z a) : Fol 44 32 (tl (atxt a)) := by
  rw [atxt_tl]
  refine fol_append (fol_free fun hd => ?_) ?_
  · have := ok.nm.low _ hd; omega
  · have each : ∀ l : List Tm, (∀ t ∈ l, t.small) → Fol 44 32 (l.flatMap fun t => 32 :: tl t.txt) := by
      intro l
      induction l with
      | nil => intro _; trivial
      | cons t l ih =>
        intro h
        rw [List.flatMap_cons]
        exact fol_append (p := [32] ++ tl t.txt) (fol_append (fol_free (by simp)) (txt_fol t (h t (by simp)))) (ih fun u hu => h u (by simp [hu]))
    exact each a.ts fun t ht => (ok.sm t ht).1
theorem t_if : tl (" if " : Str) = [32, 105, 102, 32] := by decide +kernel
theorem t_cs : tl (", " : Str) = [44, 32] := by decide +kernel
end Rp

set_option maxHeartbeats 8000000
namespace Rp
open PySem PySem.Spec PyProof.Rows L2 TL StX
theorem atAt_mono {H H' : Hp} (e : ∀ a xs, H a = some (.tup xs) → H' a = some (.tup xs)) {v : V} {a : At} (h : AtAt H v a) : AtAt H' v a := by
  obtain ⟨p, xs, r, h1, h2⟩ := h
  exact ⟨p, xs, r, e _ _ h1, h2.mono e⟩
theorem AtsAt.mono {H H' : Hp} (e : ∀ a xs, H a = some (.tup xs) → H' a = some (.tup xs)) : ∀ {xs : List V} {as : List At}, AtsAt H xs as → AtsAt H' xs as
  | [], [], _ => trivial
  | _ :: _, _ :: _, h => ⟨atAt_mono e h.1, AtsAt.mono e h.2⟩
theorem btxt_split {as : List At} (ok : AtsOk as) (e : as ≠ []) : Txt.split (btxt as) ", " = as.map atxt := by
  refine split_fol t_cs (by decide +kernel) (by simpa using e) fun p hp => ?_
  obtain ⟨a, ha, rfl⟩ := List.mem_map.mp hp
  exact atxt_com (ok.ok a ha)
def spAtomsOr : Sp := fun vs H Q _ => ∃ as : List At, vs = [.str (btxt as)] ∧ AtsOk as ∧ as ≠ [] ∧ ∀ (b : Addr) (xs : List V) (H' : Hp), H' b = some (.tup xs) → AtsAt H' xs as → Same H H' → Q (.ref b) H'
section
variable {P : Program} {w : World} {K : PySem.W.Frag} {mg : Str → Option Value} {base : Heap}
theorem scAtomsOr : FnScope ["text", "part"] ["text"] (defScope sAtomsOr) := ⟨rfl, rfl, rfl, by decide +kernel, rfl, by decide +kernel, by decide +kernel⟩
theorem ok_atomsor {f fA : Addr} {fd dA : FuncData} (F : Fun K "atoms_or_nones" "atoms_or_nones" sAtomsOr f fd)
    (GA : FnOk P w K mg base CX0 6 fA dA ["text"] spAtomOr) (kA : PySem.W.keepIn K (.ref fA) = true) (bA : Binds K dA ["text"] []) (mA : mg "atom_or_none" = some (.ref fA)) (mTuple : mg "tuple" = none) : FnOk P w K mg base CX0 7 f fd ["text"] spAtomsOr := by
  refine F.ok scAtomsOr (fun vs H Q E h => ?_) (fun cdv A outer s H vs Q E hr h => ?_)
  · obtain ⟨as, rfl, _⟩ := h
    rfl
  obtain ⟨as, rfl, ok, e, q⟩ := h
  refine ⟨_, pss_one (ps_ret (pe_callTy call_tuple_of (by rfl) mTuple (by decide +kernel) (pa_cons (pe_lc (own := [("part", 1)]) (g := gName 1) (tt := tYes) (te := tCall spAtomOr [] E0 (tCons (tVar 1) tNil)) rfl scAtomsOr.nd
        (pi_list (pe_split (pv 0) pe_str)) (blkOk_by (N := ["text", "part"]) (sc := defScope sAtomsOr) (by decide +kernel)) (fun _ _ _ _ _ => pg_name (i := 1) scAtomsOr.nd rfl (Or.inl rfl))
        (fun _ _ _ _ _ => pts_nil) (fun _ _ _ _ _ => pe_call GA hr (by rfl) mA kA bA .nil pass0 (pa_cons (pv 1) pa_nil))) pa_nil))), ?_⟩
  have big : (10000 : Nat) ≤ sizeLine := by decide
  have o3 := ok.few
  have bl := btxt_len ok
  refine ⟨_, rfl, ⟨_, rfl⟩, btxt as, ", ", rfl, rfl, by decide +kernel, by omega, fun l hl => ?_⟩
  rw [btxt_split ok e]
  have s2 := same_new hl (.lst ((as.map atxt).map V.str))
  refine ⟨l, rfl, ⟨_, .inl (.inl upd_same)⟩, fun D hD => lc_list (K := K) (a := l) (xs := (as.map atxt).map V.str) (fun i H2 => ∃ xs : List V, H2 D = some (.lst xs) ∧ AtsAt H2 xs (as.take i) ∧ Same (upd H l (.lst ((as.map atxt).map V.str))) H2)
    ⟨[], upd_same, trivial, same_new hD _⟩ (fun i H2 _ ⟨_, _, _, h⟩ => .inl (.inl (h _ _ upd_same))) ?_ ?_⟩
  · rintro i x H2 hi ⟨xs, h2, A2, s3⟩
    rw [List.map_map, List.getElem?_map] at hi
    obtain ⟨a, ha, rfl⟩ : ∃ a, as[i]? = some a ∧ x = .str (atxt a) := by
      cases hq : as[i]? with
      | none => rw [hq] at hi; cases hi
      | some p => rw [hq] at hi; exact ⟨p, rfl, by simpa using hi.symm⟩
    have am : a ∈ as := List.mem_of_getElem? ha
    have li : i < as.length := (List.getElem?_eq_some_iff.mp ha).1
    have xl := A2.len
    rw [List.length_take] at xl
    refine ⟨rfl, ?_⟩
    refine ⟨_, rfl, a, rfl, ok.ok a am, fun v H3 T s4 => ⟨xs, s4 _ _ h2, by omega, xs ++ [v], upd_same, ?_, ?_⟩⟩
    · have h3 := s4 _ _ h2
      have keep : ∀ b zs, H3 b = some (.tup zs) → (upd H3 D (.lst (xs ++ [v]))) b = some (.tup zs) := fun b zs z => by rw [upd_ne (ne_of z h3 (by intro z; cases z))]; exact z
      have tk : as.take (i + 1) = as.take i ++ [a] := by rw [List.take_add_one, ha]; rfl
      rw [tk]
      exact (A2.mono fun b zs z => keep b zs (s4 _ _ z)).append ⟨atAt_mono keep T, trivial⟩
    · intro c o z
      rw [upd_ne (ne_of_none z hD)]
      exact s4 _ _ (s3 _ _ z)
  · rintro H2 ⟨xs, h2, A2, s3⟩
    rw [List.length_map, List.length_map, List.take_of_length_le (Nat.le_refl _)] at A2
    refine ⟨D, xs, rfl, .inl ⟨.inl (.inl h2), fun b hb => ?_⟩⟩
    have s4 := same_new hb (.tup xs)
    exact q b xs _ upd_same (A2.same s4) (s2.trans (s3.trans s4))
end
end Rp

/-! a, *b = t, a tuple of one item at least. -/
namespace Rp
open PySem PySem.Spec PySem.Calls PyProof.Rows L2 PySem.W
section
variable {prog : Program} {w : World} {A : Around} {E : Value → Shared → Prop} {s : Shared}
theorem unpack_starT {l : Addr} {items : Array Value} {n i : Nat} {Q : List Value → Shared → Prop} (isT : IsTup s.heap l items) (calm : A.handled = none) (hi : i < n) (hn : n ≤ items.size + 1) (few : items.size ≤ 16384)
    (go : ∀ (h' : Heap) (tk : Nat), (∀ b o, s.heap.get? b = some o → h'.get? b = some o) → Q (items.toList.take i ++ [.ref h'.objs.size] ++ (items.toList.drop i).drop (items.size + 1 - n))
      { s with heap := h'.push (seqObj "list" ((items.toList.drop i).take (items.size + 1 - n)).toArray 0), toks := tk }) : wpAny (model prog w) A (unpackItems (.ref l) n (some i)) Q E s := by
  have apart : l ≠ s.heap.objs.size := by obtain ⟨o, ho, _⟩ := isT; exact Nat.ne_of_lt (Heap.lt_size ho)
  unfold unpackItems; refine wpAny_bind ?_; unfold notIterableAtAll
  refine wpAny_bind (wpAny_specialOf isT.typeIs slot_tuple_iter.lookup (wpAny_pure ?_)); simp only [Bool.false_eq_true, if_false]
  refine wpAny_bind (wpAny_holding (iter_tuple isT (wpAny_bind (wpAny_holding (draw_tuple apart i 0 _ _ ⟨_, Heap.get?_push_size _ rfl, rfl, rfl⟩ (isT.push _) (by omega) fun h₁ it1 sb1 => ?_)))))
  have isT1 : IsTup h₁ l items := (isT.push _).extBut sb1.extBut apart
  rw [Nat.zero_add] at it1
  obtain ⟨oi, hoi, _⟩ := id it1
  obtain ⟨ol, hol, _⟩ := id isT1
  rw [List.drop_zero, if_neg (show ¬ ((items.toList.take i).length < i) by rw [List.length_take, Array.length_toList]; omega)]
  refine wpAny_bind (wpAny_holding (kun_collect (s := { s with heap := h₁ }) (T := "tuple_iterator") (.inr (.inr (.inr rfl))) (Walks.tuple (A := A.in1) calm s.heap.objs.size l apart items) (fun j u st => st.1.typeIs) (k := i) (by omega) ⟨it1, isT1⟩
    (Heap.lt_size hoi) (Heap.lt_size hol) (fun h₂ tk old => ?_) (by rw [sizeLine_eq]; omega)))
  have rest : (items.toList.drop i).length = items.size - i := by rw [List.length_drop, Array.length_toList]
  show wpAny _ _ (if (items.toList.drop i).length < n - 1 - i then _ else _) _ _ _; rw [if_neg (by rw [rest]; omega)]
  show wpAny _ _ (newList ((items.toList.drop i).take ((items.toList.drop i).length - (n - 1 - i))) >>= fun d => pure (items.toList.take i ++ [d] ++ (items.toList.drop i).drop ((items.toList.drop i).length - (n - 1 - i)))) _ _ _
  rw [show (items.toList.drop i).length - (n - 1 - i) = items.size + 1 - n by rw [rest]; omega]
  refine wpAny_bind (wpAny_newList (wpAny_pure (go h₂ tk fun b o z => old b o (Nat.ne_of_lt (Heap.lt_size z)) (sb1.extBut b o (Nat.ne_of_lt (Heap.lt_size z)) (Heap.get?_push_of_some _ z)))) (by rw [List.length_take, rest, sizeLine_eq]; omega))
end
section
variable {X : Cx} {pos : Pos}
/-- (a, *b) = a tuple: the first item, a new list of the others -/
def gStarT (K : PySem.W.Frag) (t : TGs) : TG := fun v σ H Q => ∃ (a : Addr) (x : V) (xs : List V), v = .ref a ∧ SqT K H a (x :: xs) ∧ xs.length ≤ 16000 ∧ ∀ p, H p = none → t [x, .ref p] σ (upd H p (.lst xs)) Q
theorem pg_starT {es : List Expr} {k : Nat} {t : TGs} (calm : X.calm = true) (h : PGs X es t) (hn : (assignEach es X.env).length = 2 := by rfl) (hst : (assignEach es X.env).findIdx? (·.1) = some 1 := by rfl) : PG X (.Tuple es k pos) (gStarT X.K t) := by
  refine ⟨fun pins s σ H v u Q I r hw => ?_⟩
  obtain ⟨a, x, xs, rfl, sq, few, go⟩ := hw
  cases r
  obtain ⟨its, rv, isT, _⟩ := I.tuple sq
  cases rv with
  | @cons _ v0 _ vs r0 rr =>
    have lv := rr.length
    rw [assign_Tuple]
    refine wpAny_bind (wpAny_standAt ?_)
    unfold unpack
    rw [hn, hst]
    refine wpAny_bind (wpAny_holding (unpack_starT isT (I.ok.hd calm) (by decide) (by simp) (by simp; omega) fun h' tk old => ?_))
    have J : Inv X pins σ H { s with heap := h', toks := tk } := I.kept old
    have big : (20000 : Nat) ≤ sizeLine := by decide
    have K1 : Inv X pins σ (upd H h'.objs.size (.lst xs)) { s with heap := h'.push (seqObj "list" vs.toArray 0), toks := tk } :=
      J.laid (t' := tk) (fun b o z => Heap.get?_push_of_some _ z) (Nat.le_refl _) ⟨by omega, vs, 0, rr, Heap.get?_push_size _ rfl⟩
    have e1 : ((v0 :: vs).toArray.toList.drop 1).take ((v0 :: vs).toArray.size + 1 - 2) = vs := by simp
    have e2 : (v0 :: vs).toArray.toList.take 1 ++ [Value.ref h'.objs.size] ++ ((v0 :: vs).toArray.toList.drop 1).drop ((v0 :: vs).toArray.size + 1 - 2) = [v0, .ref h'.objs.size] := by simp
    rw [e1, e2]
    exact h.run pins _ σ _ [x, .ref h'.objs.size] _ Q K1 (.cons r0 (.cons rfl .nil)) (go _ (J.hok.fresh (Nat.le_refl _)))
end
end Rp

set_option maxHeartbeats 8000000
/-! SAYINGs. -/
namespace Rp
open PySem PySem.Spec PyProof.Rows L2 TL StX
def atD (a : At) : PyData := .tuple (.str a.nm :: a.ts.map tmD)
theorem all_dp {K : PySem.W.Frag} {H : Hp} : ∀ {xs : List V} {ts : List Tm}, AllAt H xs ts → DpAll K H xs (ts.map tmD)
  | [], [], _ => .nil
  | _ :: _, _ :: _, h => .cons (h.1.dat (b := (0 : Nat))).dp (all_dp h.2)
theorem at_dp {K : PySem.W.Frag} {H : Hp} {v : V} {a : At} (h : AtAt H v a) : Dp K H v (atD a) := by
  obtain ⟨p, xs, rfl, h1, h2⟩ := h
  exact .tup (.inl (.inl h1)) (.cons (.str _) (all_dp h2))
theorem ats_dp {K : PySem.W.Frag} {H : Hp} : ∀ {xs : List V} {as : List At}, AtsAt H xs as → DpAll K H xs (as.map atD)
  | [], [], _ => .nil
  | _ :: _, _ :: _, h => .cons (at_dp h.1) (ats_dp h.2)
theorem name_lay {x : Str} (h : NameOk x) : PyData.canLay0 (.str x) = true := by
  show x.cps.all (· < 0x110000) = true
  rw [Array.all_eq_true']
  intro c hc
  have := h.low c (Array.mem_toList_iff.mpr hc)
  exact decide_eq_true (by omega)
theorem tms_lay : ∀ {ts : List Tm}, (∀ t ∈ ts, t.size ≤ 50) → PyData.canLayAll0 (ts.map tmD) = true ∧ PyData.depthAll (ts.map tmD) ≤ 51
  | [], _ => ⟨rfl, by decide⟩
  | t :: ts, h => by
    have ih := tms_lay (ts := ts) fun u hu => h u (by simp [hu])
    have d1 := Tm.deep_lt t
    have z := h t (by simp)
    obtain ⟨c1, c2, _⟩ : (tmD t).canLay0 = true ∧ (tmD t).depth ≤ t.deep + 1 ∧ nd (tmD t) ≤ 2 * t.size := tm_ok t
    simp only [List.map_cons, PyData.canLayAll0, PyData.depthAll, c1, ih.1]
    exact ⟨rfl, by omega⟩
theorem at_lay {a : At} (ok : AtOk 50 a) : (atD a).canLay0 = true ∧ (atD a).depth ≤ 52 := by
  have h := tms_lay (ts := a.ts) fun t ht => (ok.sm t ht).2
  refine ⟨?_, ?_⟩
  · show PyData.canLayAll0 (.str a.nm :: a.ts.map tmD) = true
    simp only [PyData.canLayAll0, name_lay ok.nm, h.1]
    rfl
  · show PyData.depthAll (.str a.nm :: a.ts.map tmD) + 1 ≤ 52
    simp only [PyData.depthAll, PyData.depth]
    omega
theorem ats_lay : ∀ {as : List At}, (∀ a ∈ as, AtOk 50 a) → PyData.canLayAll0 (as.map atD) = true ∧ PyData.depthAll (as.map atD) ≤ 52
  | [], _ => ⟨rfl, by decide⟩
  | a :: as, h => by
    have ih := ats_lay (as := as) fun b hb => h b (by simp [hb])
    have z := at_lay (h a (by simp))
    simp only [List.map_cons, PyData.canLayAll0, PyData.depthAll, z.1, ih.1]
    exact ⟨rfl, by omega⟩
theorem ats_shaped {as : List At} (h : ∀ a ∈ as, AtOk 50 a) : SeqAt.shaped (.list (as.map atD)) = true := by
  have z := ats_lay h
  refine shaped_of ?_ ?_
  · show PyData.canLayAll0 _ = true
    exact z.1
  · show PyData.depthAll _ + 1 ≤ 64
    omega
theorem at_shaped {a : At} (h : AtOk 50 a) : SeqAt.shaped (atD a) = true := shaped_of (at_lay h).1 (by have := (at_lay h).2; omega)
theorem eqv_tm : ∀ {a b : Tm}, PyData.eqv (tmD a) (tmD b) = true ↔ a = b := by
  have n0s : ("0" : Str) ≠ "s" := by decide +kernel
  have n0f : ("0" : Str) ≠ "f" := by decide +kernel
  have nsf : ("s" : Str) ≠ "f" := by decide +kernel
  intro a
  induction a with
  | v n => intro b; cases b <;> simp [tmD, PyData.eqv]
  | z => intro b; cases b <;> simp [tmD, PyData.eqv, PyData.eqvAll]
  | s t ih =>
    intro b
    cases b with
    | s t' => simp only [tmD]; rw [eqv_tup, eqvAll_cons, eqvAll_cons, eqvAll_nil]; simp [PyData.eqv, ih]
    | _ => simp [tmD, PyData.eqv, PyData.eqvAll]
  | f l r ih1 ih2 =>
    intro b
    cases b with
    | f l' r' => simp only [tmD]; rw [eqv_tup, eqvAll_cons, eqvAll_cons, eqvAll_cons, eqvAll_nil]; simp [PyData.eqv, ih1, ih2]
    | _ => simp [tmD, PyData.eqv, PyData.eqvAll]
theorem eqv_tms : ∀ {ts us : List Tm}, PyData.eqvAll (ts.map tmD) (us.map tmD) = true ↔ ts = us
  | [], [] => by simp [PyData.eqvAll]
  | [], _ :: _ => by simp [PyData.eqvAll]
  | _ :: _, [] => by simp [PyData.eqvAll]
  | t :: ts, u :: us => by rw [List.map_cons, List.map_cons, eqvAll_cons, Bool.and_eq_true, eqv_tm, eqv_tms]; simp
theorem eqv_at {a b : At} : PyData.eqv (atD a) (atD b) = true ↔ a = b := by
  unfold atD
  rw [eqv_tup, eqvAll_cons, Bool.and_eq_true, eqv_tms]
  cases a; cases b
  simp [PyData.eqv]
theorem in_ats {as : List At} {a : At} : (as.map atD).any (fun z => PyData.eqv z (atD a)) = true ↔ a ∈ as := by
  rw [List.any_eq_true]
  constructor
  · rintro ⟨d, hd, e⟩
    obtain ⟨b, hb, rfl⟩ := List.mem_map.mp hd
    rw [eqv_at] at e
    rw [← e]; exact hb
  · intro h
    exact ⟨_, List.mem_map.mpr ⟨a, h, rfl⟩, eqv_at.mpr rfl⟩
theorem notin_ats {as : List At} {a : At} (h : a ∉ as) : (as.map atD).any (fun z => PyData.eqv z (atD a)) = false := by
  cases e : (as.map atD).any fun z => PyData.eqv z (atD a) with
  | false => rfl
  | true => exact absurd (in_ats.mp e) h
structure Sy where
  hs : List At
  gl : At
def SyAt (H : Hp) (v : V) (s : Sy) : Prop := ∃ (p q : Addr) (vg : V) (xs : List V), v = .ref p ∧ H p = some (.tup [.ref q, vg]) ∧ H q = some (.tup xs) ∧ AtsAt H xs s.hs ∧ AtAt H vg s.gl
structure SyOk (s : Sy) : Prop where
  hs : AtsOk s.hs
  nd : s.hs.Nodup
  gl : AtOk 50 s.gl
theorem syAt_mono {H H' : Hp} (e : ∀ a xs, H a = some (.tup xs) → H' a = some (.tup xs)) {v : V} {s : Sy} (h : SyAt H v s) : SyAt H' v s := by
  obtain ⟨p, q, vg, xs, rfl, h1, h2, h3, h4⟩ := h
  exact ⟨p, q, vg, xs, rfl, e _ _ h1, e _ _ h2, h3.mono e, atAt_mono e h4⟩
theorem SyAt.same {H H' : Hp} {v : V} {s : Sy} (h : SyAt H v s) (e : Same H H') : SyAt H' v s := syAt_mono (fun a xs z => e _ _ z) h
def spUnlike : Sp := fun vs H Q _ => ∃ (q : Addr) (xs : List V) (as : List At), vs = [.ref q] ∧ H q = some (.tup xs) ∧ AtsAt H xs as ∧ AtsOk as ∧ as.Nodup ∧ ∀ (p : Addr) (H' : Hp), H' p = some (.tup xs) → Same H H' → Q (.ref p) H'
def spIsSaying : Sp := fun vs H Q _ => ∃ (v : V) (s : Sy), vs = [v] ∧ SyAt H v s ∧ SyOk s ∧ ∀ H', Same H H' → Q (.bl true) H'
section
variable {P : Program} {w : World} {K : PySem.W.Frag} {mg : Str → Option Value} {base : Heap}
theorem scUnlike : FnScope ["atoms", "found", "atom"] ["atoms"] (defScope sUnlike) := ⟨rfl, rfl, rfl, by decide +kernel, rfl, by decide +kernel, by decide +kernel⟩
theorem ok_unlike {f : Addr} {fd : FuncData} (F : Fun K "unlike" "unlike" sUnlike f fd) (mTuple : mg "tuple" = none) : FnOk P w K mg base CX0 1 f fd ["atoms"] spUnlike := by
  refine F.ok scUnlike (fun vs H Q E h => ?_) (fun cdv A outer s H vs Q E hr h => ?_)
  · obtain ⟨q, xs, as, rfl, _⟩ := h
    rfl
  obtain ⟨q, xs, as, rfl, hq, A1, ok, nd, fin⟩ := h
  refine ⟨_, pss_cons (ps_set (i := 1) scUnlike.nd rfl (Or.inl rfl) (pe_lst pa_nil))
    (pss_cons (ps_for PassesOwn.never rfl (pi_tup (pv 0)) (pg_name (i := 2) scUnlike.nd rfl (Or.inl rfl))
      (pss_one (ps_if (pt_cmpR (op_notInD (hu65 hr)) (pv 2) (pv 1) (by rfl)) (pss_one (ps_expr (pe_bm PySem.F.plainAttrs_list PySem.F.slot_list_append PySem.F.type_list_append mt_append (pv 1) (pa_cons (pv 2) pa_nil)))) pss_nil)))
    (pss_one (ps_ret (pe_callTy call_tuple_of (by rfl) mTuple (by decide +kernel) (pa_cons (pv 1) pa_nil))))), ?_⟩
  have big : (10000 : Nat) ≤ sizeLine := by decide
  have xl := A1.len
  have o6 := ok.few
  refine ⟨(by show 0 ≤ sizeLine; decide), fun l hl => ?_⟩
  have s1 := same_new hl (.lst ([] : List V))
  have hq1 := s1 _ _ hq
  have lq : q ≠ l := ne_of_none hq hl
  refine ⟨_, rfl, q, rfl, ⟨_, .inl (.inl hq1)⟩, for_tup (K := K) (a := q) (xs := xs) (fun i σ H2 => ∃ x2 : Option V, σ = [some (.ref q), some (.ref l), x2] ∧ H2 l = some (.lst (xs.take i)) ∧ Same H H2)
    ⟨none, rfl, upd_same, s1⟩ (fun i σ H2 _ ⟨_, _, _, h⟩ => .inl (.inl (h _ _ hq))) ?_ ?_⟩
  · rintro i x σ H2 hi ⟨x2, rfl, h2, s2⟩
    obtain ⟨a, ha, T⟩ := A1.get hi
    have am := List.mem_of_getElem? ha
    have A2 := A1.same s2
    have li : i < as.length := (List.getElem?_eq_some_iff.mp ha).1
    have dpx : DpAll K H2 (xs.take i) ((as.take i).map atD) := by
      have each : ∀ (n : Nat) {ys : List V} {bs : List At}, AtsAt H2 ys bs → AtsAt H2 (ys.take n) (bs.take n) := by
        intro n
        induction n with
        | zero => intro ys bs _; rw [List.take_zero, List.take_zero]; trivial
        | succ n ih =>
          intro ys bs h
          cases ys with
          | nil => cases bs with
            | nil => trivial
            | cons b bs => exact h.elim
          | cons y ys => cases bs with
            | nil => exact h.elim
            | cons b bs => exact ⟨h.1, ih h.2⟩
      exact ats_dp (each i A2)
    have nin : a ∉ as.take i := by
      intro hm
      obtain ⟨j, hj, e⟩ := List.getElem_of_mem hm
      rw [List.length_take] at hj
      rw [List.getElem_take] at e
      have e2 : as[i]'li = a := by
        have := ha
        rw [List.getElem?_eq_getElem li] at this
        exact Option.some.inj this
      have := (List.getElem_inj nd).mp (e.trans e2.symm)
      omega
    refine ⟨_, rfl, _, rfl, atD a, (as.take i).map atD, at_dp (atAt_same T s2), .lst (.inl (.inl h2)) dpx, at_shaped (ok.ok a am), ats_shaped fun b hb => ok.ok b (List.mem_of_mem_take hb), true, by rw [notin_ats nin]; rfl, iteT ?_⟩
    refine ⟨_, rfl, .inl ⟨rfl, _, .inl (.inl h2)⟩, _, rfl, l, _, _, rfl, rfl, h2, by rw [List.length_take]; omega, ?_⟩
    refine ⟨_, rfl, ?_, ?_⟩
    · have tk : xs.take (i + 1) = xs.take i ++ [x] := by rw [List.take_add_one, hi]; rfl
      rw [upd_same, tk]
    · intro c o z
      rw [upd_ne (ne_of_none z hl)]
      exact s2 _ _ z
  · rintro σ H2 ⟨x2, rfl, h2, s2⟩
    rw [List.take_length] at h2
    exact ⟨_, rfl, l, _, rfl, .inl ⟨.inl (.inl h2), fun p hp => fin p _ upd_same (s2.trans (same_new hp _))⟩⟩
theorem scIsSaying : FnScope ["thing", "hyps", "goal", "atom"] ["thing"] (defScope sIsSaying) := ⟨rfl, rfl, rfl, by decide +kernel, rfl, by decide +kernel, by decide +kernel⟩
theorem ok_issaying {f fA fU : Addr} {fd dA dU : FuncData} {t3 : Tok} (F : Fun K "is_saying" "is_saying" sIsSaying f fd)
    (GA : FnOk P w K mg base CX0 4 fA dA ["thing"] spIsAtom) (kA : PySem.W.keepIn K (.ref fA) = true) (bA : Binds K dA ["thing"] []) (mA : mg "is_atom" = some (.ref fA))
    (GU : FnOk P w K mg base CX0 1 fU dU ["atoms"] spUnlike) (kU : PySem.W.keepIn K (.ref fU) = true) (bU : Binds K dU ["atoms"] []) (mU : mg "unlike" = some (.ref fU))
    (mH : mg "MOST_HYPS" = some (.int 6 t3)) (M : SameG mg) : FnOk P w K mg base CX0 5 f fd ["thing"] spIsSaying := by
  refine F.ok scIsSaying (fun vs H Q E h => ?_) (fun cdv A outer s H vs Q E hr h => ?_)
  · obtain ⟨v, s, rfl, _⟩ := h
    rfl
  obtain ⟨v, s, rfl, ⟨p, q, vg, xs, rfl, hp, hq, A1, Ag⟩, ok, fin⟩ := h
  have r1 : Room 1 _ := hr.mono (by decide)
  refine ⟨_, pss_cons (ps_if (PW.pt (pw_or (pt_not (pt_val (pe_callB (id := "isinstance") call_isi (by rfl) M.isi (by decide +kernel) (pa_cons (pv 0) (pa_cons (pe_bltn (v := .ty "tuple") (by rfl) M.tuple (by decide +kernel) rfl) pa_nil)))))
      (pw_or1 (pt_cmpR op_ne (pe_callB call_len_seq (by rfl) M.len PySem.boot_len (pa_cons (pv 0) pa_nil)) pe_int (nomark _))))) (pss_one (ps_ret pe_bl)) pss_nil)
    (pss_cons (ps_asg (pv 0) (pg_tup (by rfl) (pgs_cons (pg_name (i := 1) scIsSaying.nd rfl (Or.inl rfl)) (pgs_cons (pg_name (i := 2) scIsSaying.nd rfl (Or.inl rfl)) pgs_nil))))
    (pss_cons (ps_if (PW.pt (pw_or (pt_not (pt_val (pe_callB (id := "isinstance") call_isi (by rfl) M.isi (by decide +kernel) (pa_cons (pv 1) (pa_cons (pe_bltn (v := .ty "tuple") (by rfl) M.tuple (by decide +kernel) rfl) pa_nil)))))
      (pw_or1 (pt_cmpR op_gt (pe_callB call_len_seq (by rfl) M.len PySem.boot_len (pa_cons (pv 1) pa_nil)) (pe_glob (v := .int 6) (by rfl) mH ⟨_, rfl⟩) (nomark _))))) (pss_one (ps_ret pe_bl)) pss_nil)
    (pss_one (ps_ret (pe_and (pe_callB (cr_all rfl) (by rfl) M.all (by decide +kernel) (pa_cons (pe_lc (own := [("atom", 3)]) (g := gName 3) (tt := tYes) (te := tCall spIsAtom [] E0 (tCons (tVar 3) tNil)) rfl scIsSaying.nd
        (pi_tup (pe_tup (pa_star (pv 1) (pa_cons (pv 2) pa_nil)))) (blkOk_by (N := ["thing", "hyps", "goal", "atom"]) (sc := defScope sIsSaying) (by decide +kernel)) (fun _ _ _ _ _ => pg_name (i := 3) scIsSaying.nd rfl (Or.inl rfl))
        (fun _ _ _ _ _ => pts_nil) (fun _ _ _ _ _ => pe_call GA hr (by rfl) mA kA bA .nil pass0 (pa_cons (pv 3) pa_nil))) pa_nil))
      (pe_one (pe_cmpR op_eq (pe_callB call_len_seq (by rfl) M.len PySem.boot_len (pa_cons (pe_call GU r1 (by rfl) mU kU bU .nil pass0 (pa_cons (pv 1) pa_nil)) pa_nil)) (pe_callB call_len_seq (by rfl) M.len PySem.boot_len (pa_cons (pv 1) pa_nil)) (nomark _)))))))), ?_⟩
  have big : (10000 : Nat) ≤ sizeLine := by decide
  have xl := A1.len
  have o6 := ok.hs.few
  refine ⟨_, rfl, _, _, _, _, true, rfl, .ty "tuple", .base (.tup hp), kit_ty (by decide +kernel), true, rfl, iteF ?_⟩
  refine ⟨_, rfl, p, _, rfl, .inr (.inl (.inl hp)), rfl, false, rfl, iteF ?_⟩
  refine ⟨_, rfl, p, _, rfl, .inl (.inl hp), rfl, _, _, rfl, _, _, rfl, rfl, ?_⟩
  refine ⟨_, rfl, _, _, _, _, true, rfl, .ty "tuple", .base (.tup hq), kit_ty (by decide +kernel), true, rfl, iteF ?_⟩
  refine ⟨_, rfl, q, _, rfl, .inr (.inl (.inl hq)), _, _, rfl, rfl, false, congrArg V.bl (decide_eq_false (by omega)), iteF ?_⟩
  refine ⟨_, rfl, q, xs, rfl, .inl (.inl (.inl hq)), _, rfl, by simp; omega, fun g hg => ?_⟩
  have s1 := same_new hg (.tup (xs ++ [vg]))
  have A2 : AtsAt H (xs ++ [vg]) (s.hs ++ [s.gl]) := A1.append ⟨Ag, trivial⟩
  have al : (xs ++ [vg]).length ≤ 7 := by rw [List.length_append, List.length_singleton]; omega
  refine ⟨g, rfl, ⟨_, .inl (.inl upd_same)⟩, fun D hD => lc_tup (K := K) (a := g) (xs := xs ++ [vg]) (fun i H2 => H2 D = some (.lst (List.replicate i (V.bl true))) ∧ Same (upd H g (.tup (xs ++ [vg]))) H2) ⟨upd_same, same_new hD _⟩ (fun i H2 _ h => .inl (.inl (h.2 _ _ upd_same))) ?_ ?_⟩
  · rintro i x H2 hi ⟨h2, s2⟩
    obtain ⟨a, ha, T⟩ := A2.get hi
    have am := List.mem_of_getElem? ha
    have li : i < (xs ++ [vg]).length := (List.getElem?_eq_some_iff.mp hi).1
    have aok : AtOk 50 a := by
      rcases List.mem_append.mp am with am | am
      · exact ok.hs.ok a am
      · obtain rfl : a = s.gl := by simpa using am
        exact ok.gl
    refine ⟨rfl, ?_⟩
    refine ⟨_, rfl, x, a, rfl, atAt_same T (s1.trans s2), aok, fun H3 s3 => ⟨_, s3 _ _ h2, ?_, ?_, ?_⟩⟩
    · rw [List.length_replicate]; omega
    · rw [upd_same, List.replicate_succ']
    · intro c o z
      rw [upd_ne (ne_of_none z hD)]
      exact s3 _ _ (s2 _ _ z)
  · rintro H2 ⟨h2, s2⟩
    have e : (List.replicate (xs ++ [vg]).length true).all id = true := by rw [List.all_eq_true]; intro y hy; rw [List.eq_of_mem_replicate hy]; rfl
    refine ⟨D, List.replicate (xs ++ [vg]).length true, rfl, .inl (.inl (by rw [List.map_replicate]; exact h2)), ?_⟩
    rw [e]
    refine ⟨true, rfl, iteT ?_⟩
    have s12 := s1.trans s2
    refine ⟨_, rfl, q, xs, s.hs, rfl, s12 _ _ hq, A1.same s12, ok.hs, ok.nd, fun u H3 hu s3 => ?_⟩
    refine ⟨u, _, rfl, .inr (.inl (.inl hu)), _, rfl, q, _, rfl, .inr (.inl (.inl (s3 _ _ (s12 _ _ hq)))), rfl, ?_⟩
    rw [show decide (V.int ((xs.length : Nat) : Int) = V.int ((xs.length : Nat) : Int)) = true from decide_eq_true rfl]
    exact fin H3 (s12.trans s3)
end
end Rp

set_option maxHeartbeats 8000000
/-! SAYINGs' texts. -/
namespace Rp
open PySem PySem.Spec PyProof.Rows L2 TL StX
theorem starts_app (b r : Str) : Txt.startswith (b ++ r) b = true := by
  unfold Txt.startswith
  rw [PySem.StrLaws.subAt_eq, Bool.and_eq_true]
  refine ⟨decide_eq_true (by rw [slen]; omega), ?_⟩
  rw [beq_iff_eq]
  show List.take b.length ((tl (b ++ r)).drop 0) = tl b
  rw [tl_append, List.drop_zero, show b.length = (tl b).length from len_tl b]
  simp
theorem starts_no {a b : Str} {c d : Nat} {p q : List Nat} (ha : tl a = c :: p) (hb : tl b = d :: q) (ne : c ≠ d) : Txt.startswith a b = false := by
  unfold Txt.startswith
  rw [PySem.StrLaws.subAt_eq, Bool.and_eq_false_iff]
  refine .inr ?_
  rw [beq_eq_false_iff_ne]
  intro e
  have e : List.take b.length ((tl a).drop 0) = tl b := e
  rw [List.drop_zero, show b.length = (tl b).length from len_tl b, ha, hb, List.length_cons, List.take_succ_cons] at e
  injection e with e1
  exact ne e1
theorem cutS_app (b r : Str) : cutS (b ++ r) (some ((b.length : Nat) : Int)) none = r := by
  refine ext_tl ?_
  have e : tl (cutS (b ++ r) (some ((b.length : Nat) : Int)) none) = ((tl (b ++ r)).drop (HT.sIx (b ++ r).length 0 (some ((b.length : Nat) : Int)))).take (HT.sIx (b ++ r).length (b ++ r).length none - HT.sIx (b ++ r).length 0 (some ((b.length : Nat) : Int))) := rfl
  rw [e, HT.sIx_none, HT.sIx_nat, tl_append, slen, Nat.min_eq_left (by omega), show b.length = (tl b).length from len_tl b, List.drop_left, show r.length = (tl r).length from len_tl r]
  rw [show (tl b).length + (tl r).length - (tl b).length = (tl r).length by omega, List.take_length]
theorem txt_head2 : ∀ t : Tm, ∃ c q, tl t.txt = c :: q ∧ (c = 120 ∨ c = 48 ∨ c = 115 ∨ c = 102)
  | .v n => ⟨120, tl (Str.ofString (toString n)), by show tl (("x" : Str) ++ Str.ofString (toString n)) = _; rw [tl_append, t_x]; rfl, by decide⟩
  | .z => ⟨48, [], t_0, by decide⟩
  | .s t => ⟨115, tl ("(" ++ Txt.join "," [t.txt] ++ ")"), by show tl (("s" : Str) ++ "(" ++ Txt.join "," [t.txt] ++ ")") = _; simp only [tl_append, t_s]; rfl, by decide⟩
  | .f l r => ⟨102, tl ("(" ++ Txt.join "," [l.txt, r.txt] ++ ")"), by show tl (("f" : Str) ++ "(" ++ Txt.join "," [l.txt, r.txt] ++ ")") = _; simp only [tl_append, t_f]; rfl, by decide⟩
theorem atxt_head {a : At} (ok : AtOk 50 a) : ∃ c q, tl (atxt a) = c :: q ∧ 97 ≤ c ∧ c ≤ 122 := by
  rw [atxt_tl]
  have h1 := ok.nm.pos
  rw [show a.nm.length = (tl a.nm).length from len_tl a.nm] at h1
  cases e : tl a.nm with
  | nil => rw [e] at h1; simp at h1
  | cons c q =>
    have := ok.nm.low c (by rw [e]; simp)
    exact ⟨c, q ++ a.ts.flatMap fun t => 32 :: tl t.txt, rfl, this.1, this.2⟩
theorem atxt_fol {a : At} (ok : AtOk 50 a) {n : Nat} (hn : n = 124 ∨ n = 59) : Fol 32 n (tl (atxt a)) := by
  rw [atxt_tl]
  refine fol_append (fol_free fun hd => ?_) ?_
  · have := ok.nm.low _ hd; omega
  · have each : ∀ l : List Tm, (∀ t ∈ l, t.small) → Fol 32 n (l.flatMap fun t => 32 :: tl t.txt) := by
      intro l
      induction l with
      | nil => intro _; trivial
      | cons t l ih =>
        intro h
        rw [List.flatMap_cons]
        refine fol_append ?_ (ih fun u hu => h u (by simp [hu]))
        obtain ⟨c, q, e, c1⟩ := txt_head2 t
        have lo : Fol 32 n (tl t.txt) := fol_free fun hd => by have := txt_low t (h t (by simp)) _ hd; omega
        rw [e] at lo ⊢
        exact fol_cons (by omega) lo
    exact each a.ts fun t ht => (ok.sm t ht).1
theorem btxt_cons (a b : At) (l : List At) : tl (btxt (a :: b :: l)) = tl (atxt a) ++ [44, 32] ++ tl (btxt (b :: l)) := by
  unfold btxt
  rw [TL.join_eq, TL.join_eq]
  show tl (atxt a ++ ", " ++ Str.join ", " ((b :: l).map atxt)) = _
  rw [tl_append, tl_append, t_cs]
theorem btxt_one (a : At) : btxt [a] = atxt a := join1 _ _
theorem btxt_head : ∀ {as : List At}, AtsOk as → as ≠ [] → ∃ c q, tl (btxt as) = c :: q ∧ 97 ≤ c ∧ c ≤ 122
  | [a], ok, _ => by rw [btxt_one]; exact atxt_head (ok.ok a (by simp))
  | a :: b :: l, ok, _ => by
    obtain ⟨c, q, e, h1, h2⟩ := atxt_head (ok.ok a (by simp))
    rw [btxt_cons, e]
    exact ⟨c, q ++ [44, 32] ++ tl (btxt (b :: l)), by simp, h1, h2⟩
theorem btxt_fol {n : Nat} (hn : n = 124 ∨ n = 59) : ∀ {as : List At}, AtsOk as → as ≠ [] → Fol 32 n (tl (btxt as))
  | [a], ok, _ => by rw [btxt_one]; exact atxt_fol (ok.ok a (by simp)) hn
  | a :: b :: l, ok, _ => by
    have ok2 : AtsOk (b :: l) := ⟨by have := ok.few; simp only [List.length_cons] at this ⊢; omega, fun x hx => ok.ok x (by simp at hx ⊢; exact .inr hx)⟩
    have ih := btxt_fol hn ok2 (by simp)
    obtain ⟨c, q, e, h1, h2⟩ := btxt_head ok2 (by simp)
    rw [btxt_cons, List.append_assoc]
    refine fol_append (atxt_fol (ok.ok a (by simp)) hn) (fol_append (p := [44]) (q := [32] ++ tl (btxt (b :: l))) (fol_free (by simp)) ?_)
    rw [e] at ih ⊢
    exact fol_cons (by omega) ih
def sytxt (s : Sy) : Str := if s.hs = [] then "|- " ++ atxt s.gl else btxt s.hs ++ " |- " ++ atxt s.gl
theorem t_bare : tl ("|- " : Str) = [124, 45, 32] := by decide +kernel
theorem t_part : tl (" |- " : Str) = [32, 124, 45, 32] := by decide +kernel
theorem t_semi : tl (" ; " : Str) = [32, 59, 32] := by decide +kernel
theorem l_bare : ("|- " : Str).length = 3 := by decide +kernel
theorem l_part : (" |- " : Str).length = 4 := by decide +kernel
theorem sytxt_fol {s : Sy} (ok : SyOk s) : Fol 32 59 (tl (sytxt s)) := by
  obtain ⟨c, q, e, h1, h2⟩ := atxt_head ok.gl
  have g := atxt_fol ok.gl (.inr rfl : (59 : Nat) = 124 ∨ 59 = 59)
  have g2 : Fol 32 59 ([32] ++ tl (atxt s.gl)) := by
    rw [e] at g ⊢
    exact fol_cons (by omega) g
  unfold sytxt
  split
  · rw [tl_append, t_bare]
    exact fol_append (p := [124, 45]) (q := [32] ++ tl (atxt s.gl)) (fol_free (by simp)) g2
  · rename_i ne
    rw [tl_append, tl_append, t_part, List.append_assoc]
    refine fol_append (btxt_fol (.inr rfl) ok.hs ne) (fol_append (p := [32, 124, 45]) (q := [32] ++ tl (atxt s.gl)) ?_ g2)
    exact ⟨fun _ => by decide, ⟨fun h => by omega, by show (45 : Nat) ≠ 32; decide⟩⟩
theorem sytxt_len {s : Sy} (ok : SyOk s) : (sytxt s).length ≤ 3600 := by
  have h1 := atxt_len ok.gl
  have h2 := btxt_len ok.hs
  unfold sytxt
  split
  · rw [slen, l_bare]; omega
  · rw [slen, slen, l_part]; omega
theorem sytxt_bare {s : Sy} (e : s.hs = []) : sytxt s = "|- " ++ atxt s.gl := if_pos e
theorem sytxt_some {s : Sy} (e : s.hs ≠ []) : sytxt s = btxt s.hs ++ " |- " ++ atxt s.gl := if_neg e
theorem sytxt_starts {s : Sy} (ok : SyOk s) : Txt.startswith (sytxt s) "|- " = decide (s.hs = []) := by
  by_cases e : s.hs = []
  · rw [decide_eq_true e, sytxt_bare e]
    exact starts_app _ _
  · rw [decide_eq_false e, sytxt_some e]
    obtain ⟨c, q, h, h1, h2⟩ := btxt_head ok.hs e
    refine starts_no (c := c) (p := q ++ [32, 124, 45, 32] ++ tl (atxt s.gl)) ?_ t_bare (by omega)
    rw [tl_append, tl_append, t_part, h]
    simp
theorem sytxt_parts {s : Sy} (ok : SyOk s) (e : s.hs ≠ []) : Txt.partition (sytxt s) " |- " = (btxt s.hs, (" |- " : Str), atxt s.gl) := by
  rw [sytxt_some e]
  exact partition_fol t_part (btxt_fol (.inl rfl) ok.hs e)
/-- signs from the blank on, but the line feed -/
def Rowy (x : Str) : Prop := ∀ d ∈ tl x, 32 ≤ d
theorem rowy_app {a b : Str} (ha : Rowy a) (hb : Rowy b) : Rowy (a ++ b) := fun d hd => by
  rw [tl_append] at hd
  rcases List.mem_append.mp hd with hd | hd
  · exact ha d hd
  · exact hb d hd
theorem atxt_rowy {a : At} (ok : AtOk 50 a) : Rowy (atxt a) := by
  intro d hd
  rw [atxt_tl] at hd
  rcases List.mem_append.mp hd with hd | hd
  · have := ok.nm.low d hd; omega
  · obtain ⟨t, ht, hd⟩ := List.mem_flatMap.mp hd
    rcases List.mem_cons.mp hd with rfl | hd
    · omega
    · have := txt_low t (ok.sm t ht).1 d hd; omega
theorem btxt_rowy : ∀ {as : List At}, (∀ a ∈ as, AtOk 50 a) → Rowy (btxt as)
  | [], _ => fun d hd => by
    have e : tl (btxt []) = [] := by decide +kernel
    rw [e] at hd; simp at hd
  | [a], ok => by rw [btxt_one]; exact atxt_rowy (ok a (by simp))
  | a :: b :: l, ok => fun d hd => by
    rw [btxt_cons] at hd
    rcases List.mem_append.mp hd with hd | hd
    · rcases List.mem_append.mp hd with hd | hd
      · exact atxt_rowy (ok a (by simp)) d hd
      · simp at hd; omega
    · exact btxt_rowy (as := b :: l) (fun x hx => ok x (by simp at hx ⊢; exact .inr hx)) d hd
theorem rowy_of {x : Str} {l : List Nat} (e : tl x = l) (h : ∀ d ∈ l, 32 ≤ d) : Rowy x := fun d hd => h d (by rw [← e]; exact hd)
theorem sytxt_rowy {s : Sy} (ok : SyOk s) : Rowy (sytxt s) := by
  unfold sytxt
  split
  · exact rowy_app (rowy_of t_bare (by decide)) (atxt_rowy ok.gl)
  · exact rowy_app (rowy_app (btxt_rowy ok.hs.ok) (rowy_of t_part (by decide))) (atxt_rowy ok.gl)
def spSayingText : Sp := fun vs H Q _ => ∃ (v : V) (s : Sy), vs = [v] ∧ SyAt H v s ∧ SyOk s ∧ ∀ H', Same H H' → Q (.str (sytxt s)) H'
def spSayingOr : Sp := fun vs H Q _ => ∃ s : Sy, vs = [.str (sytxt s)] ∧ SyOk s ∧ ∀ (v : V) (H' : Hp), SyAt H' v s → Same H H' → Q v H'
section
variable {P : Program} {w : World} {K : PySem.W.Frag} {mg : Str → Option Value} {base : Heap}
theorem scSayingText : FnScope ["saying", "hyps", "goal"] ["saying"] (defScope sSayingText) := ⟨rfl, rfl, rfl, by decide +kernel, rfl, by decide +kernel, by decide +kernel⟩
theorem ok_sayingtext {f fA fB : Addr} {fd dA dB : FuncData} {t1 t2 : Tok} (F : Fun K "saying_text" "saying_text" sSayingText f fd)
    (GA : FnOk P w K mg base CX0 5 fA dA ["atom"] spAtomText) (kA : PySem.W.keepIn K (.ref fA) = true) (bA : Binds K dA ["atom"] []) (mA : mg "atom_text" = some (.ref fA))
    (GB : FnOk P w K mg base CX0 6 fB dB ["atoms"] spAtomsText) (kB : PySem.W.keepIn K (.ref fB) = true) (bB : Binds K dB ["atoms"] []) (mB : mg "atoms_text" = some (.ref fB))
    (mBare : mg "BARE" = some (.str "|- " t1)) (mPart : mg "PARTING" = some (.str " |- " t2)) : FnOk P w K mg base CX0 7 f fd ["saying"] spSayingText := by
  refine F.ok scSayingText (fun vs H Q E h => ?_) (fun cdv A outer s H vs Q E hr h => ?_)
  · obtain ⟨v, s, rfl, _⟩ := h
    rfl
  obtain ⟨v, s, rfl, ⟨p, q, vg, xs, rfl, hp, hq, A1, Ag⟩, ok, fin⟩ := h
  have r5 : Room 5 _ := hr.mono (by decide)
  refine ⟨_, pss_cons (ps_asg (pv 0) (pg_tup (by rfl) (pgs_cons (pg_name (i := 1) scSayingText.nd rfl (Or.inl rfl)) (pgs_cons (pg_name (i := 2) scSayingText.nd rfl (Or.inl rfl)) pgs_nil))))
    (pss_cons (ps_if (pt_not (pt_truth (pv 1) (by intro _; rfl))) (pss_one (ps_ret (pe_op op_add_str (pe_glob (v := .str "|- ") (by rfl) mBare ⟨_, rfl⟩) (pe_call GA r5 rfl mA kA bA .nil pass0 (pa_cons (pv 2) pa_nil))))) pss_nil)
    (pss_one (ps_ret (pe_op op_add_str (pe_op op_add_str (pe_call GB hr rfl mB kB bB .nil pass0 (pa_cons (pv 1) pa_nil)) (pe_glob (v := .str " |- ") (by rfl) mPart ⟨_, rfl⟩)) (pe_call GA r5 rfl mA kA bA .nil pass0 (pa_cons (pv 2) pa_nil)))))), ?_⟩
  have big : (10000 : Nat) ≤ sizeLine := by decide
  have xl := A1.len
  have hl := atxt_len ok.gl
  have bl := btxt_len ok.hs
  refine ⟨_, rfl, p, _, rfl, .inl (.inl hp), rfl, _, _, rfl, _, _, rfl, rfl, ?_⟩
  refine ⟨_, rfl, _, .inr (.inl ⟨_, .inl (.inl hq), rfl⟩), ?_⟩
  by_cases e : s.hs = []
  · obtain rfl : xs = [] := List.length_eq_zero_iff.mp (by rw [xl, e]; rfl)
    refine iteT ⟨_, rfl, vg, s.gl, rfl, Ag, ok.gl, fun H1 s1 => ⟨_, _, rfl, rfl, by rw [l_bare]; omega, ?_⟩⟩
    rw [← sytxt_bare e]
    exact fin H1 s1
  · obtain ⟨x0, xs0, rfl⟩ : ∃ x0 xs0, xs = x0 :: xs0 := by
      cases xs with
      | nil => exact absurd (List.length_eq_zero_iff.mp (by rw [← xl]; rfl)) e
      | cons x0 xs0 => exact ⟨x0, xs0, rfl⟩
    refine iteF ⟨_, rfl, q, _, s.hs, rfl, hq, A1, ok.hs, fun H1 s1 => ⟨_, _, rfl, rfl, by rw [l_part]; omega, ?_⟩⟩
    refine ⟨_, rfl, vg, s.gl, rfl, atAt_same Ag s1, ok.gl, fun H2 s2 => ⟨_, _, rfl, rfl, by rw [slen, l_part]; omega, ?_⟩⟩
    rw [← sytxt_some e]
    exact fin H2 (s1.trans s2)
theorem scSayingOr : FnScope ["text", "saying", "hyps", "_", "goal"] ["text"] (defScope sSayingOr) := ⟨rfl, rfl, rfl, by decide +kernel, rfl, by decide +kernel, by decide +kernel⟩
theorem ok_sayingor {f fA fB fI : Addr} {fd dA dB dI : FuncData} {t1 t2 : Tok} (F : Fun K "saying_or_none" "saying_or_none" sSayingOr f fd)
    (GA : FnOk P w K mg base CX0 6 fA dA ["text"] spAtomOr) (kA : PySem.W.keepIn K (.ref fA) = true) (bA : Binds K dA ["text"] []) (mA : mg "atom_or_none" = some (.ref fA))
    (GB : FnOk P w K mg base CX0 7 fB dB ["text"] spAtomsOr) (kB : PySem.W.keepIn K (.ref fB) = true) (bB : Binds K dB ["text"] []) (mB : mg "atoms_or_nones" = some (.ref fB))
    (GI : FnOk P w K mg base CX0 5 fI dI ["thing"] spIsSaying) (kI : PySem.W.keepIn K (.ref fI) = true) (bI : Binds K dI ["thing"] []) (mI : mg "is_saying" = some (.ref fI))
    (mBare : mg "BARE" = some (.str "|- " t1)) (mPart : mg "PARTING" = some (.str " |- " t2)) (mLen : mg "len" = none) : FnOk P w K mg base CX0 8 f fd ["text"] spSayingOr := by
  refine F.ok scSayingOr (fun vs H Q E h => ?_) (fun cdv A outer s H vs Q E hr h => ?_)
  · obtain ⟨s, rfl, _⟩ := h
    rfl
  obtain ⟨s, rfl, ok, fin⟩ := h
  have r5 : Room 5 _ := hr.mono (by decide)
  have r6 : Room 6 _ := hr.mono (by decide)
  refine ⟨_, pss_cons (ps_if (pt_val (pe_bm PySem.F.plainAttrs_str PySem.F.slot_str_startswith PySem.F.type_str_startswith mt_startswith (pv 0) (pa_cons (pe_glob (v := .str "|- ") (by rfl) mBare ⟨_, rfl⟩) pa_nil)))
      (pss_one (ps_set (i := 1) scSayingOr.nd rfl (Or.inl rfl) (pe_tup (pa_cons (pe_tup pa_nil) (pa_cons (pe_call GA r6 rfl mA kA bA .nil pass0 (pa_cons (pe_slice sl_str (pv 0) (po_some (pe_callB call_len_str (by rfl) mLen PySem.boot_len (pa_cons (pe_glob (v := .str "|- ") (by rfl) mBare ⟨_, rfl⟩) pa_nil))) po_none) pa_nil)) pa_nil)))))
      (pss_cons (ps_asg (pe_partition (pv 0) (pe_glob (v := .str " |- ") (by rfl) mPart ⟨_, rfl⟩)) (pg_tup (by rfl) (pgs_cons (pg_name (i := 2) scSayingOr.nd rfl (Or.inl rfl)) (pgs_cons (pg_name (i := 3) scSayingOr.nd rfl (Or.inl rfl)) (pgs_cons (pg_name (i := 4) scSayingOr.nd rfl (Or.inl rfl)) pgs_nil)))))
      (pss_one (ps_set (i := 1) scSayingOr.nd rfl (Or.inl rfl) (pe_tup (pa_cons (pe_call GB hr rfl mB kB bB .nil pass0 (pa_cons (pv 2) pa_nil)) (pa_cons (pe_call GA r6 rfl mA kA bA .nil pass0 (pa_cons (pv 4) pa_nil)) pa_nil)))))))
    (pss_one (ps_ret (pe_ifExp (pt_val (pe_call GI r5 rfl mI kI bI .nil pass0 (pa_cons (pv 1) pa_nil))) (pv 1) pe_non))), ?_⟩
  have big : (10000 : Nat) ≤ sizeLine := by decide
  have sl := sytxt_len ok
  refine ⟨_, rfl, rfl, _, _, rfl, rfl, decide (s.hs = []), by rw [sytxt_starts ok], ?_⟩
  by_cases e : s.hs = []
  · rw [decide_eq_true e]
    refine iteT ⟨(by show 0 ≤ sizeLine; decide), fun b hb => ?_⟩
    have s1 := same_new hb (.tup ([] : List V))
    refine ⟨_, rfl, _, rfl, by rw [l_bare]; omega, _, rfl, sytxt s, rfl, by omega, ?_⟩
    rw [sytxt_bare e, cutS_app]
    refine ⟨s.gl, rfl, ok.gl, fun v H2 T s2 => ⟨(by show 2 ≤ sizeLine; decide), fun c hc => ?_⟩⟩
    have s3 := same_new hc (.tup [V.ref b, v])
    have S3 : SyAt (upd H2 c (.tup [V.ref b, v])) (.ref c) s := ⟨c, b, v, [], rfl, upd_same, s3 _ _ (s2 _ _ upd_same), by rw [e]; trivial, atAt_same T s3⟩
    exact ⟨_, rfl, _, s, rfl, S3, ok, fun H4 s4 => ⟨true, rfl, iteT ⟨_, rfl, fin _ H4 (S3.same s4) (s1.trans (s2.trans (s3.trans s4)))⟩⟩⟩
  · rw [decide_eq_false e]
    refine iteF ?_
    refine ⟨_, rfl, ⟨_, rfl⟩, sytxt s, " |- ", rfl, rfl, by decide +kernel, by omega, fun g hg => ?_⟩
    rw [sytxt_parts ok e]
    have s1 := same_new hg (.tup [V.str (btxt s.hs), .str (" |- " : Str), .str (atxt s.gl)])
    refine ⟨g, _, rfl, .inl (.inl upd_same), rfl, _, _, rfl, _, _, rfl, _, _, rfl, rfl, ?_⟩
    refine ⟨_, rfl, s.hs, rfl, ok.hs, e, fun b xs H2 hb A2 s2 => ?_⟩
    refine ⟨_, rfl, s.gl, rfl, ok.gl, fun v H3 T s3 => ⟨(by show 2 ≤ sizeLine; decide), fun c hc => ?_⟩⟩
    have s4 := same_new hc (.tup [V.ref b, v])
    have S4 : SyAt (upd H3 c (.tup [V.ref b, v])) (.ref c) s := ⟨c, b, v, xs, rfl, upd_same, s4 _ _ (s3 _ _ hb), (A2.same s3).same s4, atAt_same T s4⟩
    exact ⟨_, rfl, _, s, rfl, S4, ok, fun H5 s5 => ⟨true, rfl, iteT ⟨_, rfl, fin _ H5 (S4.same s5) (s1.trans (s2.trans (s3.trans (s4.trans s5))))⟩⟩⟩
end
end Rp

set_option maxHeartbeats 16000000
/-! STEPs. -/
namespace Rp
open PySem PySem.Spec PyProof.Rows L2 TL StX
inductive St where
  | by_
  | spl (k : Nat)
  | use (k : Nat)
  | bck (l : Nat) (b : Prs)
  | cut (a : At)
  | asy (s : Sy) (b : Prs)
  | len (x : Str) (b : Prs)
namespace St
def word : St → Str
  | by_ => "by" | spl _ => "split" | use _ => "use" | bck _ _ => "back" | cut _ => "cut" | asy _ _ => "as" | len _ _ => "lean"
end St
def PtAt (H : Hp) : St → List V → Prop
  | .by_, ys => ys = []
  | .spl k, ys => ys = [.int k]
  | .use k, ys => ys = [.int k]
  | .bck l b, ys => ∃ vb, ys = [.int l, vb] ∧ BiAt H vb b
  | .cut a, ys => ∃ va, ys = [va] ∧ AtAt H va a
  | .asy s b, ys => ∃ v vb, ys = [v, vb] ∧ SyAt H v s ∧ BiAt H vb b
  | .len x b, ys => ∃ vb, ys = [.str x, vb] ∧ BiAt H vb b
def StAt (H : Hp) (v : V) (st : St) : Prop := ∃ (p : Addr) (ys : List V), v = .ref p ∧ H p = some (.tup (.str st.word :: ys)) ∧ PtAt H st ys
def StOk : St → Prop
  | .by_ => True
  | .spl k => k ≤ 9999999999
  | .use k => k ≤ 9999999999
  | .bck l b => l ≤ 9999999999 ∧ PrOk b
  | .cut a => AtOk 50 a
  | .asy s b => SyOk s ∧ PrOk b
  | .len x b => NameOk x ∧ PrOk b
theorem biAt_mono {H H' : Hp} (e : ∀ a xs, H a = some (.tup xs) → H' a = some (.tup xs)) {v : V} {b : Prs} (h : BiAt H v b) : BiAt H' v b := by
  obtain ⟨a, xs, rfl, h1, h2⟩ := h
  exact ⟨a, xs, rfl, e _ _ h1, h2.mono e⟩
theorem biAt_same {H H' : Hp} {v : V} {b : Prs} (h : BiAt H v b) (s : Same H H') : BiAt H' v b := biAt_mono (fun a xs z => s _ _ z) h
theorem ptAt_mono {H H' : Hp} (e : ∀ a xs, H a = some (.tup xs) → H' a = some (.tup xs)) : ∀ {st : St} {ys : List V}, PtAt H st ys → PtAt H' st ys
  | .by_, _, h => h
  | .spl _, _, h => h
  | .use _, _, h => h
  | .bck _ _, _, ⟨vb, e1, e2⟩ => ⟨vb, e1, biAt_mono e e2⟩
  | .cut _, _, ⟨va, e1, e2⟩ => ⟨va, e1, atAt_mono e e2⟩
  | .asy _ _, _, ⟨v, vb, e1, e2, e3⟩ => ⟨v, vb, e1, syAt_mono e e2, biAt_mono e e3⟩
  | .len _ _, _, ⟨vb, e1, e2⟩ => ⟨vb, e1, biAt_mono e e2⟩
theorem stAt_mono {H H' : Hp} (e : ∀ a xs, H a = some (.tup xs) → H' a = some (.tup xs)) {v : V} {st : St} (h : StAt H v st) : StAt H' v st := by
  obtain ⟨p, ys, rfl, h1, h2⟩ := h
  exact ⟨p, ys, rfl, e _ _ h1, ptAt_mono e h2⟩
theorem StAt.same {H H' : Hp} {v : V} {st : St} (h : StAt H v st) (s : Same H H') : StAt H' v st := stAt_mono (fun a xs z => s _ _ z) h
def spPlace : Sp := fun vs H Q _ => ∃ n : Int, vs = [.int n] ∧ 0 ≤ n ∧ Q (.bl true) H
def spIsStep : Sp := fun vs H Q _ => ∃ (v : V) (st : St), vs = [v] ∧ StAt H v st ∧ StOk st ∧ ∀ H', Same H H' → Q (.bl true) H'
theorem str_eqD {a b : Str} (h : a = b) : V.bl (decide (V.str a = V.str b)) = V.bl true := by rw [h]; exact congrArg V.bl (decide_eq_true rfl)
theorem str_neD {a b : Str} (h : a ≠ b) : V.bl (decide (V.str a = V.str b)) = V.bl false := congrArg V.bl (decide_eq_false fun z => h (V.str.inj z))
section
variable {P : Program} {w : World} {K : PySem.W.Frag} {mg : Str → Option Value} {base : Heap}
theorem scPlace : FnScope ["thing"] ["thing"] (defScope sPlace) := ⟨rfl, rfl, rfl, by decide +kernel, rfl, by decide +kernel, by decide +kernel⟩
theorem ok_place {f fN : Addr} {fd dN : FuncData} (F : Fun K "is_place" "is_place" sPlace f fd)
    (GN : FnOk P w K mg base CX0 1 fN dN ["thing"] spNumber) (kN : PySem.W.keepIn K (.ref fN) = true) (bN : Binds K dN ["thing"] []) (mN : mg "is_number" = some (.ref fN)) : FnOk P w K mg base CX0 2 f fd ["thing"] spPlace := by
  refine F.ok scPlace (fun vs H Q E h => ?_) (fun cdv A outer s H vs Q E hr h => ?_)
  · obtain ⟨n, rfl, _⟩ := h
    rfl
  obtain ⟨n, rfl, h0, q⟩ := h
  refine ⟨_, pss_one (ps_ret (pe_and (pe_call GN hr rfl mN kN bN .nil pass0 (pa_cons (pv 0) pa_nil)) (pe_one (pe_cmpR op_ge (pv 0) pe_int (nomark _))))), ?_⟩
  refine ⟨_, rfl, (0 : Nat), .int n, .int n, rfl, by unfold DAt; rfl, true, rfl, iteT ⟨_, rfl, _, _, rfl, rfl, ?_⟩⟩
  show Q (V.bl (decide ((0 : Int) ≤ n))) H
  rw [decide_eq_true h0]
  exact q
abbrev NIS : List Str := ["thing", "word", "parts", "first", "binding"]
theorem scIsStep : FnScope NIS ["thing"] (defScope sIsStep) := ⟨rfl, rfl, rfl, by decide +kernel, rfl, by decide +kernel, by decide +kernel⟩
theorem ok_isstep {f fA fP fB fS fN : Addr} {fd dA dP dB dS dN : FuncData} (F : Fun K "is_step" "is_step" sIsStep f fd)
    (GA : FnOk P w K mg base CX0 4 fA dA ["thing"] spIsAtom) (kA : PySem.W.keepIn K (.ref fA) = true) (bA : Binds K dA ["thing"] []) (mA : mg "is_atom" = some (.ref fA))
    (GP : FnOk P w K mg base CX0 2 fP dP ["thing"] spPlace) (kP : PySem.W.keepIn K (.ref fP) = true) (bP : Binds K dP ["thing"] []) (mP : mg "is_place" = some (.ref fP))
    (GB : FnOk P w K mg base CX0 5 fB dB ["thing"] spIsBi) (kB : PySem.W.keepIn K (.ref fB) = true) (bB : Binds K dB ["thing"] []) (mB : mg "is_binding" = some (.ref fB))
    (GS : FnOk P w K mg base CX0 5 fS dS ["thing"] spIsSaying) (kS : PySem.W.keepIn K (.ref fS) = true) (bS : Binds K dS ["thing"] []) (mS : mg "is_saying" = some (.ref fS))
    (GN : FnOk P w K mg base CX0 1 fN dN ["thing"] spIsName) (kN : PySem.W.keepIn K (.ref fN) = true) (bN : Binds K dN ["thing"] []) (mN : mg "is_name" = some (.ref fN)) (M : SameG mg) : FnOk P w K mg base CX0 6 f fd ["thing"] spIsStep := by
  refine F.ok scIsStep (fun vs H Q E h => ?_) (fun cdv A outer s H vs Q E hr h => ?_)
  · obtain ⟨v, st, rfl, _⟩ := h
    rfl
  obtain ⟨v, st, rfl, ⟨p, ys, rfl, hp, Pt⟩, ok, fin⟩ := h
  have r1 : Room 1 _ := hr.mono (by decide)
  have r2 : Room 2 _ := hr.mono (by decide)
  have r4 : Room 4 _ := hr.mono (by decide)
  refine ⟨_, pss_cons (ps_if (PW.pt (pw_or (pt_not (pt_val (pe_callB (id := "isinstance") call_isi (by rfl) M.isi (by decide +kernel) (pa_cons (pv 0) (pa_cons (pe_bltn (v := .ty "tuple") (by rfl) M.tuple (by decide +kernel) rfl) pa_nil)))))
      (pw_or1 (pt_not (pt_chain op_le op_le pe_int (pe_callB call_len_seq (by rfl) M.len PySem.boot_len (pa_cons (pv 0) pa_nil)) pe_int))))) (pss_one (ps_ret pe_bl)) pss_nil)
    (pss_cons (ps_asg (pv 0) (pg_starT rfl (pgs_cons (pg_name (i := 1) scIsStep.nd rfl (Or.inl rfl)) (pgs_star (pg_name (i := 2) scIsStep.nd rfl (Or.inl rfl)) pgs_nil))))
    (pss_cons (ps_if (pt_cmpR op_eq (pe_callB call_len_seq (by rfl) M.len PySem.boot_len (pa_cons (pv 2) pa_nil)) pe_int (nomark _)) (pss_one (ps_ret (pe_cmpR op_eq (pv 1) pe_str (nomark _)))) pss_nil)
    (pss_cons (ps_if (pt_cmpR op_eq (pe_callB call_len_seq (by rfl) M.len PySem.boot_len (pa_cons (pv 2) pa_nil)) pe_int (nomark _)) (pss_one (ps_ret (pe_ifExp (pt_cmpR op_eq (pv 1) pe_str (nomark _))
        (pe_call GA r4 rfl mA kA bA .nil pass0 (pa_cons (pe_ix ix_list (pv 2) pe_int (fun _ _ => rfl)) pa_nil))
        (pe_and (pe_cmpR op_in_seq (pv 1) (pe_tup (pa_cons pe_str (pa_cons pe_str pa_nil))) (by rfl)) (pe_one (pe_call GP r2 rfl mP kP bP .nil pass0 (pa_cons (pe_ix ix_list (pv 2) pe_int (fun _ _ => rfl)) pa_nil))))))) pss_nil)
    (pss_cons (ps_asg (pv 2) (pg_unl rfl (pgs_cons (pg_name (i := 3) scIsStep.nd rfl (Or.inl rfl)) (pgs_cons (pg_name (i := 4) scIsStep.nd rfl (Or.inl rfl)) pgs_nil))))
    (pss_cons (ps_if (pt_cmpR op_eq (pv 1) pe_str (nomark _)) (pss_one (ps_ret (pe_and (pe_call GP r2 rfl mP kP bP .nil pass0 (pa_cons (pv 3) pa_nil)) (pe_one (pe_call GB hr rfl mB kB bB .nil pass0 (pa_cons (pv 4) pa_nil)))))) pss_nil)
    (pss_cons (ps_if (pt_cmpR op_eq (pv 1) pe_str (nomark _)) (pss_one (ps_ret (pe_and (pe_call GS hr rfl mS kS bS .nil pass0 (pa_cons (pv 3) pa_nil)) (pe_one (pe_call GB hr rfl mB kB bB .nil pass0 (pa_cons (pv 4) pa_nil)))))) pss_nil)
    (pss_one (ps_ret (pe_and (pe_cmpR op_eq (pv 1) pe_str (nomark _)) (pe_and (pe_call GN r1 rfl mN kN bN .nil pass0 (pa_cons (pv 3) pa_nil)) (pe_one (pe_call GB hr rfl mB kB bB .nil pass0 (pa_cons (pv 4) pa_nil))))))))))))), ?_⟩
  have big : (10000 : Nat) ≤ sizeLine := by decide
  have yl : ys.length ≤ 2 := by
    cases st with
    | by_ => rw [show ys = [] from Pt]; simp
    | spl k => rw [show ys = [.int k] from Pt]; simp
    | use k => rw [show ys = [.int k] from Pt]; simp
    | bck l b => obtain ⟨vb, e, _⟩ := Pt; rw [e]; simp
    | cut a => obtain ⟨va, e, _⟩ := Pt; rw [e]; simp
    | asy s b => obtain ⟨v, vb, e, _⟩ := Pt; rw [e]; simp
    | len x b => obtain ⟨vb, e, _⟩ := Pt; rw [e]; simp
  refine ⟨_, rfl, _, _, _, _, true, rfl, .ty "tuple", .base (.tup hp), kit_ty (by decide +kernel), true, rfl, iteF ?_⟩
  have l2 : (((V.str st.word :: ys).length : Nat) : Int) = (ys.length : Nat) + 1 := by rw [List.length_cons]; omega
  refine ⟨_, rfl, p, _, rfl, .inr (.inl (.inl hp)), _, _, rfl, rfl, true, congrArg V.bl (decide_eq_true (by omega)), iteT ⟨_, _, rfl, rfl, true, congrArg V.bl (decide_eq_true (by omega)), iteF ?_⟩⟩
  refine ⟨_, rfl, p, .str st.word, ys, rfl, .inl (.inl hp), by omega, fun l hl => ⟨_, _, rfl, _, _, rfl, rfl, ?_⟩⟩
  have s1 := same_new hl (.lst ys)
  have hl1 : (upd H l (.lst ys)) l = some (.lst ys) := upd_same
  have Pt1 : PtAt (upd H l (.lst ys)) st ys := ptAt_mono (fun a xs z => s1 _ _ z) Pt
  generalize upd H l (.lst ys) = H1 at s1 hl1 Pt1 ⊢
  have fin1 : ∀ H', Same H1 H' → Q (.bl true) H' := fun H' s => fin H' (s1.trans s)
  have hl' : SqL K H1 l ys := .inl (.inl hl1)
  clear fin hp l2 Pt
  refine ⟨_, rfl, l, _, rfl, .inl hl', rfl, ?_⟩
  cases st with
  | by_ =>
    obtain rfl : ys = [] := Pt1
    exact ⟨true, rfl, iteT ⟨_, rfl, rfl, by show Q (V.bl (decide (V.str "by" = V.str "by"))) H1; rw [decide_eq_true rfl]; exact fin1 _ (Same.refl _)⟩⟩
  | spl k =>
    obtain rfl : ys = [.int k] := Pt1
    refine ⟨false, rfl, iteF ⟨_, rfl, l, _, rfl, .inl hl', rfl, true, rfl, iteT ⟨_, rfl, rfl, false, str_neD (by show ("split" : Str) ≠ "cut"; decide +kernel), iteF ?_⟩⟩⟩
    refine ⟨_, rfl, (by show 2 ≤ sizeLine; decide), fun g hg => ⟨g, _, rfl, .inr (.inl (.inl upd_same)), rfl, rfl, true, by show V.bl (inV (.str "split") [.str "split", .str "use"]) = V.bl true; decide +kernel, iteT ?_⟩⟩
    have s2 := same_new hg (.tup [V.str "split", V.str "use"])
    exact ⟨_, rfl, l, _, _, _, rfl, rfl, .inl (.inl (s2 _ _ hl1)), at_of (j := 0) rfl rfl, _, rfl, by omega, fin1 _ s2⟩
  | use k =>
    obtain rfl : ys = [.int k] := Pt1
    refine ⟨false, rfl, iteF ⟨_, rfl, l, _, rfl, .inl hl', rfl, true, rfl, iteT ⟨_, rfl, rfl, false, str_neD (by show ("use" : Str) ≠ "cut"; decide +kernel), iteF ?_⟩⟩⟩
    refine ⟨_, rfl, (by show 2 ≤ sizeLine; decide), fun g hg => ⟨g, _, rfl, .inr (.inl (.inl upd_same)), rfl, rfl, true, by show V.bl (inV (.str "use") [.str "split", .str "use"]) = V.bl true; decide +kernel, iteT ?_⟩⟩
    have s2 := same_new hg (.tup [V.str "split", V.str "use"])
    exact ⟨_, rfl, l, _, _, _, rfl, rfl, .inl (.inl (s2 _ _ hl1)), at_of (j := 0) rfl rfl, _, rfl, by omega, fin1 _ s2⟩
  | cut a =>
    obtain ⟨va, rfl, T⟩ := Pt1
    refine ⟨false, rfl, iteF ⟨_, rfl, l, _, rfl, .inl hl', rfl, true, rfl, iteT ⟨_, rfl, rfl, true, str_eqD rfl, iteT ?_⟩⟩⟩
    exact ⟨_, rfl, l, _, _, _, rfl, rfl, .inl (.inl hl1), at_of (j := 0) rfl rfl, va, a, rfl, T, ok, fun H2 s2 => fin1 _ s2⟩
  | bck k b =>
    obtain ⟨vb, rfl, Bb⟩ := Pt1
    refine ⟨false, rfl, iteF ⟨_, rfl, l, _, rfl, .inl hl', rfl, false, rfl, iteF ?_⟩⟩
    refine ⟨_, rfl, l, _, rfl, hl', rfl, _, _, rfl, _, _, rfl, rfl, ?_⟩
    refine ⟨_, rfl, rfl, true, str_eqD rfl, iteT ?_⟩
    exact ⟨_, rfl, _, rfl, by omega, true, rfl, iteT ⟨_, rfl, vb, b, rfl, Bb, ok.2, fun H2 s2 => fin1 _ s2⟩⟩
  | asy s b =>
    obtain ⟨v, vb, rfl, S, Bb⟩ := Pt1
    refine ⟨false, rfl, iteF ⟨_, rfl, l, _, rfl, .inl hl', rfl, false, rfl, iteF ?_⟩⟩
    refine ⟨_, rfl, l, _, rfl, hl', rfl, _, _, rfl, _, _, rfl, rfl, ?_⟩
    refine ⟨_, rfl, rfl, false, str_neD (by show ("as" : Str) ≠ "back"; decide +kernel), iteF ⟨_, rfl, rfl, true, str_eqD rfl, iteT ?_⟩⟩
    exact ⟨_, rfl, v, s, rfl, S, ok.1, fun H2 s2 => ⟨true, rfl, iteT ⟨_, rfl, vb, b, rfl, biAt_same Bb s2, ok.2, fun H3 s3 => fin1 _ (s2.trans s3)⟩⟩⟩
  | len x b =>
    obtain ⟨vb, rfl, Bb⟩ := Pt1
    refine ⟨false, rfl, iteF ⟨_, rfl, l, _, rfl, .inl hl', rfl, false, rfl, iteF ?_⟩⟩
    refine ⟨_, rfl, l, _, rfl, hl', rfl, _, _, rfl, _, _, rfl, rfl, ?_⟩
    refine ⟨_, rfl, rfl, false, str_neD (by show ("lean" : Str) ≠ "back"; decide +kernel), iteF ⟨_, rfl, rfl, false, str_neD (by show ("lean" : Str) ≠ "as"; decide +kernel), iteF ?_⟩⟩
    exact ⟨_, rfl, rfl, true, str_eqD rfl, iteT ⟨_, rfl, x, rfl, ok.1, fun H2 s2 => ⟨true, rfl, iteT ⟨_, rfl, vb, b, rfl, biAt_same Bb s2, ok.2, fun H3 s3 => fin1 _ (s2.trans s3)⟩⟩⟩⟩
end
end Rp

set_option maxHeartbeats 16000000
/-! STEPs' texts. -/
namespace Rp
open PySem PySem.Spec PyProof.Rows L2 TL StX
def nt (k : Nat) : Str := Str.ofString (toString ((k : Nat) : Int))
theorem nt_tl (k : Nat) : tl (nt k) = numL k := tl_num k
theorem nt_len {k : Nat} (h : k ≤ 9999999999) : (nt k).length ≤ 10 := by
  rw [show (nt k).length = (tl (nt k)).length from len_tl _, nt_tl]
  exact numL_len (k := 10) (by decide) (by omega)
theorem nt_dec {k : Nat} : Txt.isdecimal (nt k) = true := by
  unfold Txt.isdecimal
  rw [Bool.and_eq_true]
  constructor
  · rw [decide_eq_true_iff, show (nt k).length = (tl (nt k)).length from len_tl _, nt_tl]
    exact List.length_pos_iff.mpr (numL_ne k)
  · rw [Array.all_eq_true']
    intro c hc
    have hc : c ∈ tl (nt k) := Array.mem_toList_iff.mpr hc
    rw [nt_tl] at hc
    have h := numL_small k c hc
    have all : ∀ j : Fin 10, Unicode.isDecimal (j.val + 48) = true := by decide +kernel
    have := all ⟨c - 48, by omega⟩
    rwa [show c - 48 + 48 = c by omega] at this
theorem nt_int {k : Nat} (h : k ≤ 9999999999) : intText? (nt k) = some (k : Int) := int_num (Nat.le_trans (numL_len (k := 10) (by decide) (by omega)) (by decide))
theorem nt_log {k : Nat} (h : k ≤ 9999999999) : ((k : Nat) : Int).natAbs.log2 < 1920 := by
  rw [Int.natAbs_natCast]
  by_cases h0 : k = 0
  · rw [h0]; decide
  · exact Nat.lt_of_lt_of_le ((Nat.log2_lt h0).mpr (show k < 2 ^ 40 by omega)) (by decide)
theorem nt_rowy (k : Nat) : Rowy (nt k) := fun d hd => by
  rw [nt_tl] at hd
  have := numL_small k d hd; omega
theorem nt_nosp (k : Nat) : 32 ∉ tl (nt k) := fun hd => by
  rw [nt_tl] at hd
  have := numL_small k _ hd; omega
theorem xn_rowy {n : Int} (h : 0 ≤ n) : Rowy (xn n) := fun d hd => by
  rw [xn_signs h] at hd
  rcases List.mem_cons.mp hd with rfl | hd
  · omega
  · have := numL_small _ _ hd; omega
theorem row_rowy {p : Int × Tm} (h : 0 ≤ p.1) (h' : p.2.small) : Rowy (row p) := by
  unfold row
  exact rowy_app (rowy_app (xn_rowy h) (rowy_of t_eq (by decide))) fun d hd => by have := txt_signs _ h' d hd; omega
theorem rows_rowy : ∀ {l : List Str}, (∀ x ∈ l, Rowy x) → Rowy (Txt.join " " l)
  | [], _ => fun d hd => by
    have e : tl (Txt.join " " []) = [] := by decide +kernel
    rw [e] at hd; simp at hd
  | x :: l, h => fun d hd => by
    rw [join_parts] at hd
    rcases List.mem_append.mp hd with hd | hd
    · exact h x (by simp) d hd
    · obtain ⟨y, hy, hd⟩ := List.mem_flatMap.mp hd
      rcases List.mem_cons.mp hd with rfl | hd
      · omega
      · exact h y (by simp [hy]) d hd
theorem bitxt_rowy {b : Prs} (ok : PrOk b) : Rowy (bitxt b) := by
  unfold bitxt
  split
  · have e : tl ("-" : Str) = [45] := by decide +kernel
    exact rowy_of e (by decide)
  · refine rows_rowy fun x hx => ?_
    obtain ⟨p, hp, rfl⟩ := List.mem_map.mp hx
    exact row_rowy (ok.num p hp).1 (ok.sm p hp)
theorem bitxt_len {b : Prs} (ok : PrOk b) : (bitxt b).length ≤ 4200 := by
  unfold bitxt
  split
  · have : ("-" : Str).length = 1 := by decide +kernel
    omega
  · have jl := StrLaws.join_length_le " " (b.map row)
    have l1 : (" " : Str).length = 1 := by decide +kernel
    rw [l1, List.length_map] at jl
    have h1 := rows_len (ps := b) fun p hp => row_len (ok.num p hp) (ok.sm p hp) (by have := ok.sz p hp; omega)
    have h2 := ok.few
    rw [TL.join_eq]
    omega
def rest : St → Str
  | .by_ => ""
  | .spl k => nt k
  | .use k => nt k
  | .bck l b => nt l ++ " " ++ bitxt b
  | .cut a => atxt a
  | .asy s b => sytxt s ++ " ; " ++ bitxt b
  | .len x b => x ++ " " ++ bitxt b
def stxt : St → Str
  | .by_ => "by"
  | .spl k => "split" ++ " " ++ nt k
  | .use k => "use" ++ " " ++ nt k
  | .bck l b => "back" ++ " " ++ nt l ++ " " ++ bitxt b
  | .cut a => "cut " ++ atxt a
  | .asy s b => "as " ++ sytxt s ++ " ; " ++ bitxt b
  | .len x b => "lean" ++ " " ++ x ++ " " ++ bitxt b
theorem stxt_rest {st : St} (h : st ≠ .by_) : stxt st = st.word ++ " " ++ rest st := by
  have app : ∀ a b c d e : Str, a ++ b ++ c ++ d ++ e = a ++ b ++ (c ++ d ++ e) := fun a b c d e => ext_tl (by simp only [tl_append, List.append_assoc])
  cases st with
  | by_ => exact absurd rfl h
  | spl k => rfl
  | use k => rfl
  | bck l b => exact app _ _ _ _ _
  | cut a =>
    show ("cut " : Str) ++ atxt a = ("cut" : Str) ++ " " ++ atxt a
    rw [show ("cut " : Str) = ("cut" : Str) ++ " " from by decide +kernel]
  | asy s b =>
    show ("as " : Str) ++ sytxt s ++ " ; " ++ bitxt b = ("as" : Str) ++ " " ++ (sytxt s ++ " ; " ++ bitxt b)
    rw [show ("as " : Str) = ("as" : Str) ++ " " from by decide +kernel, app]
  | len x b => exact app _ _ _ _ _
def words7 : List Str := ["by", "split", "use", "back", "cut", "as", "lean"]
theorem word_mem (st : St) : st.word ∈ words7 := by cases st <;> simp [St.word, words7]
theorem words_facts : ∀ w ∈ words7, 32 ∉ tl w ∧ (∀ d ∈ tl w, 32 ≤ d) ∧ w.length ≤ 5 := by decide +kernel
theorem word_nosp (st : St) : 32 ∉ tl st.word := (words_facts _ (word_mem st)).1
theorem word_rowy (st : St) : Rowy st.word := (words_facts _ (word_mem st)).2.1
theorem word_len (st : St) : st.word.length ≤ 5 := (words_facts _ (word_mem st)).2.2
theorem stxt_parts {st : St} (h : st ≠ .by_) : Txt.partition (stxt st) " " = (st.word, (" " : Str), rest st) := by
  rw [stxt_rest h]
  exact partition_app t_sp (word_nosp st)
theorem stxt_by {st : St} (h : st ≠ .by_) : stxt st ≠ "by" := by
  intro e
  have h1 := stxt_parts h
  rw [e] at h1
  have h2 : Txt.partition "by" " " = (("by" : Str), Str.empty, Str.empty) := by decide +kernel
  rw [h2] at h1
  have := congrArg (fun z => z.2.1) h1
  have ne : (Str.empty : Str) ≠ " " := by decide +kernel
  exact ne this
theorem name_rowy {x : Str} (h : NameOk x) : Rowy x := fun d hd => by have := h.low d hd; omega
theorem name_nosp {x : Str} (h : NameOk x) : 32 ∉ tl x := fun hd => by have := h.low _ hd; omega
theorem sp_rowy : Rowy (" " : Str) := rowy_of t_sp (by decide)
theorem rest_rowy : ∀ {st : St}, StOk st → Rowy (rest st)
  | .by_, _ => fun d hd => by
    have e : tl ("" : Str) = [] := by decide +kernel
    have hd : d ∈ tl ("" : Str) := hd
    rw [e] at hd; simp at hd
  | .spl k, _ => nt_rowy k
  | .use k, _ => nt_rowy k
  | .bck l b, ok => rowy_app (rowy_app (nt_rowy l) sp_rowy) (bitxt_rowy ok.2)
  | .cut a, ok => atxt_rowy ok
  | .asy s b, ok => rowy_app (rowy_app (sytxt_rowy ok.1) (rowy_of t_semi (by decide))) (bitxt_rowy ok.2)
  | .len x b, ok => rowy_app (rowy_app (name_rowy ok.1) sp_rowy) (bitxt_rowy ok.2)
theorem l_sp : (" " : Str).length = 1 := by decide +kernel
theorem l_semi : (" ; " : Str).length = 3 := by decide +kernel
theorem rest_len : ∀ {st : St}, StOk st → (rest st).length ≤ 8000
  | .by_, _ => by show ("" : Str).length ≤ 8000; decide +kernel
  | .spl k, ok => Nat.le_trans (nt_len ok) (by decide)
  | .use k, ok => Nat.le_trans (nt_len ok) (by decide)
  | .bck l b, ok => by
    show (nt l ++ " " ++ bitxt b).length ≤ 8000
    have h1 := nt_len ok.1
    have h2 := bitxt_len ok.2
    rw [slen, slen, l_sp]; omega
  | .cut a, ok => Nat.le_trans (atxt_len ok) (by decide)
  | .asy s b, ok => by
    show (sytxt s ++ " ; " ++ bitxt b).length ≤ 8000
    have h1 := sytxt_len ok.1
    have h2 := bitxt_len ok.2
    rw [slen, slen, l_semi]; omega
  | .len x b, ok => by
    show (x ++ " " ++ bitxt b).length ≤ 8000
    have h1 := ok.1.few
    have h2 := bitxt_len ok.2
    rw [slen, slen, l_sp]; omega
theorem stxt_len {st : St} (ok : StOk st) : (stxt st).length ≤ 8010 := by
  by_cases h : st = .by_
  · subst h
    show ("by" : Str).length ≤ 8010
    decide +kernel
  · rw [stxt_rest h, slen, slen, l_sp]
    have := rest_len ok
    have := word_len st
    omega
theorem stxt_rowy {st : St} (ok : StOk st) : Rowy (stxt st) := by
  by_cases h : st = .by_
  · subst h
    show ∀ d ∈ tl ("by" : Str), 32 ≤ d
    decide +kernel
  · rw [stxt_rest h]
    exact rowy_app (rowy_app (word_rowy st) sp_rowy) (rest_rowy ok)
def spStepText : Sp := fun vs H Q _ => ∃ (v : V) (st : St), vs = [v] ∧ StAt H v st ∧ StOk st ∧ ∀ H', Same H H' → Q (.str (stxt st)) H'
def spNumberOr : Sp := fun vs H Q _ => ∃ k : Nat, vs = [.str (nt k)] ∧ k ≤ 9999999999 ∧ Q (.int k) H
def spPartsC : Sp := fun vs H Q _ => ∃ st : St, vs = [.str st.word, .str (rest st)] ∧ st ≠ .by_ ∧ StOk st ∧ ∀ (p : Addr) (ys : List V) (H' : Hp), H' p = some (.lst ys) → PtAt H' st ys → Same H H' → Q (.ref p) H'
def spStepOr : Sp := fun vs H Q _ => ∃ st : St, vs = [.str (stxt st)] ∧ StOk st ∧ ∀ (v : V) (H' : Hp), StAt H' v st → Same H H' → Q v H'
section
variable {P : Program} {w : World} {K : PySem.W.Frag} {mg : Str → Option Value} {base : Heap}
theorem scNumberOr : FnScope ["text", "number"] ["text"] (defScope sNumberOr) := ⟨rfl, rfl, rfl, by decide +kernel, rfl, by decide +kernel, by decide +kernel⟩
theorem ok_numberor {f : Addr} {fd : FuncData} {t3 : Tok} (F : Fun K "number_or_none" "number_or_none" sNumberOr f fd) (mMost : mg "MOST_FIGURES" = some (.int 100 t3)) (M : SameG mg) : FnOk P w K mg base CX0 1 f fd ["text"] spNumberOr := by
  refine F.ok scNumberOr (fun vs H Q E h => ?_) (fun cdv A outer s H vs Q E hr h => ?_)
  · obtain ⟨k, rfl, _⟩ := h
    rfl
  obtain ⟨k, rfl, hk, q⟩ := h
  refine ⟨_, pss_cons (ps_if (PW.pt (pw_or (pt_not (pt_val (pe_bm0 PySem.F.plainAttrs_str PySem.F.slot_str_isdecimal PySem.F.type_str_isdecimal mt_isdecimal (pv 0))))
      (pw_or1 (pt_cmpR op_gt (pe_callB call_len_str (by rfl) M.len PySem.boot_len (pa_cons (pv 0) pa_nil)) (pe_glob (v := .int 100) (by rfl) mMost ⟨_, rfl⟩) (nomark _))))) (pss_one (ps_ret pe_non)) pss_nil)
    (pss_cons (ps_set (i := 1) scNumberOr.nd rfl (Or.inl rfl) (pe_callTy call_int_str (by rfl) M.int (by decide +kernel) (pa_cons (pv 0) pa_nil)))
    (pss_one (ps_ret (pe_ifExp (pt_cmpR op_eq (pe_callTy call_str_int (by rfl) M.str (by decide +kernel) (pa_cons (pv 1) pa_nil)) (pv 0) (nomark _)) (pv 1) pe_non)))), ?_⟩
  have big : (10000 : Nat) ≤ sizeLine := by decide
  have l := nt_len hk
  refine ⟨_, rfl, rfl, _, rfl, rfl, trivial, true, congrArg V.bl nt_dec, iteF ?_⟩
  refine ⟨_, rfl, nt k, rfl, by omega, _, _, rfl, rfl, false, congrArg V.bl (decide_eq_false (by omega)), iteF ?_⟩
  refine ⟨_, rfl, nt k, (k : Int), rfl, nt_int hk, by omega, ?_⟩
  exact ⟨_, rfl, (k : Int), rfl, nt_log hk, _, rfl, rfl, true, str_eqD rfl, iteT ⟨_, rfl, q⟩⟩
abbrev NST : List Str := ["step", "word", "parts"]
theorem scStepText : FnScope NST ["step"] (defScope sStepText) := ⟨rfl, rfl, rfl, by decide +kernel, rfl, by decide +kernel, by decide +kernel⟩
theorem ok_steptext {f fA fS fB : Addr} {fd dA dS dB : FuncData} (F : Fun K "step_text" "step_text" sStepText f fd)
    (GA : FnOk P w K mg base CX0 5 fA dA ["atom"] spAtomText) (kA : PySem.W.keepIn K (.ref fA) = true) (bA : Binds K dA ["atom"] []) (mA : mg "atom_text" = some (.ref fA))
    (GS : FnOk P w K mg base CX0 7 fS dS ["saying"] spSayingText) (kS : PySem.W.keepIn K (.ref fS) = true) (bS : Binds K dS ["saying"] []) (mS : mg "saying_text" = some (.ref fS))
    (GB : FnOk P w K mg base CX0 5 fB dB ["binding"] spBText) (kB : PySem.W.keepIn K (.ref fB) = true) (bB : Binds K dB ["binding"] []) (mB : mg "binding_text" = some (.ref fB)) : FnOk P w K mg base CX0 8 f fd ["step"] spStepText := by
  refine F.ok scStepText (fun vs H Q E h => ?_) (fun cdv A outer s H vs Q E hr h => ?_)
  · obtain ⟨v, st, rfl, _⟩ := h
    rfl
  obtain ⟨v, st, rfl, ⟨p, ys, rfl, hp, Pt⟩, ok, fin⟩ := h
  have r5 : Room 5 _ := hr.mono (by decide)
  refine ⟨_, pss_cons (ps_asg (pv 0) (pg_starT rfl (pgs_cons (pg_name (i := 1) scStepText.nd rfl (Or.inl rfl)) (pgs_star (pg_name (i := 2) scStepText.nd rfl (Or.inl rfl)) pgs_nil))))
    (pss_cons (ps_if (pt_cmpR op_in_seq (pv 1) (pe_tup (pa_cons pe_str (pa_cons pe_str pa_nil))) (by rfl))
      (pss_one (ps_ret (pe_joined (.cons (pe_fmt (pv 1)) (.cons pe_str (.cons (pe_fmt (pe_ix ix_list (pv 2) pe_int (fun _ _ => rfl))) .nil)))))) pss_nil)
    (pss_cons (ps_if (pt_cmpR op_in_seq (pv 1) (pe_tup (pa_cons pe_str (pa_cons pe_str pa_nil))) (by rfl))
      (pss_one (ps_ret (pe_joined (.cons (pe_fmt (pv 1)) (.cons pe_str (.cons (pe_fmt (pe_ix ix_list (pv 2) pe_int (fun _ _ => rfl))) (.cons pe_str (.cons (pe_fmt (pe_call GB r5 rfl mB kB bB .nil pass0 (pa_cons (pe_ix ix_list (pv 2) pe_int (fun _ _ => rfl)) pa_nil))) .nil)))))))) pss_nil)
    (pss_cons (ps_if (pt_cmpR op_eq (pv 1) pe_str (nomark _))
      (pss_one (ps_ret (pe_joined (.cons pe_str (.cons (pe_fmt (pe_call GA r5 rfl mA kA bA .nil pass0 (pa_cons (pe_ix ix_list (pv 2) pe_int (fun _ _ => rfl)) pa_nil))) .nil))))) pss_nil)
    (pss_cons (ps_if (pt_cmpR op_eq (pv 1) pe_str (nomark _))
      (pss_one (ps_ret (pe_joined (.cons pe_str (.cons (pe_fmt (pe_call GS hr rfl mS kS bS .nil pass0 (pa_cons (pe_ix ix_list (pv 2) pe_int (fun _ _ => rfl)) pa_nil))) (.cons pe_str (.cons (pe_fmt (pe_call GB r5 rfl mB kB bB .nil pass0 (pa_cons (pe_ix ix_list (pv 2) pe_int (fun _ _ => rfl)) pa_nil))) .nil))))))) pss_nil)
    (pss_one (ps_ret (pv 1))))))), ?_⟩
  have big : (10000 : Nat) ≤ sizeLine := by decide
  have yl : ys.length ≤ 2 := by
    cases st with
    | by_ => rw [show ys = [] from Pt]; simp
    | spl k => rw [show ys = [.int k] from Pt]; simp
    | use k => rw [show ys = [.int k] from Pt]; simp
    | bck l b => obtain ⟨vb, e, _⟩ := Pt; rw [e]; simp
    | cut a => obtain ⟨va, e, _⟩ := Pt; rw [e]; simp
    | asy s b => obtain ⟨v, vb, e, _⟩ := Pt; rw [e]; simp
    | len x b => obtain ⟨vb, e, _⟩ := Pt; rw [e]; simp
  refine ⟨_, rfl, p, .str st.word, ys, rfl, .inl (.inl hp), by omega, fun l hl => ⟨_, _, rfl, _, _, rfl, rfl, ?_⟩⟩
  have s1 := same_new hl (.lst ys)
  have hl1 : (upd H l (.lst ys)) l = some (.lst ys) := upd_same
  have Pt1 : PtAt (upd H l (.lst ys)) st ys := ptAt_mono (fun a xs z => s1 _ _ z) Pt
  generalize upd H l (.lst ys) = H1 at s1 hl1 Pt1 ⊢
  have fin1 : ∀ H', Same H1 H' → Q (.str (stxt st)) H' := fun H' s => fin H' (s1.trans s)
  have wl := word_len st
  clear fin hp Pt
  refine ⟨_, rfl, (by show 2 ≤ sizeLine; decide), fun g hg => ⟨g, _, rfl, .inr (.inl (.inl upd_same)), rfl, rfl, ?_⟩⟩
  have s2 := same_new hg (.tup [V.str "split", V.str "use"])
  have hl2 := s2 _ _ hl1
  have two : ∀ (H3 : Hp), Same H1 H3 → ∀ g2, H3 g2 = none → Same H1 (upd H3 g2 (.tup [V.str "back", V.str "lean"])) := fun H3 s3 g2 hg2 => s3.trans (same_new hg2 _)
  cases st with
  | spl k =>
    obtain rfl : ys = [.int k] := Pt1
    have nl := nt_len (show k ≤ 9999999999 from ok)
    have w5 : ("split" : Str).length = 5 := by decide +kernel
    refine ⟨true, by show V.bl (inV (.str "split") [.str "split", .str "use"]) = V.bl true; decide +kernel, iteT ?_⟩
    refine ⟨_, rfl, .inl ⟨_, rfl, by show ("split" : Str).length ≤ _; omega, _, rfl, ?_, _, rfl, ?_, _, rfl, l, _, _, _, rfl, rfl, .inl (.inl hl2), at_of (j := 0) rfl rfl, .inr ⟨_, rfl, nt_log ok, _, rfl, ?_, ?_⟩⟩⟩
    · show (Str.empty ++ ("split" : Str)).length ≤ _
      rw [Str.empty_append]; omega
    · show (Str.empty ++ ("split" : Str) ++ " ").length ≤ _
      rw [Str.empty_append, slen, l_sp]; omega
    · show (Str.empty ++ ("split" : Str) ++ " " ++ nt k).length ≤ _
      rw [Str.empty_append, slen, slen, l_sp]; omega
    · show Q (.str (Str.empty ++ ("split" : Str) ++ " " ++ nt k)) _
      rw [Str.empty_append]
      exact fin1 _ s2
  | use k =>
    obtain rfl : ys = [.int k] := Pt1
    have nl := nt_len (show k ≤ 9999999999 from ok)
    have w5 : ("use" : Str).length = 3 := by decide +kernel
    refine ⟨true, by show V.bl (inV (.str "use") [.str "split", .str "use"]) = V.bl true; decide +kernel, iteT ?_⟩
    refine ⟨_, rfl, .inl ⟨_, rfl, by show ("use" : Str).length ≤ _; omega, _, rfl, ?_, _, rfl, ?_, _, rfl, l, _, _, _, rfl, rfl, .inl (.inl hl2), at_of (j := 0) rfl rfl, .inr ⟨_, rfl, nt_log ok, _, rfl, ?_, ?_⟩⟩⟩
    · show (Str.empty ++ ("use" : Str)).length ≤ _
      rw [Str.empty_append]; omega
    · show (Str.empty ++ ("use" : Str) ++ " ").length ≤ _
      rw [Str.empty_append, slen, l_sp]; omega
    · show (Str.empty ++ ("use" : Str) ++ " " ++ nt k).length ≤ _
      rw [Str.empty_append, slen, slen, l_sp]; omega
    · show Q (.str (Str.empty ++ ("use" : Str) ++ " " ++ nt k)) _
      rw [Str.empty_append]
      exact fin1 _ s2
  | by_ =>
    refine ⟨false, by show V.bl (inV (.str "by") [.str "split", .str "use"]) = V.bl false; decide +kernel, iteF ?_⟩
    refine ⟨_, rfl, (by show 2 ≤ sizeLine; decide), fun g2 hg2 => ⟨g2, _, rfl, .inr (.inl (.inl upd_same)), rfl, rfl, false, by show V.bl (inV (.str "by") [.str "back", .str "lean"]) = V.bl false; decide +kernel, iteF ?_⟩⟩
    refine ⟨_, rfl, rfl, false, str_neD (by show ("by" : Str) ≠ "cut"; decide +kernel), iteF ⟨_, rfl, rfl, false, str_neD (by show ("by" : Str) ≠ "as"; decide +kernel), iteF ⟨_, rfl, ?_⟩⟩⟩
    exact fin1 _ (two _ s2 g2 hg2)
  | cut a =>
    obtain ⟨va, rfl, T⟩ := Pt1
    have al := atxt_len (show AtOk 50 a from ok)
    have w5 : ("cut " : Str).length = 4 := by decide +kernel
    refine ⟨false, by show V.bl (inV (.str "cut") [.str "split", .str "use"]) = V.bl false; decide +kernel, iteF ?_⟩
    refine ⟨_, rfl, (by show 2 ≤ sizeLine; decide), fun g2 hg2 => ⟨g2, _, rfl, .inr (.inl (.inl upd_same)), rfl, rfl, false, by show V.bl (inV (.str "cut") [.str "back", .str "lean"]) = V.bl false; decide +kernel, iteF ?_⟩⟩
    have s3 := two _ s2 g2 hg2
    refine ⟨_, rfl, rfl, true, str_eqD rfl, iteT ?_⟩
    refine ⟨_, rfl, ?_, _, rfl, l, _, _, _, rfl, rfl, .inl (.inl (s3 _ _ hl1)), at_of (j := 0) rfl rfl, va, a, rfl, atAt_same T s3, ok, fun H4 s4 => .inl ⟨_, rfl, by omega, _, rfl, ?_, ?_⟩⟩
    · rw [Str.empty_append]; omega
    · rw [Str.empty_append, slen]; omega
    · rw [Str.empty_append]
      exact fin1 _ (s3.trans s4)
  | bck k b =>
    obtain ⟨vb, rfl, Bb⟩ := Pt1
    have nl := nt_len ok.1
    have bl := bitxt_len ok.2
    have w5 : ("back" : Str).length = 4 := by decide +kernel
    refine ⟨false, by show V.bl (inV (.str "back") [.str "split", .str "use"]) = V.bl false; decide +kernel, iteF ?_⟩
    refine ⟨_, rfl, (by show 2 ≤ sizeLine; decide), fun g2 hg2 => ⟨g2, _, rfl, .inr (.inl (.inl upd_same)), rfl, rfl, true, by show V.bl (inV (.str "back") [.str "back", .str "lean"]) = V.bl true; decide +kernel, iteT ?_⟩⟩
    have s3 := two _ s2 g2 hg2
    refine ⟨_, rfl, .inl ⟨_, rfl, by show ("back" : Str).length ≤ _; omega, _, rfl, ?_, _, rfl, ?_, _, rfl, l, _, _, _, rfl, rfl, .inl (.inl (s3 _ _ hl1)), at_of (j := 0) rfl rfl, .inr ⟨_, rfl, nt_log ok.1, _, rfl, ?_, _, rfl, ?_, _, rfl, l, _, _, _, rfl, rfl, .inl (.inl (s3 _ _ hl1)), at_of (j := 1) rfl rfl, vb, b, rfl, biAt_same Bb s3, ok.2, fun H4 s4 => .inl ⟨_, rfl, by omega, _, rfl, ?_, ?_⟩⟩⟩⟩
    · show (Str.empty ++ ("back" : Str)).length ≤ _
      rw [Str.empty_append]; omega
    · show (Str.empty ++ ("back" : Str) ++ " ").length ≤ _
      rw [Str.empty_append, slen, l_sp]; omega
    · show (Str.empty ++ ("back" : Str) ++ " " ++ nt k).length ≤ _
      rw [Str.empty_append, slen, slen, l_sp]; omega
    · show (Str.empty ++ ("back" : Str) ++ " " ++ nt k ++ " ").length ≤ _
      rw [Str.empty_append, slen, slen, slen, l_sp]; omega
    · show (Str.empty ++ ("back" : Str) ++ " " ++ nt k ++ " " ++ bitxt b).length ≤ _
      rw [Str.empty_append, slen, slen, slen, slen, l_sp]; omega
    · show Q (.str (Str.empty ++ ("back" : Str) ++ " " ++ nt k ++ " " ++ bitxt b)) _
      rw [Str.empty_append]
      exact fin1 _ (s3.trans s4)
  | len x b =>
    obtain ⟨vb, rfl, Bb⟩ := Pt1
    have nl := ok.1.few
    have bl := bitxt_len ok.2
    have w5 : ("lean" : Str).length = 4 := by decide +kernel
    refine ⟨false, by show V.bl (inV (.str "lean") [.str "split", .str "use"]) = V.bl false; decide +kernel, iteF ?_⟩
    refine ⟨_, rfl, (by show 2 ≤ sizeLine; decide), fun g2 hg2 => ⟨g2, _, rfl, .inr (.inl (.inl upd_same)), rfl, rfl, true, by show V.bl (inV (.str "lean") [.str "back", .str "lean"]) = V.bl true; decide +kernel, iteT ?_⟩⟩
    have s3 := two _ s2 g2 hg2
    refine ⟨_, rfl, .inl ⟨_, rfl, by show ("lean" : Str).length ≤ _; omega, _, rfl, ?_, _, rfl, ?_, _, rfl, l, _, _, _, rfl, rfl, .inl (.inl (s3 _ _ hl1)), at_of (j := 0) rfl rfl, .inl ⟨_, rfl, by omega, _, rfl, ?_, _, rfl, ?_, _, rfl, l, _, _, _, rfl, rfl, .inl (.inl (s3 _ _ hl1)), at_of (j := 1) rfl rfl, vb, b, rfl, biAt_same Bb s3, ok.2, fun H4 s4 => .inl ⟨_, rfl, by omega, _, rfl, ?_, ?_⟩⟩⟩⟩
    · show (Str.empty ++ ("lean" : Str)).length ≤ _
      rw [Str.empty_append]; omega
    · show (Str.empty ++ ("lean" : Str) ++ " ").length ≤ _
      rw [Str.empty_append, slen, l_sp]; omega
    · show (Str.empty ++ ("lean" : Str) ++ " " ++ x).length ≤ _
      rw [Str.empty_append, slen, slen, l_sp]; omega
    · show (Str.empty ++ ("lean" : Str) ++ " " ++ x ++ " ").length ≤ _
      rw [Str.empty_append, slen, slen, slen, l_sp]; omega
    · show (Str.empty ++ ("lean" : Str) ++ " " ++ x ++ " " ++ bitxt b).length ≤ _
      rw [Str.empty_append, slen, slen, slen, slen, l_sp]; omega
    · show Q (.str (Str.empty ++ ("lean" : Str) ++ " " ++ x ++ " " ++ bitxt b)) _
      rw [Str.empty_append]
      exact fin1 _ (s3.trans s4)
  | asy s b =>
    obtain ⟨v, vb, rfl, S, Bb⟩ := Pt1
    have sl := sytxt_len ok.1
    have bl := bitxt_len ok.2
    have w5 : ("as " : Str).length = 3 := by decide +kernel
    refine ⟨false, by show V.bl (inV (.str "as") [.str "split", .str "use"]) = V.bl false; decide +kernel, iteF ?_⟩
    refine ⟨_, rfl, (by show 2 ≤ sizeLine; decide), fun g2 hg2 => ⟨g2, _, rfl, .inr (.inl (.inl upd_same)), rfl, rfl, false, by show V.bl (inV (.str "as") [.str "back", .str "lean"]) = V.bl false; decide +kernel, iteF ?_⟩⟩
    have s3 := two _ s2 g2 hg2
    refine ⟨_, rfl, rfl, false, str_neD (by show ("as" : Str) ≠ "cut"; decide +kernel), iteF ⟨_, rfl, rfl, true, str_eqD rfl, iteT ?_⟩⟩
    refine ⟨_, rfl, ?_, _, rfl, l, _, _, _, rfl, rfl, .inl (.inl (s3 _ _ hl1)), at_of (j := 0) rfl rfl, v, s, rfl, S.same s3, ok.1, fun H4 s4 => .inl ⟨_, rfl, by omega, _, rfl, ?_, _, rfl, ?_, _, rfl, l, _, _, _, rfl, rfl, .inl (.inl (s4 _ _ (s3 _ _ hl1))), at_of (j := 1) rfl rfl, vb, b, rfl, biAt_same Bb (s3.trans s4), ok.2, fun H5 s5 => .inl ⟨_, rfl, by omega, _, rfl, ?_, ?_⟩⟩⟩
    · rw [Str.empty_append]; omega
    · rw [Str.empty_append, slen]; omega
    · rw [Str.empty_append, slen, slen, l_semi]; omega
    · rw [Str.empty_append, slen, slen, slen, l_semi]; omega
    · rw [Str.empty_append]
      exact fin1 _ (s3.trans (s4.trans s5))
end
end Rp

set_option maxHeartbeats 16000000
/-! STEPs read, CHARTs' texts. -/
namespace Rp
open PySem PySem.Spec PyProof.Rows L2 TL StX
theorem semi_parts {s : Sy} {b : Prs} (ok : SyOk s) : Txt.partition (sytxt s ++ " ; " ++ bitxt b) " ; " = (sytxt s, (" ; " : Str), bitxt b) := partition_fol t_semi (sytxt_fol ok)
theorem nt_parts (k : Nat) (b : Prs) : Txt.partition (nt k ++ " " ++ bitxt b) " " = (nt k, (" " : Str), bitxt b) := partition_app t_sp (nt_nosp k)
theorem nm_parts {x : Str} (h : NameOk x) (b : Prs) : Txt.partition (x ++ " " ++ bitxt b) " " = (x, (" " : Str), bitxt b) := partition_app t_sp (name_nosp h)
section
variable {P : Program} {w : World} {K : PySem.W.Frag} {mg : Str → Option Value} {base : Heap}
abbrev NPC : List Str := ["word", "text", "saying", "_", "binding", "first"]
theorem scPartsC : FnScope NPC ["word", "text"] (defScope sPartsC) := ⟨rfl, rfl, rfl, by decide +kernel, rfl, by decide +kernel, by decide +kernel⟩
theorem ok_partsC {f fA fS fB fN : Addr} {fd dA dS dB dN : FuncData} (F : Fun K "_parts" "_parts" sPartsC f fd)
    (GA : FnOk P w K mg base CX0 6 fA dA ["text"] spAtomOr) (kA : PySem.W.keepIn K (.ref fA) = true) (bA : Binds K dA ["text"] []) (mA : mg "atom_or_none" = some (.ref fA))
    (GS : FnOk P w K mg base CX0 8 fS dS ["text"] spSayingOr) (kS : PySem.W.keepIn K (.ref fS) = true) (bS : Binds K dS ["text"] []) (mS : mg "saying_or_none" = some (.ref fS))
    (GB : FnOk P w K mg base CX0 7 fB dB ["text"] spBOr) (kB : PySem.W.keepIn K (.ref fB) = true) (bB : Binds K dB ["text"] []) (mB : mg "binding_or_none" = some (.ref fB))
    (GN : FnOk P w K mg base CX0 1 fN dN ["text"] spNumberOr) (kN : PySem.W.keepIn K (.ref fN) = true) (bN : Binds K dN ["text"] []) (mN : mg "number_or_none" = some (.ref fN)) : FnOk P w K mg base CX0 9 f fd ["word", "text"] spPartsC := by
  refine F.ok scPartsC (fun vs H Q E h => ?_) (fun cdv A outer s H vs Q E hr h => ?_)
  · obtain ⟨st, rfl, _⟩ := h
    rfl
  obtain ⟨st, rfl, nby, ok, fin⟩ := h
  have r1 : Room 1 _ := hr.mono (by decide)
  have r6 : Room 6 _ := hr.mono (by decide)
  have r7 : Room 7 _ := hr.mono (by decide)
  refine ⟨_, pss_cons (ps_if (pt_cmpR op_in_seq (pv 0) (pe_tup (pa_cons pe_str (pa_cons pe_str pa_nil))) (by rfl))
      (pss_one (ps_ret (pe_lst (pa_cons (pe_call GN r1 (by rfl) mN kN bN .nil pass0 (pa_cons (pv 1) pa_nil)) pa_nil)))) pss_nil)
    (pss_cons (ps_if (pt_cmpR op_eq (pv 0) pe_str (nomark _)) (pss_one (ps_ret (pe_lst (pa_cons (pe_call GA r6 (by rfl) mA kA bA .nil pass0 (pa_cons (pv 1) pa_nil)) pa_nil)))) pss_nil)
    (pss_cons (ps_if (pt_cmpR op_eq (pv 0) pe_str (nomark _))
      (pss_cons (ps_asg (pe_partition (pv 1) pe_str) (pg_tup (by rfl) (pgs_cons (pg_name (i := 2) scPartsC.nd rfl (Or.inl rfl)) (pgs_cons (pg_name (i := 3) scPartsC.nd rfl (Or.inl rfl)) (pgs_cons (pg_name (i := 4) scPartsC.nd rfl (Or.inl rfl)) pgs_nil)))))
      (pss_one (ps_ret (pe_lst (pa_cons (pe_call GS hr (by rfl) mS kS bS .nil pass0 (pa_cons (pv 2) pa_nil)) (pa_cons (pe_call GB r7 (by rfl) mB kB bB .nil pass0 (pa_cons (pv 4) pa_nil)) pa_nil)))))) pss_nil)
    (pss_cons (ps_asg (pe_partition (pv 1) pe_str) (pg_tup (by rfl) (pgs_cons (pg_name (i := 5) scPartsC.nd rfl (Or.inl rfl)) (pgs_cons (pg_name (i := 3) scPartsC.nd rfl (Or.inl rfl)) (pgs_cons (pg_name (i := 4) scPartsC.nd rfl (Or.inl rfl)) pgs_nil)))))
    (pss_one (ps_ret (pe_lst (pa_cons (pe_ifExp (pt_cmpR op_eq (pv 0) pe_str (nomark _)) (pe_call GN r1 (by rfl) mN kN bN .nil pass0 (pa_cons (pv 5) pa_nil)) (pv 5)) (pa_cons (pe_call GB r7 (by rfl) mB kB bB .nil pass0 (pa_cons (pv 4) pa_nil)) pa_nil)))))))), ?_⟩
  have big : (10000 : Nat) ≤ sizeLine := by decide
  have rl := rest_len ok
  refine ⟨_, rfl, (by show 2 ≤ sizeLine; decide), fun g hg => ⟨g, _, rfl, .inr (.inl (.inl upd_same)), rfl, rfl, ?_⟩⟩
  have s1 := same_new hg (.tup [V.str "split", V.str "use"])
  cases st with
  | by_ => exact absurd rfl nby
  | spl k =>
    refine ⟨true, by show V.bl (inV (.str "split") [.str "split", .str "use"]) = V.bl true; decide +kernel, iteT ?_⟩
    refine ⟨_, rfl, k, rfl, ok, (by show 1 ≤ sizeLine; decide), fun p hp => ?_⟩
    exact fin p _ _ upd_same rfl (s1.trans (same_new hp _))
  | use k =>
    refine ⟨true, by show V.bl (inV (.str "use") [.str "split", .str "use"]) = V.bl true; decide +kernel, iteT ?_⟩
    refine ⟨_, rfl, k, rfl, ok, (by show 1 ≤ sizeLine; decide), fun p hp => ?_⟩
    exact fin p _ _ upd_same rfl (s1.trans (same_new hp _))
  | cut a =>
    refine ⟨false, by show V.bl (inV (.str "cut") [.str "split", .str "use"]) = V.bl false; decide +kernel, iteF ?_⟩
    refine ⟨_, rfl, rfl, true, str_eqD rfl, iteT ?_⟩
    refine ⟨_, rfl, a, rfl, ok, fun v H2 T s2 => ⟨(by show 1 ≤ sizeLine; decide), fun p hp => ?_⟩⟩
    have s3 := same_new hp (.lst [v])
    exact fin p _ _ upd_same ⟨v, rfl, atAt_same T s3⟩ (s1.trans (s2.trans s3))
  | asy s b =>
    refine ⟨false, by show V.bl (inV (.str "as") [.str "split", .str "use"]) = V.bl false; decide +kernel, iteF ?_⟩
    refine ⟨_, rfl, rfl, false, str_neD (by show ("as" : Str) ≠ "cut"; decide +kernel), iteF ⟨_, rfl, rfl, true, str_eqD rfl, iteT ?_⟩⟩
    refine ⟨_, rfl, ⟨_, rfl⟩, sytxt s ++ " ; " ++ bitxt b, " ; ", rfl, rfl, by decide +kernel, Nat.le_trans rl (by decide), fun g2 hg2 => ?_⟩
    rw [semi_parts ok.1]
    have s2 := same_new hg2 (.tup [V.str (sytxt s), .str (" ; " : Str), .str (bitxt b)])
    refine ⟨g2, _, rfl, .inl (.inl upd_same), rfl, _, _, rfl, _, _, rfl, _, _, rfl, rfl, ?_⟩
    refine ⟨_, rfl, s, rfl, ok.1, fun v H3 S s3 => ?_⟩
    refine ⟨_, rfl, b, rfl, ok.2, fun vb H4 Bb s4 => ⟨(by show 2 ≤ sizeLine; decide), fun p hp => ?_⟩⟩
    have s5 := same_new hp (.lst [v, vb])
    exact fin p _ _ upd_same ⟨v, vb, rfl, S.same (s4.trans s5), biAt_same Bb s5⟩ (s1.trans (s2.trans (s3.trans (s4.trans s5))))
  | bck k b =>
    refine ⟨false, by show V.bl (inV (.str "back") [.str "split", .str "use"]) = V.bl false; decide +kernel, iteF ?_⟩
    refine ⟨_, rfl, rfl, false, str_neD (by show ("back" : Str) ≠ "cut"; decide +kernel), iteF ⟨_, rfl, rfl, false, str_neD (by show ("back" : Str) ≠ "as"; decide +kernel), iteF ?_⟩⟩
    refine ⟨_, rfl, ⟨_, rfl⟩, nt k ++ " " ++ bitxt b, " ", rfl, rfl, by decide +kernel, Nat.le_trans rl (by decide), fun g2 hg2 => ?_⟩
    rw [nt_parts]
    have s2 := same_new hg2 (.tup [V.str (nt k), .str (" " : Str), .str (bitxt b)])
    refine ⟨g2, _, rfl, .inl (.inl upd_same), rfl, _, _, rfl, _, _, rfl, _, _, rfl, rfl, ?_⟩
    refine ⟨_, rfl, rfl, true, str_eqD rfl, iteT ⟨_, rfl, k, rfl, ok.1, ?_⟩⟩
    refine ⟨_, rfl, b, rfl, ok.2, fun vb H4 Bb s4 => ⟨(by show 2 ≤ sizeLine; decide), fun p hp => ?_⟩⟩
    have s5 := same_new hp (.lst [V.int k, vb])
    exact fin p _ _ upd_same ⟨vb, rfl, biAt_same Bb s5⟩ (s1.trans (s2.trans (s4.trans s5)))
  | len x b =>
    refine ⟨false, by show V.bl (inV (.str "lean") [.str "split", .str "use"]) = V.bl false; decide +kernel, iteF ?_⟩
    refine ⟨_, rfl, rfl, false, str_neD (by show ("lean" : Str) ≠ "cut"; decide +kernel), iteF ⟨_, rfl, rfl, false, str_neD (by show ("lean" : Str) ≠ "as"; decide +kernel), iteF ?_⟩⟩
    refine ⟨_, rfl, ⟨_, rfl⟩, x ++ " " ++ bitxt b, " ", rfl, rfl, by decide +kernel, Nat.le_trans rl (by decide), fun g2 hg2 => ?_⟩
    rw [nm_parts ok.1]
    have s2 := same_new hg2 (.tup [V.str x, .str (" " : Str), .str (bitxt b)])
    refine ⟨g2, _, rfl, .inl (.inl upd_same), rfl, _, _, rfl, _, _, rfl, _, _, rfl, rfl, ?_⟩
    refine ⟨_, rfl, rfl, false, str_neD (by show ("lean" : Str) ≠ "back"; decide +kernel), iteF ⟨_, rfl, ?_⟩⟩
    refine ⟨_, rfl, b, rfl, ok.2, fun vb H4 Bb s4 => ⟨(by show 2 ≤ sizeLine; decide), fun p hp => ?_⟩⟩
    have s5 := same_new hp (.lst [V.str x, vb])
    exact fin p _ _ upd_same ⟨vb, rfl, biAt_same Bb s5⟩ (s1.trans (s2.trans (s4.trans s5)))
theorem ptAt_few {H : Hp} {st : St} {ys : List V} (h : PtAt H st ys) : ys.length ≤ 2 := by
  cases st with
  | by_ => rw [show ys = [] from h]; simp
  | spl k => rw [show ys = [.int k] from h]; simp
  | use k => rw [show ys = [.int k] from h]; simp
  | bck l b => obtain ⟨vb, e, _⟩ := h; rw [e]; simp
  | cut a => obtain ⟨va, e, _⟩ := h; rw [e]; simp
  | asy s b => obtain ⟨v, vb, e, _⟩ := h; rw [e]; simp
  | len x b => obtain ⟨vb, e, _⟩ := h; rw [e]; simp
abbrev NSO : List Str := ["text", "word", "_", "rest", "step"]
theorem scStepOr : FnScope NSO ["text"] (defScope sStepOr) := ⟨rfl, rfl, rfl, by decide +kernel, rfl, by decide +kernel, by decide +kernel⟩
theorem ok_stepor {f fP fI : Addr} {fd dP dI : FuncData} (F : Fun K "step_or_none" "step_or_none" sStepOr f fd)
    (GP : FnOk P w K mg base CX0 9 fP dP ["word", "text"] spPartsC) (kP : PySem.W.keepIn K (.ref fP) = true) (bP : Binds K dP ["word", "text"] []) (mP : mg "parts_charttexts" = some (.ref fP))
    (GI : FnOk P w K mg base CX0 6 fI dI ["thing"] spIsStep) (kI : PySem.W.keepIn K (.ref fI) = true) (bI : Binds K dI ["thing"] []) (mI : mg "is_step" = some (.ref fI)) : FnOk P w K mg base CX0 10 f fd ["text"] spStepOr := by
  refine F.ok scStepOr (fun vs H Q E h => ?_) (fun cdv A outer s H vs Q E hr h => ?_)
  · obtain ⟨st, rfl, _⟩ := h
    rfl
  obtain ⟨st, rfl, ok, fin⟩ := h
  have r6 : Room 6 _ := hr.mono (by decide)
  refine ⟨_, pss_cons (ps_if (pt_cmpR op_eq (pv 0) pe_str (nomark _)) (pss_one (ps_ret (pe_tup (pa_cons pe_str pa_nil)))) pss_nil)
    (pss_cons (ps_asg (pe_partition (pv 0) pe_str) (pg_tup (by rfl) (pgs_cons (pg_name (i := 1) scStepOr.nd rfl (Or.inl rfl)) (pgs_cons (pg_name (i := 2) scStepOr.nd rfl (Or.inl rfl)) (pgs_cons (pg_name (i := 3) scStepOr.nd rfl (Or.inl rfl)) pgs_nil)))))
    (pss_cons (ps_set (i := 4) scStepOr.nd rfl (Or.inl rfl) (pe_tup (pa_cons (pv 1) (pa_star (pe_call GP hr (by rfl) mP kP bP .nil pass0 (pa_cons (pv 1) (pa_cons (pv 3) pa_nil))) pa_nil))))
    (pss_one (ps_ret (pe_ifExp (pt_val (pe_call GI r6 (by rfl) mI kI bI .nil pass0 (pa_cons (pv 4) pa_nil))) (pv 4) pe_non))))), ?_⟩
  have big : (10000 : Nat) ≤ sizeLine := by decide
  have sl := stxt_len ok
  by_cases h : st = .by_
  · subst h
    refine ⟨_, rfl, rfl, true, str_eqD rfl, iteT ⟨(by show 1 ≤ sizeLine; decide), fun g hg => ?_⟩⟩
    exact fin _ _ ⟨g, [], rfl, upd_same, rfl⟩ (same_new hg _)
  · refine ⟨_, rfl, rfl, false, str_neD (stxt_by h), iteF ?_⟩
    refine ⟨_, rfl, ⟨_, rfl⟩, stxt st, " ", rfl, rfl, by decide +kernel, by omega, fun g hg => ?_⟩
    rw [stxt_parts h]
    have s1 := same_new hg (.tup [V.str st.word, .str (" " : Str), .str (rest st)])
    refine ⟨g, _, rfl, .inl (.inl upd_same), rfl, _, _, rfl, _, _, rfl, _, _, rfl, rfl, ?_⟩
    refine ⟨_, rfl, _, rfl, _, rfl, st, rfl, h, ok, fun p ys H2 hp Pt s2 => ?_⟩
    have yl := ptAt_few Pt
    refine ⟨p, ys, rfl, .inr (.inl (.inl hp)), by rw [List.length_cons, List.append_nil]; omega, fun c hc => ?_⟩
    rw [List.append_nil]
    have s3 := same_new hc (.tup (V.str st.word :: ys))
    have S3 : StAt (upd H2 c (.tup (V.str st.word :: ys))) (.ref c) st := ⟨c, ys, rfl, upd_same, ptAt_mono (fun a xs z => s3 _ _ z) Pt⟩
    exact ⟨_, rfl, _, st, rfl, S3, ok, fun H4 s4 => ⟨true, rfl, iteT ⟨_, rfl, fin _ H4 (S3.same s4) (s1.trans (s2.trans (s3.trans s4)))⟩⟩⟩
end
/-! CHARTs. -/
def StsAt (H : Hp) : List V → List St → Prop
  | [], [] => True
  | v :: xs, a :: as => StAt H v a ∧ StsAt H xs as
  | _, _ => False
theorem StsAt.len {H : Hp} : ∀ {xs : List V} {as : List St}, StsAt H xs as → xs.length = as.length
  | [], [], _ => rfl
  | _ :: _, _ :: _, h => congrArg (· + 1) (StsAt.len h.2)
theorem StsAt.mono {H H' : Hp} (e : ∀ a xs, H a = some (.tup xs) → H' a = some (.tup xs)) : ∀ {xs : List V} {as : List St}, StsAt H xs as → StsAt H' xs as
  | [], [], _ => trivial
  | _ :: _, _ :: _, h => ⟨stAt_mono e h.1, StsAt.mono e h.2⟩
theorem StsAt.same {H H' : Hp} {xs : List V} {as : List St} (h : StsAt H xs as) (s : Same H H') : StsAt H' xs as := h.mono fun a xs z => s _ _ z
theorem StsAt.get {H : Hp} : ∀ {xs : List V} {as : List St} {i : Nat} {x : V}, StsAt H xs as → xs[i]? = some x → ∃ a, as[i]? = some a ∧ StAt H x a
  | v :: xs, a :: as, 0, x, h, e => ⟨a, rfl, by have : v = x := by simpa using e
                                                subst this; exact h.1⟩
  | _ :: xs, _ :: as, i + 1, x, h, e => by simpa using StsAt.get h.2 (by simpa using e)
theorem StsAt.append {H : Hp} : ∀ {xs ys : List V} {as bs : List St}, StsAt H xs as → StsAt H ys bs → StsAt H (xs ++ ys) (as ++ bs)
  | [], _, [], _, _, h => h
  | _ :: xs, _, _ :: as, _, h, h' => ⟨h.1, StsAt.append h.2 h'⟩
structure Ch where
  sy : Sy
  sts : List St
def ChAt (H : Hp) (v : V) (c : Ch) : Prop := ∃ (p q : Addr) (vs : V) (xs : List V), v = .ref p ∧ H p = some (.tup [vs, .ref q]) ∧ SyAt H vs c.sy ∧ H q = some (.tup xs) ∧ StsAt H xs c.sts
structure ChOk (c : Ch) : Prop where
  sy : SyOk c.sy
  ok : ∀ st ∈ c.sts, StOk st
  few : c.sts.length ≤ 40
theorem chAt_mono {H H' : Hp} (e : ∀ a xs, H a = some (.tup xs) → H' a = some (.tup xs)) {v : V} {c : Ch} (h : ChAt H v c) : ChAt H' v c := by
  obtain ⟨p, q, vs, xs, rfl, h1, h2, h3, h4⟩ := h
  exact ⟨p, q, vs, xs, rfl, e _ _ h1, syAt_mono e h2, e _ _ h3, h4.mono e⟩
theorem ChAt.same {H H' : Hp} {v : V} {c : Ch} (h : ChAt H v c) (s : Same H H') : ChAt H' v c := chAt_mono (fun a xs z => s _ _ z) h
def chrows (c : Ch) : List Str := sytxt c.sy :: c.sts.map stxt
def chtxt (c : Ch) : Str := Txt.join "\n" (chrows c)
theorem t_nl : tl ("\n" : Str) = [10] := by decide +kernel
theorem l_nl : ("\n" : Str).length = 1 := by decide +kernel
theorem chtxt_split {c : Ch} (ok : ChOk c) : Txt.split (chtxt c) "\n" = chrows c := by
  refine split_join t_nl (by decide +kernel) (by simp [chrows]) fun p hp hd => ?_
  unfold chrows at hp
  rcases List.mem_cons.mp hp with rfl | hp
  · have := sytxt_rowy ok.sy _ hd; omega
  · obtain ⟨st, hst, rfl⟩ := List.mem_map.mp hp
    have := stxt_rowy (ok.ok st hst) _ hd; omega
theorem chrows_sum {c : Ch} (ok : ChOk c) : ((chrows c).map (·.length)).sum + (chrows c).length * 1 ≤ 400000 := by
  have h1 := sytxt_len ok.sy
  have each : ∀ l : List St, (∀ st ∈ l, StOk st) → ((l.map stxt).map (·.length)).sum ≤ 8010 * l.length := by
    intro l
    induction l with
    | nil => intro _; simp
    | cons a l ih =>
      intro h
      have h1 := stxt_len (h a (by simp))
      have h2 := ih fun b hb => h b (by simp [hb])
      simp only [List.map_cons, List.sum_cons, List.length_cons] at h2 ⊢
      omega
  have h2 := each c.sts ok.ok
  have h3 := ok.few
  unfold chrows
  simp only [List.map_cons, List.sum_cons, List.length_cons, List.length_map] at h2 ⊢
  omega
theorem chtxt_len {c : Ch} (ok : ChOk c) : (chtxt c).length ≤ 400000 := by
  have jl := StrLaws.join_length_le "\n" (chrows c)
  rw [l_nl] at jl
  have := chrows_sum ok
  unfold chtxt
  rw [TL.join_eq]
  omega
def spChartText : Sp := fun vs H Q _ => ∃ (v : V) (c : Ch), vs = [v] ∧ ChAt H v c ∧ ChOk c ∧ ∀ H', Same H H' → Q (.str (chtxt c)) H'
def spChartIn : Sp := fun vs H Q _ => ∃ c : Ch, vs = [.str (chtxt c)] ∧ ChOk c ∧ ∀ (v : V) (H' : Hp), ChAt H' v c → Same H H' → Q v H'
section
variable {P : Program} {w : World} {K : PySem.W.Frag} {mg : Str → Option Value} {base : Heap}
theorem scChartText : FnScope ["chart", "saying", "steps", "step"] ["chart"] (defScope sChartText) := ⟨rfl, rfl, rfl, by decide +kernel, rfl, by decide +kernel, by decide +kernel⟩
theorem ok_charttext {f fS fT : Addr} {fd dS dT : FuncData} (F : Fun K "chart_text" "chart_text" sChartText f fd)
    (GS : FnOk P w K mg base CX0 7 fS dS ["saying"] spSayingText) (kS : PySem.W.keepIn K (.ref fS) = true) (bS : Binds K dS ["saying"] []) (mS : mg "saying_text" = some (.ref fS))
    (GT : FnOk P w K mg base CX0 8 fT dT ["step"] spStepText) (kT : PySem.W.keepIn K (.ref fT) = true) (bT : Binds K dT ["step"] []) (mT : mg "step_text" = some (.ref fT)) : FnOk P w K mg base CX0 9 f fd ["chart"] spChartText := by
  refine F.ok scChartText (fun vs H Q E h => ?_) (fun cdv A outer s H vs Q E hr h => ?_)
  · obtain ⟨v, c, rfl, _⟩ := h
    rfl
  obtain ⟨v, c, rfl, ⟨p, q, vs, xs, rfl, hp, S, hq, A1⟩, ok, fin⟩ := h
  have r7 : Room 7 _ := hr.mono (by decide)
  refine ⟨_, pss_cons (ps_asg (pv 0) (pg_tup (by rfl) (pgs_cons (pg_name (i := 1) scChartText.nd rfl (Or.inl rfl)) (pgs_cons (pg_name (i := 2) scChartText.nd rfl (Or.inl rfl)) pgs_nil))))
    (pss_one (ps_ret (pe_bm PySem.F.plainAttrs_str PySem.F.slot_str_join PySem.F.type_str_join mt_join pe_str (pa_cons (pe_lst (pa_cons (pe_call GS r7 (by rfl) mS kS bS .nil pass0 (pa_cons (pv 1) pa_nil)) (pa_star
      (pe_lc (own := [("step", 3)]) (g := gName 3) (tt := tYes) (te := tCall spStepText [] E0 (tCons (tVar 3) tNil)) rfl scChartText.nd (pi_tup (pv 2)) (blkOk_by (N := ["chart", "saying", "steps", "step"]) (sc := defScope sChartText) (by decide +kernel)) (fun _ _ _ _ _ => pg_name (i := 3) scChartText.nd rfl (Or.inl rfl))
        (fun _ _ _ _ _ => pts_nil) (fun _ _ _ _ _ => pe_call GT hr (by rfl) mT kT bT .nil pass0 (pa_cons (pv 3) pa_nil))) pa_nil))) pa_nil)))), ?_⟩
  have big : (10000 : Nat) ≤ sizeLine := by decide
  have xl := A1.len
  have o40 := ok.few
  refine ⟨_, rfl, p, _, rfl, .inl (.inl hp), rfl, _, _, rfl, _, _, rfl, rfl, ?_⟩
  refine ⟨rfl, _, rfl, vs, c.sy, rfl, S, ok.sy, fun H1 s1 => ?_⟩
  have hq1 := s1 _ _ hq
  have A2 := A1.same s1
  refine ⟨_, rfl, q, rfl, ⟨_, .inl (.inl hq1)⟩, fun D hD => lc_tup (K := K) (a := q) (xs := xs) (fun i H2 => H2 D = some (.lst (((c.sts.take i).map stxt).map V.str)) ∧ Same H1 H2) ⟨upd_same, same_new hD _⟩ (fun i H2 _ h => .inl (.inl (h.2 _ _ hq1))) ?_ ?_⟩
  · rintro i x H2 hi ⟨h2, s3⟩
    obtain ⟨t, ht, T⟩ := A2.get hi
    have li : i < c.sts.length := (List.getElem?_eq_some_iff.mp ht).1
    refine ⟨rfl, ?_⟩
    refine ⟨_, rfl, x, t, rfl, T.same s3, ok.ok t (List.mem_of_getElem? ht), fun H3 s4 => ⟨_, s4 _ _ h2, ?_, ?_, ?_⟩⟩
    · rw [List.length_map, List.length_map, List.length_take]; omega
    · have tk : c.sts.take (i + 1) = c.sts.take i ++ [t] := by rw [List.take_add_one, ht]; rfl
      rw [upd_same, tk, List.map_append, List.map_append]; rfl
    · intro c o z
      rw [upd_ne (ne_of_none z hD)]
      exact s4 _ _ (s3 _ _ z)
  · rintro H2 ⟨h2, s3⟩
    rw [xl, List.take_length] at h2
    refine ⟨D, _, rfl, .inr (.inl (.inl h2)), ?_⟩
    have ps := chrows_sum ok
    have e : [V.str (sytxt c.sy)] ++ ((c.sts.map stxt).map V.str ++ []) = (chrows c).map V.str := by simp [chrows]
    refine ⟨?_, fun l hl => ?_⟩
    · simp; omega
    · have s4 := same_new hl (.lst ((chrows c).map V.str))
      refine ⟨"\n", l, chrows c, rfl, rfl, .inl (.inl (.inl ?_)), by rw [l_nl]; exact Nat.le_trans ps (by decide), ?_⟩
      · rw [upd_same]; simp [chrows]
      · exact fin _ (s1.trans (s3.trans (same_new hl _)))
abbrev NCI : List Str := ["text", "first", "rest", "rows", "k", "row"]
theorem scChartIn : FnScope NCI ["text"] (defScope sChartIn) := ⟨rfl, rfl, rfl, by decide +kernel, rfl, by decide +kernel, by decide +kernel⟩
theorem ok_chartin {f fS fT : Addr} {fd dS dT : FuncData} (F : Fun K "chart_in" "chart_in" sChartIn f fd)
    (GS : FnOk P w K mg base CX0 8 fS dS ["text"] spSayingOr) (kS : PySem.W.keepIn K (.ref fS) = true) (bS : Binds K dS ["text"] []) (mS : mg "saying_or_none" = some (.ref fS))
    (GT : FnOk P w K mg base CX0 10 fT dT ["text"] spStepOr) (kT : PySem.W.keepIn K (.ref fT) = true) (bT : Binds K dT ["text"] []) (mT : mg "step_or_none" = some (.ref fT)) (mEnum : mg "enumerate" = none) (mTuple : mg "tuple" = none) : FnOk P w K mg base CX0 11 f fd ["text"] spChartIn := by
  refine F.ok scChartIn (fun vs H Q E h => ?_) (fun cdv A outer s H vs Q E hr h => ?_)
  · obtain ⟨c, rfl, _⟩ := h
    rfl
  obtain ⟨c, rfl, ok, fin⟩ := h
  have r8 : Room 8 _ := hr.mono (by decide)
  refine ⟨_, pss_cons (ps_asg (pe_split (pv 0) pe_str) (pg_star rfl (pgs_cons (pg_name (i := 1) scChartIn.nd rfl (Or.inl rfl)) (pgs_star (pg_name (i := 2) scChartIn.nd rfl (Or.inl rfl)) pgs_nil))))
    (pss_cons (ps_set (i := 3) scChartIn.nd rfl (Or.inl rfl) (pe_lst (pa_cons (pe_call GS r8 (by rfl) mS kS bS .nil pass0 (pa_cons (pv 1) pa_nil)) (pa_star
      (pe_lc (own := [("row", 5)]) (g := gName 5) (tt := tYes) (te := tCall spStepOr [] E0 (tCons (tVar 5) tNil)) rfl scChartIn.nd (pi_list (pv 2)) (blkOk_by (N := NCI) (sc := defScope sChartIn) (by decide +kernel)) (fun _ _ _ _ _ => pg_name (i := 5) scChartIn.nd rfl (Or.inl rfl))
        (fun _ _ _ _ _ => pts_nil) (fun _ _ _ _ _ => pe_call GT hr (by rfl) mT kT bT .nil pass0 (pa_cons (pv 5) pa_nil))) pa_nil))))
    (pss_cons (ps_for PassesOwn.never rfl (pi_enum (by rfl) mEnum (pa_cons (pv 3) pa_nil)) (pg_tup (by rfl) (pgs_cons (pg_name (i := 4) scChartIn.nd rfl (Or.inl rfl)) (pgs_cons (pg_name (i := 5) scChartIn.nd rfl (Or.inl rfl)) pgs_nil)))
      (pss_one (ps_if (pt_cmpR op_isN (pv 5) pe_non (nomark _)) pss_never pss_nil)))
    (pss_one (ps_ret (pe_tup (pa_cons (pe_ix ix_list (pv 3) pe_int (fun _ _ => rfl)) (pa_cons (pe_callTy call_tuple_of (by rfl) mTuple (by decide +kernel) (pa_cons (pe_slice sl_list (pv 3) (po_some pe_int) po_none) pa_nil)) pa_nil))))))), ?_⟩
  have big : (400010 : Nat) ≤ sizeLine := by decide
  have cl := chtxt_len ok
  have o40 := ok.few
  refine ⟨_, rfl, ⟨_, rfl⟩, chtxt c, "\n", rfl, rfl, by decide +kernel, by omega, fun l hl => ?_⟩
  rw [chtxt_split ok]
  have s1 := same_new hl (.lst ((chrows c).map V.str))
  refine ⟨l, .str (sytxt c.sy), (c.sts.map stxt).map V.str, rfl, .inl (.inl upd_same), by simp; omega, fun p hp => ?_⟩
  have s2 := same_new hp (.lst ((c.sts.map stxt).map V.str))
  refine ⟨_, _, rfl, _, _, rfl, rfl, ?_⟩
  have hp2 : (upd (upd H l (.lst ((chrows c).map V.str))) p (.lst ((c.sts.map stxt).map V.str))) p = some (.lst ((c.sts.map stxt).map V.str)) := upd_same
  generalize upd (upd H l (.lst ((chrows c).map V.str))) p (.lst ((c.sts.map stxt).map V.str)) = H1 at s2 hp2 ⊢
  have s12 := s1.trans s2
  refine ⟨_, rfl, c.sy, rfl, ok.sy, fun vs H2 S2 s3 => ?_⟩
  have hp3 := s3 _ _ hp2
  refine ⟨_, rfl, p, rfl, ⟨_, .inl (.inl hp3)⟩, fun D hD => lc_list (K := K) (a := p) (xs := (c.sts.map stxt).map V.str) (fun i H3 => ∃ xs : List V, H3 D = some (.lst xs) ∧ StsAt H3 xs (c.sts.take i) ∧ Same H2 H3)
    ⟨[], upd_same, trivial, same_new hD _⟩ (fun i H3 _ ⟨_, _, _, h⟩ => .inl (.inl (h _ _ hp3))) ?_ ?_⟩
  · rintro i x H3 hi ⟨xs, h2, A2, s4⟩
    rw [List.map_map, List.getElem?_map] at hi
    obtain ⟨t, ht, rfl⟩ : ∃ t, c.sts[i]? = some t ∧ x = .str (stxt t) := by
      cases hq : c.sts[i]? with
      | none => rw [hq] at hi; cases hi
      | some t => rw [hq] at hi; exact ⟨t, rfl, by simpa using hi.symm⟩
    have xl := A2.len
    rw [List.length_take] at xl
    refine ⟨rfl, ?_⟩
    refine ⟨_, rfl, t, rfl, ok.ok t (List.mem_of_getElem? ht), fun v H4 T s5 => ?_⟩
    have h3 := s5 _ _ h2
    have keep : ∀ b zs, H4 b = some (.tup zs) → (upd H4 D (.lst (xs ++ [v]))) b = some (.tup zs) := fun b zs z => by rw [upd_ne (ne_of z h3 (by intro e; cases e))]; exact z
    have tk : c.sts.take (i + 1) = c.sts.take i ++ [t] := by rw [List.take_add_one, ht]; rfl
    refine ⟨xs, h3, by omega, xs ++ [v], upd_same, ?_, ?_⟩
    · rw [tk]
      exact (A2.mono fun b zs z => keep b zs (s5 _ _ z)).append ⟨stAt_mono keep T, trivial⟩
    · intro c o z
      rw [upd_ne (ne_of_none z hD)]
      exact s5 _ _ (s4 _ _ z)
  · rintro H3 ⟨xs, h2, A2, s4⟩
    rw [List.length_map, List.length_map, List.take_length] at A2
    have xl := A2.len
    refine ⟨D, xs, rfl, .inr (.inl (.inl h2)), ?_⟩
    refine ⟨by simp; omega, fun g hg => ?_⟩
    have e0 : vs :: (xs ++ []) = vs :: xs := by simp
    rw [e0]
    have s5 := same_new hg (.lst (vs :: xs))
    have hg5 : (upd H3 g (.lst (vs :: xs))) g = some (.lst (vs :: xs)) := upd_same
    have A5 := A2.same s5
    have S5 := S2.same (s4.trans s5)
    have sA : Same H (upd H3 g (.lst (vs :: xs))) := s12.trans (s3.trans (s4.trans s5))
    generalize upd H3 g (.lst (vs :: xs)) = H5 at s5 hg5 A5 S5 sA ⊢
    have some_ : ∀ (i : Nat) (x : V), (vs :: xs)[i]? = some x → x ≠ .non := by
      intro i x hx
      cases i with
      | zero =>
        obtain rfl : vs = x := by simpa using hx
        obtain ⟨_, _, _, _, e, _⟩ := S5
        rw [e]; intro z; cases z
      | succ i =>
        obtain ⟨t, _, T⟩ := A5.get (i := i) (x := x) (by simpa using hx)
        obtain ⟨_, _, e, _⟩ := T
        rw [e]; intro z; cases z
    refine ⟨_, rfl, g, _, rfl, .inl (.inl hg5), for_it walk_enum (fun i σ H6 => ∃ (x4 x5 : Option V), σ = [some (.str (chtxt c)), some (.str (sytxt c.sy)), some (.ref p), some (.ref g), x4, x5] ∧ Same H5 H6) ⟨_, _, rfl, Same.refl _⟩ (fun i σ H6 _ ⟨_, _, _, h⟩ => .inl (.inl (h _ _ hg5))) ?_ ?_⟩
    · rintro i x σ H6 H7 hi ⟨x4, x5, rfl, s6⟩ ⟨T, u, v, rfl, hT, rfl, hu, hv⟩
      obtain rfl := Option.some.inj hu
      have sT := same_new hT (.tup [V.int (i : Nat), v])
      refine ⟨T, _, rfl, .inl (.inl upd_same), rfl, _, _, rfl, _, _, rfl, rfl, ?_⟩
      exact ⟨_, rfl, rfl, false, congrArg V.bl (decide_eq_false (some_ i v hv)), iteF ⟨_, _, rfl, s6.trans sT⟩⟩
    · rintro σ H6 ⟨x4, x5, rfl, s6⟩
      have hg6 := s6 _ _ hg5
      refine ⟨_, rfl, g, _, _, _, rfl, rfl, .inl (.inl hg6), at_of (j := 0) rfl rfl, ?_⟩
      refine ⟨_, rfl, 1, rfl, g, _, rfl, .inl (.inl hg6), fun u hu => ?_⟩
      rw [cut_tail]
      have s7 := same_new hu (.lst xs)
      refine ⟨u, _, rfl, .inl ⟨.inl (.inl upd_same), fun t ht => ⟨(by show 2 ≤ sizeLine; decide), fun y hy => ?_⟩⟩⟩
      have s8 := same_new ht (.tup xs)
      have s9 := same_new hy (.tup [vs, V.ref t])
      have s69 := s6.trans (s7.trans (s8.trans s9))
      exact fin _ _ ⟨y, t, vs, xs, rfl, upd_same, S5.same s69, s9 _ _ upd_same, A5.same s69⟩ (sA.trans s69)
end
end Rp

/-! t + u of tuples, t maybe empty: then u itself. -/
namespace Rp
open PySem PySem.Spec PyProof.Rows L2 HT
def rCatE (K : PySem.W.Frag) : R2 := fun x y H Q => ∃ (a b : Addr) (xs ys : List V), x = .ref a ∧ y = .ref b ∧ SqT K H a xs ∧ SqT K H b ys ∧ xs.length + ys.length ≤ sizeLine ∧
  (xs = [] → Q (.ref b) H) ∧ (xs ≠ [] → ys = [] → Q (.ref a) H) ∧ (xs ≠ [] → ys ≠ [] → ∀ p, H p = none → Q (.ref p) (upd H p (.tup (xs ++ ys))))
theorem op_catE {X : Cx} : OpR X (binaryOp .Add) (rCatE X.K) := by
  intro pins s σ H x y v u Q I rx ry h
  obtain ⟨a, b, xs, ys, ex, ey, ha, hb, hz, q0, q1, q2⟩ := h
  by_cases he : xs = []
  · subst ex ey
    cases rx
    cases ry
    obtain ⟨its, r1, p1, _⟩ := I.tuple ha
    obtain ⟨its2, r2, p2, _⟩ := I.tuple hb
    subst he
    cases r1
    obtain ⟨⟨c1, d1, t1, s1⟩, g1, e1, n1, k1⟩ := id p1
    obtain ⟨⟨c2, d2, t2, s2⟩, g2, e2, n2, k2⟩ := id p2
    simp only at e1 k1 e2 k2
    subst e1 k1 e2 k2
    exact concat_meets ⟨_, g1, rfl⟩ ⟨_, g2, rfl⟩ noFill_tuple_add seq_tuple_add PySem.F.slot_tuple_add PySem.F.entry_tuple_add (PySem.F.args_tuple_add_2 _ _)
      (tuple_addW0 a b _ its2.toArray n1 n2 d1 d2 s1 s2 (by simp)) ⟨g1, g2, ⟨.ref b, H, I, rfl, q0 rfl⟩⟩
  · exact op_catT pins s σ H x y v u Q I rx ry ⟨a, b, xs, ys, ex, ey, ha, hb, he, hz, q1 he, q2 he⟩
end Rp

set_option maxHeartbeats 16000000
/-! What is alike; the law's names. -/
namespace Rp
open PySem PySem.Spec PyProof.Rows L2 TL StX
theorem alike_plain {H : Hp} {n : Nat} {x : V} (p : Plain x) : Alike H n x x := by
  cases n with
  | zero => unfold Alike; exact ⟨p, rfl⟩
  | succ n => unfold Alike; exact .inl ⟨p, rfl⟩
theorem alike_tm {H : Hp} : ∀ {t : Tm} {n : Nat} {x y : V}, TmAt H x t → TmAt H y t → t.deep < n → Alike H n x y
  | .v m, n, _, _, .v _, .v _, _ => alike_plain trivial
  | .z, n + 1, _, _, .z h, .z h', _ => by
    unfold Alike
    refine .inr ⟨_, _, _, _, rfl, rfl, .inr ⟨h, h'⟩, rfl, by simp, fun i u v h1 h2 => ?_⟩
    obtain rfl : u = v := Option.some.inj (h1.symm.trans h2)
    match i with
    | 0 => simp at h1; subst h1; exact alike_plain trivial
    | i + 1 => simp at h1
  | .s t, n + 1, _, _, .s h q, .s h' q', hd => by
    unfold Alike
    refine .inr ⟨_, _, _, _, rfl, rfl, .inr ⟨h, h'⟩, rfl, by simp, fun i u v h1 h2 => ?_⟩
    match i with
    | 0 => simp at h1 h2; subst h1 h2; exact alike_plain trivial
    | 1 => simp at h1 h2; subst h1 h2; exact alike_tm q q' (by simp only [Tm.deep] at hd; omega)
    | i + 2 => simp at h1
  | .f l r, n + 1, _, _, .f h q1 q2, .f h' q1' q2', hd => by
    unfold Alike
    simp only [Tm.deep] at hd
    refine .inr ⟨_, _, _, _, rfl, rfl, .inr ⟨h, h'⟩, rfl, by simp, fun i u v h1 h2 => ?_⟩
    match i with
    | 0 => simp at h1 h2; subst h1 h2; exact alike_plain trivial
    | 1 => simp at h1 h2; subst h1 h2; exact alike_tm q1 q1' (by omega)
    | 2 => simp at h1 h2; subst h1 h2; exact alike_tm q2 q2' (by omega)
    | i + 3 => simp at h1
theorem alike_all {H : Hp} {n : Nat} : ∀ {ts : List Tm} {xs ys : List V}, AllAt H xs ts → AllAt H ys ts → (∀ t ∈ ts, t.deep < n) → ∀ (i : Nat) (u v : V), xs[i]? = some u → ys[i]? = some v → Alike H n u v
  | [], [], [], _, _, _, i, u, v, h, _ => by simp at h
  | t :: ts, x :: xs, y :: ys, A, B, hd, 0, u, v, h, h' => by
    obtain rfl : x = u := by simpa using h
    obtain rfl : y = v := by simpa using h'
    exact alike_tm A.1 B.1 (hd t (by simp))
  | t :: ts, x :: xs, y :: ys, A, B, hd, i + 1, u, v, h, h' => alike_all A.2 B.2 (fun s hs => hd s (by simp [hs])) i u v (by simpa using h) (by simpa using h')
theorem alike_at {H : Hp} {a : At} (ok : AtOk 50 a) {x y : V} (hx : AtAt H x a) (hy : AtAt H y a) : Alike H 52 x y := by
  obtain ⟨p, xs, rfl, hp, A⟩ := hx
  obtain ⟨q, ys, rfl, hq, B⟩ := hy
  have lx := A.len
  have ly := B.len
  have two := ok.two
  unfold Alike
  refine .inr ⟨p, q, _, _, rfl, rfl, .inr ⟨hp, hq⟩, by simp [lx, ly], by simp; omega, fun i u v h1 h2 => ?_⟩
  match i with
  | 0 =>
    simp at h1 h2; subst h1 h2; exact alike_plain trivial
  | i + 1 => exact alike_all A B (fun t ht => by have := Tm.deep_lt t; have := (ok.sm t ht).2; show t.deep < 51; omega) i u v (by simpa using h1) (by simpa using h2)
theorem alike_ats {H : Hp} : ∀ {as : List At} {xs ys : List V}, (∀ a ∈ as, AtOk 50 a) → AtsAt H xs as → AtsAt H ys as → ∀ (i : Nat) (u v : V), xs[i]? = some u → ys[i]? = some v → Alike H 52 u v
  | [], [], [], _, _, _, i, u, v, h, _ => by simp at h
  | a :: as, x :: xs, y :: ys, ok, A, B, 0, u, v, h, h' => by
    obtain rfl : x = u := by simpa using h
    obtain rfl : y = v := by simpa using h'
    exact alike_at (ok a (by simp)) A.1 B.1
  | a :: as, x :: xs, y :: ys, ok, A, B, i + 1, u, v, h, h' => alike_ats (fun b hb => ok b (by simp [hb])) A.2 B.2 i u v (by simpa using h) (by simpa using h')
theorem Alike.up {H : Hp} : ∀ {n : Nat} {x y : V}, Alike H n x y → Alike H (n + 1) x y
  | 0, x, y, h => by unfold Alike at h ⊢; exact .inl h
  | n + 1, x, y, h => by
    unfold Alike at h ⊢
    rcases h with h | ⟨a, b, xs, ys, h1, h2, h3, h4, h5, h6⟩
    · exact .inl h
    · exact .inr ⟨a, b, xs, ys, h1, h2, h3, h4, h5, fun i u v p q => Alike.up (h6 i u v p q)⟩
theorem Alike.ups {H : Hp} {x y : V} {n m : Nat} (h : Alike H n x y) (le : n ≤ m) : Alike H m x y := by
  obtain ⟨k, rfl⟩ := Nat.exists_eq_add_of_le le
  clear le
  induction k with
  | zero => exact h
  | succ k ih => exact ih.up
theorem cut_to {xs : List V} (n : Nat) : cutV xs none (some (n : Int)) = xs.take n := by
  unfold cutV
  rw [HT.sIx_none, HT.sIx_nat, List.drop_zero, Nat.sub_zero]
  rcases Nat.le_total n xs.length with h | h
  · rw [Nat.min_eq_left h]
  · rw [Nat.min_eq_right h, List.take_length, List.take_of_length_le h]
theorem cut_mid {xs : List V} (n m : Nat) : ∃ a b, cutV xs (some (n : Int)) (some (m : Int)) = (xs.drop (min n xs.length)).take b ∧ a = b := ⟨_, _, by unfold cutV; rw [HT.sIx_nat, HT.sIx_nat], rfl⟩
theorem eqv_lnil {ds : List PyData} : PyData.eqv (.list ds) (.list []) = ds.isEmpty := by
  cases ds <;> simp [PyData.eqv, PyData.eqvAll]
theorem ixN_int {n : Nat} {i : Int} (h : 0 ≤ i ∧ i < n) : ixN n i = some i.toNat := by unfold ixN; rw [if_pos h.1, if_pos h.2]
theorem but_none {H H' : Hp} {b : Addr} {j : Nat} (o : But b H H') (B : BoxAt H' b j) {D : Addr} (h : H' D = none) : H D = none := by
  cases e : H D with
  | none => rfl
  | some u =>
    have nb : D ≠ b := by
      rintro rfl
      obtain ⟨ys, hb⟩ := B.some
      rw [hb] at h; cases h
    have := o _ _ e nb
    rw [h] at this; cases this
theorem BoxAt.upd {H : Hp} {b D : Addr} {j : Nat} (B : BoxAt H b j) (n : D ≠ b) (o : HO) : BoxAt (L2.upd H D o) b j := by
  obtain ⟨x, y, z, h, r⟩ := B.ex
  exact ⟨x, y, z, by rw [upd_ne n.symm]; exact h, r⟩
def Low (x : Str) : Prop := ∀ c ∈ tl x, 97 ≤ c ∧ c ≤ 122
theorem low_cut {z : Str} (h : Low z) (lo hi : Option Int) : Low (cutS z lo hi) := by
  intro c hc
  have hc : c ∈ (z.cps.toList.drop (HT.sIx z.length 0 lo)).take (HT.sIx z.length z.length hi - HT.sIx z.length 0 lo) := hc
  exact h c (List.mem_of_mem_drop (List.mem_of_mem_take hc))
theorem cutS_parts {z : Str} {k : Nat} (h : k ≤ z.length) : (cutS z none (some (k : Int))).length = k ∧ (cutS z (some (k : Int)) none).length = z.length - k := by
  have e : z.cps.toList.length = z.length := Array.length_toList
  constructor
  · show (((z.cps.toList.drop (HT.sIx z.length 0 none)).take (HT.sIx z.length z.length (some (k : Int)) - HT.sIx z.length 0 none)).toArray).size = k
    rw [List.size_toArray, HT.sIx_none, HT.sIx_nat, List.length_take, List.length_drop, e]
    omega
  · show (((z.cps.toList.drop (HT.sIx z.length 0 (some (k : Int)))).take (HT.sIx z.length z.length none - HT.sIx z.length 0 (some (k : Int)))).toArray).size = _
    rw [List.size_toArray, HT.sIx_none, HT.sIx_nat, List.length_take, List.length_drop, e]
    omega
theorem low_append {a b : Str} (ha : Low a) (hb : Low b) : Low (a ++ b) := by
  intro c hc
  rw [tl_append] at hc
  rcases List.mem_append.mp hc with hc | hc
  · exact ha c hc
  · exact hb c hc
theorem low_one {c : Nat} (h : 97 ≤ c ∧ c ≤ 122) : Low ⟨#[c]⟩ := by
  intro d hd
  have hd : d ∈ [c] := hd
  simp at hd
  omega
theorem low_join : ∀ ys : List Str, (∀ y ∈ ys, y.length = 1 ∧ Low y) → (Txt.join "" ys).length = ys.length ∧ Low (Txt.join "" ys)
  | [], _ => ⟨by decide +kernel, fun c hc => by have : tl (Txt.join "" []) = [] := by decide +kernel
                                                rw [this] at hc; simp at hc⟩
  | [x], h => by rw [join1]; exact h x (by simp)
  | x :: y :: l, h => by
    have ih := low_join (y :: l) fun z hz => h z (by simp at hz ⊢; exact .inr hz)
    have hx := h x (by simp)
    rw [TL.join_eq] at ih ⊢
    have e0 : ("" : Str).length = 0 := by decide +kernel
    have le : Low ("" : Str) := fun c hc => by have : tl ("" : Str) = [] := by decide +kernel
                                               rw [this] at hc; simp at hc
    refine ⟨?_, low_append (low_append hx.2 le) ih.2⟩
    show (x ++ "" ++ Str.join "" (y :: l)).length = _
    rw [slen, slen, e0, hx.1, ih.1]
    simp only [List.length_cons]
    omega
theorem letter_at {i : Int} (h : 0 ≤ i ∧ i < 26) : ∃ c, atI letters.cps.toList i = some c ∧ (97 ≤ c ∧ c ≤ 122) ∧ (c : Int) = 97 + i := by
  have all : ∀ k : Fin 26, atI letters.cps.toList (k.val : Int) = some (97 + k.val) := by decide +kernel
  obtain ⟨k, rfl⟩ := Int.eq_ofNat_of_zero_le h.1
  exact ⟨_, all ⟨k, by omega⟩, ⟨by show 97 ≤ 97 + k; omega, by show 97 + k ≤ 122; omega⟩, by show ((97 + k : Nat) : Int) = _; omega⟩
/-- words alike but for one sign -/
def Named (pre post : Str) (r d : Int) (ws : List Str) : Prop := ∀ (x : Str) (k : Nat), ws[k]? = some x → ∃ c : Nat, x = pre ++ ⟨#[c]⟩ ++ post ∧ (c : Int) = 97 + (r + d * (k : Int)) % 26
theorem Named.snoc {pre post : Str} {r d : Int} {ws : List Str} (h : Named pre post r d ws) {y : Str} (hy : ∃ c : Nat, y = pre ++ ⟨#[c]⟩ ++ post ∧ (c : Int) = 97 + (r + d * (ws.length : Int)) % 26) : Named pre post r d (ws ++ [y]) := by
  intro x k hx
  by_cases hk : k < ws.length
  · rw [List.getElem?_append_left hk] at hx
    exact h x k hx
  · rw [List.getElem?_append_right (by omega)] at hx
    by_cases e : k = ws.length
    · subst e
      simp at hx
      subst hx
      exact hy
    · rw [List.getElem?_eq_none (by simp; omega)] at hx
      cases hx
theorem Named.len {pre post : Str} {r d : Int} {ws : List Str} (h : Named pre post r d ws) : ∀ x ∈ ws, x.length = pre.length + 1 + post.length := by
  intro x hx
  obtain ⟨k, hk, rfl⟩ := List.getElem_of_mem hx
  obtain ⟨c, e, _⟩ := h _ k (List.getElem?_eq_getElem hk)
  rw [e, slen, slen]
  rfl
theorem Named.nodup {pre post : Str} {r d : Int} {ws : List Str} (h : Named pre post r d ws) (w4 : ws.length ≤ 4) (hd : d = 1 ∨ d = 3 ∨ d = 7 ∨ d = 25) : ws.Nodup := by
  refine List.pairwise_iff_getElem.mpr fun i j hi hj lt e => ?_
  obtain ⟨c, e1, c1⟩ := h _ i (List.getElem?_eq_getElem hi)
  obtain ⟨c', e2, c2⟩ := h _ j (List.getElem?_eq_getElem hj)
  rw [e1, e2] at e
  have e := congrArg tl e
  simp only [tl_append, List.append_assoc] at e
  have e := List.append_cancel_left e
  have cc : c = c' := by
    have t1 : tl (⟨#[c]⟩ : Str) = [c] := rfl
    have t2 : tl (⟨#[c']⟩ : Str) = [c'] := rfl
    rw [t1, t2] at e
    simpa using e
  subst cc
  rw [c1] at c2
  have j4 : j = 1 ∨ j = 2 ∨ j = 3 := by omega
  have i4 : i = 0 ∨ i = 1 ∨ i = 2 := by omega
  rcases hd with rfl | rfl | rfl | rfl <;> omega
theorem iff_nodup {ws : List Str} (h : ws.Nodup) (l : ∀ x ∈ ws, ∀ y ∈ ws, x.length = y.length) : (ws.map fun x : Str => if x = ("if" : Str) then ("iff" : Str) else x).Nodup := by
  refine List.pairwise_map.mpr ?_
  refine List.Pairwise.imp_of_mem (R := (· ≠ ·)) (fun {a b} ha hb ne e => ?_) h
  have l2 : ("if" : Str).length = 2 := by decide +kernel
  have l3 : ("iff" : Str).length = 3 := by decide +kernel
  have lab := l a ha b hb
  by_cases h1 : a = ("if" : Str)
  · by_cases h2 : b = ("if" : Str)
    · exact ne (h1.trans h2.symm)
    · simp only [if_pos h1, if_neg h2] at e
      rw [← e, h1] at lab
      omega
  · by_cases h2 : b = ("if" : Str)
    · simp only [if_neg h1, if_pos h2] at e
      rw [e, h2] at lab
      omega
    · simp only [if_neg h1, if_neg h2] at e
      exact ne e
def spWords : Sp := fun vs H Q _ => ∃ (b : Addr) (j : Nat), vs = [.ref b, .int 4] ∧ BoxAt H b j ∧ j + 10 ≤ 1000000 ∧
  ∀ (p : Addr) (ws : List Str) (H' : Hp), H p = none → H' p = some (.lst (ws.map V.str)) → ws.length = 4 → (∀ x ∈ ws, NameOk x) → ws.Nodup → BoxAt H' b (j + 10) → But b H H' → Q (.ref p) H'
def rMod : R2 := rI (fun _ j => 0 < j) fun i j => .int (i % j)
def rMulI : R2 := rI CMul fun i j => .int (i * j)
def rAddI : R2 := rI0 fun i j => .int (i + j)
def rAddS : R2 := fun x y H Q => ∃ i j, x = .str i ∧ y = .str j ∧ i.length + j.length ≤ sizeLine ∧ Q (.str (i ++ j)) H
theorem op_modP {X : Cx} : OpR X (binaryOp .Mod) rMod := op_mod
theorem op_mulI {X : Cx} : OpR X (binaryOp .Mult) rMulI := op_mul
theorem op_addI {X : Cx} : OpR X (binaryOp .Add) rAddI := op_add
theorem op_addS {X : Cx} : OpR X (binaryOp .Add) rAddS := op_add_str
def teLetter : TE := tOp rIxS (tVar 2) (tCall spTake [] E0 (tCons (tVar 0) (tCons (tC (.int 26)) tNil)))
def teName : TE := tOp rAddS (tOp rAddS (tSl rSlS (tVar 5) tNoPart (tPart (tVar 6))) (tOp rIxS (tVar 2) (tOp rMod (tOp rAddI (tVar 3) (tOp rMulI (tVar 4) (tVar 8))) (tC (.int 26))))) (tSl rSlS (tVar 5) (tPart (tVar 6)) tNoPart)
def teIff : TE := tIf (tTest (tOp rEq (tVar 9) (tC (.str "if")))) (tC (.str "iff")) (tVar 9)
theorem TmAt.box {H H' : Hp} {b : Addr} {v : V} {t : Tm} {j : Nat} (T : TmAt H v t) (o : But b H H') (B : BoxAt H b j) : TmAt H' v t := by
  obtain ⟨ys, hb⟩ := B.some
  exact T.mono fun a xs z => o _ _ z (ne_of z hb (by intro e; cases e))
theorem AtAt.box {H H' : Hp} {b : Addr} {v : V} {a : At} {j : Nat} (T : AtAt H v a) (o : But b H H') (B : BoxAt H b j) : AtAt H' v a := by
  obtain ⟨ys, hb⟩ := B.some
  exact atAt_mono (fun a xs z => o _ _ z (ne_of z hb (by intro e; cases e))) T
theorem AtsAt.box {H H' : Hp} {b : Addr} {xs : List V} {as : List At} {j : Nat} (T : AtsAt H xs as) (o : But b H H') (B : BoxAt H b j) : AtsAt H' xs as := by
  obtain ⟨ys, hb⟩ := B.some
  exact T.mono fun a xs z => o _ _ z (ne_of z hb (by intro e; cases e))
section
variable {P : Program} {w : World} {K : PySem.W.Frag} {mg : Str → Option Value} {base : Heap}
abbrev NW : List Str := ["_law_box_here", "_law_count", "_law_letters", "_law_begun", "_law_by", "_law_tail", "_law_at", "_law_found", "_law_k", "_law_name"]
theorem scWords : FnScope NW ["_law_box_here", "_law_count"] (defScope sNames) := ⟨rfl, rfl, rfl, by decide +kernel, rfl, by decide +kernel, by decide +kernel⟩
theorem ok_words {f fT : Addr} {fd fdT : FuncData} (F : Fun K "_law_names" "_law_names" sNames f fd) (FT : Fun K "_law_take" "_law_take" sTake fT fdT) (bT : Binds K fdT ["_law_box_here", "_law_reach"] []) (mT : mg "_law_take" = some (.ref fT))
    (mRange : mg "range" = none) (mLen : mg "len" = none) : FnOk P w K mg base CX0 2 f fd ["_law_box_here", "_law_count"] spWords := by
  have GT : FnOk P w K mg base CX0 1 fT fdT ["_law_box_here", "_law_reach"] spTake := ok_take FT
  refine F.ok scWords (fun vs H Q E h => ?_) (fun cdv A outer s H vs Q E hr h => ?_)
  · obtain ⟨b, j, rfl, _⟩ := h
    rfl
  obtain ⟨b, j, rfl, B, hj, q⟩ := h
  refine ⟨_, pss_cons (ps_asg (pe_tup (pa_cons pe_str (pa_cons (pe_call GT hr (by rfl) mT FT.kp bT .nil pass0 (pa_cons (pv 0) (pa_cons pe_int pa_nil))) (pa_cons (pe_ix ix_list (pe_lst (pa_cons pe_int (pa_cons pe_int (pa_cons pe_int (pa_cons pe_int pa_nil))))) (pe_call GT hr (by rfl) mT FT.kp bT .nil pass0 (pa_cons (pv 0) (pa_cons pe_int pa_nil))) (fun _ _ => rfl)) pa_nil))))
      (pg_tup (by rfl) (pgs_cons (pg_name (i := 2) scWords.nd rfl (Or.inr rfl)) (pgs_cons (pg_name (i := 3) scWords.nd rfl (Or.inr rfl)) (pgs_cons (pg_name (i := 4) scWords.nd rfl (Or.inr rfl)) pgs_nil)))))
    (pss_cons (ps_set (i := 5) scWords.nd rfl (Or.inr rfl) (pe_bm PySem.F.plainAttrs_str PySem.F.slot_str_join PySem.F.type_str_join mt_join pe_str (pa_cons
      (pe_lc (own := [("_law_k", 8)]) (g := gName 8) (tt := tYes) (te := teLetter) rfl scWords.nd (pi_range1 (by rfl) mRange (pa_cons (pe_call GT hr (by rfl) mT FT.kp bT .nil pass0 (pa_cons (pv 0) (pa_cons pe_int pa_nil))) pa_nil))
        (blkOk_by (N := NW) (sc := defScope sNames) (by decide +kernel)) (fun _ _ _ _ _ => pg_name (i := 8) scWords.nd rfl (Or.inl rfl)) (fun _ _ _ _ _ => pts_nil)
        (fun _ _ _ _ _ => pe_ix ix_str (pv 2) (pe_call GT hr (by rfl) mT FT.kp bT .nil pass0 (pa_cons (pv 0) (pa_cons pe_int pa_nil))) (fun _ _ => rfl))) pa_nil)))
    (pss_cons (ps_set (i := 6) scWords.nd rfl (Or.inr rfl) (pe_call GT hr (by rfl) mT FT.kp bT .nil pass0 (pa_cons (pv 0) (pa_cons (pe_op op_addI (pe_callB call_len_str (by rfl) mLen PySem.boot_len (pa_cons (pv 5) pa_nil)) pe_int) pa_nil))))
    (pss_cons (ps_setLc (i := 7) (own := [("_law_k", 8)]) (g := gName 8) (tt := tYes) (te := teName) rfl scWords.nd rfl rfl (by rfl) (pi_range1 (by rfl) mRange (pa_cons (pv 1) pa_nil))
        (blkOk_by (N := NW) (sc := defScope sNames) (by decide +kernel)) (fun _ _ _ _ _ => pg_name (i := 8) scWords.nd rfl (Or.inl rfl)) (fun _ _ _ _ _ => pts_nil)
        (fun _ _ _ _ _ => pe_op op_addS (pe_op op_addS (pe_slice sl_str (pv 5) po_none (po_some (pv 6))) (pe_ix ix_str (pv 2) (pe_op op_modP (pe_op op_addI (pv 3) (pe_op op_mulI (pv 4) (pv 8))) pe_int) (fun _ _ => rfl))) (pe_slice sl_str (pv 5) (po_some (pv 6)) po_none)))
    (pss_one (ps_ret (pe_lc (own := [("_law_name", 9)]) (g := gName 9) (tt := tYes) (te := teIff) rfl scWords.nd (pi_list (pv 7))
        (blkOk_by (N := NW) (sc := defScope sNames) (by decide +kernel)) (fun _ _ _ _ _ => pg_name (i := 9) scWords.nd rfl (Or.inl rfl)) (fun _ _ _ _ _ => pts_nil)
        (fun _ _ _ _ _ => pe_ifExp (pt_cmpR op_eq (pv 9) pe_str (nomark _)) pe_str (pv 9)))))))), ?_⟩
  have big : (10000 : Nat) ≤ sizeLine := by decide
  have l0 : ("" : Str).length = 0 := by decide +kernel
  have ll : letters.length = 26 := by decide +kernel
  refine ⟨_, rfl, b, _, j, rfl, B, by omega, by decide, by decide, fun r1 H1 a0 a1 B1 o1 => ?_⟩
  refine ⟨(by show 4 ≤ sizeLine; decide), fun d hd => ?_⟩
  have s2 := same_new hd (.lst [V.int 1, V.int 3, V.int 7, V.int 25])
  refine ⟨_, rfl, b, _, _, rfl, B1.same s2, by omega, by decide, by decide, fun r2 H3 b0 b1 B3 o3 => ?_⟩
  obtain ⟨y1, hb1⟩ := B1.some
  have db : d ≠ b := (ne_of_none hb1 hd).symm
  have hd3 := o3 _ _ upd_same db
  obtain ⟨by_, hat, hby⟩ : ∃ n : Int, atI [V.int 1, V.int 3, V.int 7, V.int 25] r2 = some (.int n) ∧ (n = 1 ∨ n = 3 ∨ n = 7 ∨ n = 25) := by
    rcases (by omega : r2 = 0 ∨ r2 = 1 ∨ r2 = 2 ∨ r2 = 3) with e | e | e | e <;> subst e
    · exact ⟨_, at_of (j := 0) rfl rfl, by omega⟩
    · exact ⟨_, at_of (j := 1) rfl rfl, by omega⟩
    · exact ⟨_, at_of (j := 2) rfl rfl, by omega⟩
    · exact ⟨_, at_of (j := 3) rfl rfl, by omega⟩
  refine ⟨d, _, _, _, rfl, rfl, .inl (.inl hd3), hat, (by show 3 ≤ sizeLine; decide), fun t ht => ?_⟩
  have s4 := same_new ht (.tup [V.str letters, V.int r1, V.int by_])
  refine ⟨t, _, rfl, .inl (.inl upd_same), rfl, _, _, rfl, _, _, rfl, _, _, rfl, rfl, ?_⟩
  have B4 := B3.same s4
  refine ⟨rfl, _, rfl, b, _, _, rfl, B4, by omega, by decide, by decide, fun m3 H6 c0 c1 B6 o6 => ?_⟩
  have o06 : But b H H6 := o1.trans ((but_of s2).trans (o3.trans ((but_of s4).trans o6)))
  refine ⟨_, rfl, by omega, by omega, fun D hD => lc_range (lo := 0) (fun i H7 => ∃ ys : List Str, H7 D = some (.lst (ys.map V.str)) ∧ ys.length = i ∧ (∀ y ∈ ys, y.length = 1 ∧ Low y) ∧ BoxAt H7 b (j + 3 + i) ∧ But b H H7)
    ⟨[], upd_same, rfl, by simp, (B6.same (same_new hD _)).more (by omega), o06.trans (but_of (same_new hD _))⟩ ?_ ?_⟩
  · rintro i H7 hi ⟨ys, h7, yl, yo, B7, o7⟩
    have Db : D ≠ b := by
      obtain ⟨y6, hb6⟩ := B6.some
      exact (ne_of_none hb6 hD).symm
    refine ⟨rfl, ?_⟩
    unfold teLetter
    refine ⟨_, rfl, _, rfl, b, _, _, rfl, B7, by omega, by decide, by decide, fun r H8 d0 d1 B8 o8 => ?_⟩
    obtain ⟨c, hc, cl, _⟩ := letter_at ⟨d0, d1⟩
    refine ⟨letters, _, c, rfl, rfl, by omega, hc, ys.map V.str, o8 _ _ h7 Db, by rw [List.length_map]; omega, ys ++ [⟨#[c]⟩], ?_, by simp [yl], ?_, (B8.upd Db _).more (by omega), ?_⟩
    · rw [upd_same, List.map_append]; rfl
    · intro y hy
      rcases List.mem_append.mp hy with hy | hy
      · exact yo y hy
      · obtain rfl : y = ⟨#[c]⟩ := by simpa using hy
        exact ⟨rfl, low_one cl⟩
    · intro x o z nb
      have xD : x ≠ D := ne_of_none z (but_none o06 B6 hD)
      rw [upd_ne xD]
      exact o8 _ _ (o7 _ _ z nb) nb
  · rintro H7 ⟨ys, h7, yl, yo, B7, o7⟩
    obtain ⟨jl, jw⟩ := low_join ys yo
    have sum1 : ∀ zs : List Str, (∀ y ∈ zs, y.length = 1 ∧ Low y) → (zs.map (·.length)).sum = zs.length := by
      intro zs
      induction zs with
      | nil => intro _; rfl
      | cons z zs ih =>
        intro h
        rw [List.map_cons, List.sum_cons, ih fun y hy => h y (by simp [hy]), (h z (by simp)).1, List.length_cons]
        omega
    refine ⟨"", D, ys, rfl, rfl, .inl (.inl (.inl h7)), by rw [l0, sum1 ys yo]; omega, ?_⟩
    generalize Txt.join "" ys = tail at jl jw
    have tl5 : tail.length ≤ 5 := by omega
    refine ⟨_, rfl, _, rfl, tail, rfl, by omega, _, _, rfl, rfl, b, _, _, rfl, B7, by omega, by omega, by omega, fun r8 H8 e0 e1 B8 o8 => ?_⟩
    obtain ⟨k, rfl⟩ := Int.eq_ofNat_of_zero_le e0
    obtain ⟨p1, p2⟩ := cutS_parts (z := tail) (k := k) (by omega)
    have w1 := low_cut jw none (some (k : Int))
    have w2 := low_cut jw (some (k : Int)) none
    have o08 := o7.trans o8
    refine ⟨_, rfl, _, rfl, by decide, by decide, fun D2 hD2 => lc_range (lo := 0) (fun i H9 => ∃ ws : List Str, H9 D2 = some (.lst (ws.map V.str)) ∧ ws.length = i ∧ (∀ x ∈ ws, 1 ≤ x.length ∧ x.length ≤ 6 ∧ Low x) ∧ Named (cutS tail none (some (k : Int))) (cutS tail (some (k : Int)) none) r1 by_ ws ∧ Same H8 H9) ⟨[], upd_same, rfl, by simp, fun x i h => by simp at h, same_new hD2 _⟩ ?_ ?_⟩
    · rintro i H9 hi ⟨ws, h9, wl, wo, wn, s9⟩
      refine ⟨rfl, ?_⟩
      unfold teName
      have i4 : i < 4 := hi
      obtain ⟨c, hc, cl, ce⟩ := letter_at (i := (r1 + by_ * (0 + (i : Int))) % 26) (by omega)
      have one : (⟨#[c]⟩ : Str).length = 1 := rfl
      refine ⟨_, rfl, _, rfl, (k : Int), rfl, tail, rfl, by omega, ?_⟩
      refine ⟨_, rfl, _, rfl, _, rfl, _, rfl, _, _, rfl, rfl, .inl ⟨by omega, by omega⟩, _, _, rfl, rfl, _, _, rfl, rfl, (by show (0 : Int) < 26; decide), letters, _, c, rfl, rfl, by omega, hc, ?_⟩
      refine ⟨_, _, rfl, rfl, by rw [p1, one]; omega, ?_⟩
      refine ⟨_, rfl, _, rfl, (k : Int), rfl, tail, rfl, by omega, ?_⟩
      refine ⟨_, _, rfl, rfl, by rw [slen, p1, p2, one]; omega, ?_⟩
      refine ⟨ws.map V.str, h9, by rw [List.length_map]; omega, ws ++ [cutS tail none (some (k : Int)) ++ ⟨#[c]⟩ ++ cutS tail (some (k : Int)) none], by rw [upd_same, List.map_append]; rfl, by simp [wl], ?_, wn.snoc ⟨c, rfl, by rw [ce, wl]; simp⟩, ?_⟩
      · intro x hx
        rcases List.mem_append.mp hx with hx | hx
        · exact wo x hx
        · obtain rfl : x = _ := List.mem_singleton.mp hx
          refine ⟨?_, ?_, low_append (low_append w1 (low_one cl)) w2⟩
          · rw [slen, slen, p1, p2, one]; omega
          · rw [slen, slen, p1, p2, one]; omega
      · intro x o z
        rw [upd_ne (ne_of_none z hD2)]
        exact s9 _ _ z
    · rintro H9 ⟨ws, h9, wl, wo, wn, s9⟩
      have wl4 : ws.length = 4 := wl
      refine ⟨_, rfl, D2, rfl, ⟨_, .inl (.inl h9)⟩, fun D3 hD3 => lc_list (K := K) (a := D2) (xs := ws.map V.str) (fun i H10 => H10 D3 = some (.lst (((ws.take i).map fun x : Str => if x = ("if" : Str) then ("iff" : Str) else x).map V.str)) ∧ Same H9 H10) ⟨upd_same, same_new hD3 _⟩ (fun i H10 _ h => .inl (.inl (h.2 _ _ h9))) ?_ ?_⟩
      · rintro i x H10 hi ⟨h10, s10⟩
        rw [List.getElem?_map] at hi
        obtain ⟨y, hy, rfl⟩ : ∃ y, ws[i]? = some y ∧ x = .str y := by
          cases hq : ws[i]? with
          | none => rw [hq] at hi; cases hi
          | some p => rw [hq] at hi; exact ⟨p, rfl, by simpa using hi.symm⟩
        have tk : ws.take (i + 1) = ws.take i ++ [y] := by rw [List.take_add_one, hy]; rfl
        refine ⟨rfl, ?_⟩
        unfold teIff
        have fin : ∀ z : Str, z = (if y = ("if" : Str) then ("iff" : Str) else y) → ∃ acc, H10 D3 = some (.lst acc) ∧ acc.length < sizeLine ∧ (upd H10 D3 (.lst (acc ++ [V.str z]))) D3 = some (.lst (((ws.take (i + 1)).map fun x : Str => if x = ("if" : Str) then ("iff" : Str) else x).map V.str)) ∧ Same H9 (upd H10 D3 (.lst (acc ++ [V.str z]))) := by
          rintro z rfl
          refine ⟨_, h10, ?_, ?_, ?_⟩
          · rw [List.length_map, List.length_map, List.length_take]; omega
          · rw [upd_same, tk, List.map_append, List.map_append]; rfl
          · intro x o z
            rw [upd_ne (ne_of_none z hD3)]
            exact s10 _ _ z
        by_cases hif : y = ("if" : Str)
        · exact ⟨_, rfl, rfl, true, congrArg V.bl (decide_eq_true (by rw [hif])), iteT (fin _ (if_pos hif).symm)⟩
        · exact ⟨_, rfl, rfl, false, congrArg V.bl (decide_eq_false fun z => hif (V.str.inj z)), iteF ⟨_, rfl, fin _ (if_neg hif).symm⟩⟩
      · rintro H10 ⟨h10, s10⟩
        rw [List.length_map, List.take_length] at h10
        have o09 : But b H H9 := o08.trans (but_of s9)
        refine q D3 _ H10 (but_none o09 (B8.same s9) hD3) h10 (by rw [List.length_map, wl4]) ?_ (iff_nodup (wn.nodup (by omega) hby) fun x hx y hy => by rw [wn.len x hx, wn.len y hy]) (((B8.same s9).same s10).more (by omega)) (o09.trans (but_of s10))
        intro x hx
        obtain ⟨y, hy, rfl⟩ := List.mem_map.mp hx
        by_cases hif : y = ("if" : Str)
        · rw [if_pos hif]
          exact ⟨by decide +kernel, by decide +kernel, by decide +kernel, by decide +kernel⟩
        · rw [if_neg hif]
          obtain ⟨g1, g2, g3⟩ := wo y hy
          exact ⟨g1, g2, g3, hif⟩
end
end Rp

set_option maxHeartbeats 16000000
/-! The law's terms; atoms without copies. -/
namespace Rp
open PySem PySem.Spec PyProof.Rows L2 TL StX
theorem dp_ints {K : PySem.W.Frag} {H : Hp} : ∀ l : List Int, DpAll K H (l.map V.int) (l.map PyData.int)
  | [] => .nil
  | n :: l => .cons (.int n) (dp_ints l)
theorem ints_shaped (l : List Int) : SeqAt.shaped (.list (l.map PyData.int)) = true := by
  have c : PyData.canLayAll0 (l.map PyData.int) = true := by
    induction l with
    | nil => rfl
    | cons a l ih => show (true && PyData.canLayAll0 (l.map PyData.int)) = true; rw [ih]; rfl
  have d : PyData.depthAll (l.map PyData.int) ≤ 1 := by
    induction l with
    | nil => decide
    | cons a l ih =>
      have := ih (by
        have c' : (true && PyData.canLayAll0 (l.map PyData.int)) = true := c
        simpa using c')
      simp only [List.map_cons, PyData.depthAll, PyData.depth]; omega
  refine shaped_of c ?_
  show PyData.depthAll _ + 1 ≤ 64
  omega
abbrev poolV : List V := [.int 0, .int 1, .int 99]
def spLTerm (n : Nat) : Sp := fun vs H Q _ => ∃ (b p : Addr) (j d : Nat), vs = [.ref b, .ref p, .int d] ∧ BoxAt H b j ∧ H p = some (.lst poolV) ∧ p ≠ b ∧ d < n ∧ d ≤ 2 ∧ j + (4 * 2 ^ d - 1) ≤ 1000000 ∧
  ∀ (v : V) (t : Tm) (H' : Hp), TmAt H' v t → t.small → t.size + 1 ≤ 2 ^ (d + 1) → BoxAt H' b (j + (4 * 2 ^ d - 1)) → But b H H' → Q v H'
def spUnlikeL : Sp := fun vs H Q _ => ∃ (q : Addr) (xs : List V) (as : List At), vs = [.ref q] ∧ H q = some (.lst xs) ∧ AtsAt H xs as ∧ AtsOk as ∧
  ∀ (p : Addr) (ys : List V) (bs : List At) (H' : Hp), H' p = some (.tup ys) → AtsAt H' ys bs → AtsOk bs → bs.Nodup → bs.length ≤ as.length → Same H H' → Q (.ref p) H'
def teLeaf (K : PySem.W.Frag) : TE := tIf (tAnd (tTest (tOp (rNeD K) (tVar 1) (tLst tNil))) (tTest (tOp (rI0 fun i j => .bl (decide (j < i))) (tCall spTake [] E0 (tCons (tVar 0) (tCons (tC (.int 3)) tNil))) (tC (.int 0)))))
  (tCall spPick [] E0 (tCons (tVar 0) (tCons (tVar 1) tNil))) (tTup (tCons (tC (.str "0")) tNil))
theorem leaf_ok {K : PySem.W.Frag} {H : Hp} {b p : Addr} {j : Nat} {r : List (Option V)} {Q : V → Hp → Prop} (B : BoxAt H b j) (hp : H p = some (.lst poolV)) (pb : p ≠ b) (hj : j + 2 ≤ 1000000)
    (q : ∀ (v : V) (t : Tm) (H' : Hp), TmAt H' v t → t.small → t.size = 1 → BoxAt H' b (j + 2) → But b H H' → Q v H') : teLeaf K (some (.ref b) :: some (.ref p) :: r) H Q := by
  unfold teLeaf
  refine ⟨_, rfl, (by show 0 ≤ sizeLine; decide), fun l hl => ?_⟩
  have s1 := same_new hl (.lst ([] : List V))
  have B1 := B.same s1
  have hp1 := s1 _ _ hp
  refine ⟨.list ([0, 1, 99].map .int), .list [], .lst (.inl (.inl hp1)) (dp_ints [0, 1, 99]), .lst (.inl (.inl upd_same)) .nil, ints_shaped _, ints_shaped [], true, congrArg (fun z => V.bl (!z)) eqv_lnil, iteT ?_⟩
  refine ⟨_, rfl, b, _, j, rfl, B1, by omega, by decide, by decide, fun r3 H2 c0 c1 B2 o2 => ?_⟩
  have hp2 := o2 _ _ hp1 pb
  refine ⟨_, _, rfl, rfl, decide ((0 : Int) < r3), rfl, ?_⟩
  by_cases h3 : (0 : Int) < r3
  · rw [decide_eq_true h3]
    refine iteT ⟨_, rfl, _, rfl, b, p, _, _, rfl, B2, by omega, hp2, pb, by decide, by decide, fun v H3 hv B3 o3 => ?_⟩
    obtain ⟨m, rfl, m0, m9⟩ : ∃ m : Int, v = .int m ∧ 0 ≤ m ∧ m ≤ 99 := by
      simp only [poolV, List.mem_cons, List.not_mem_nil, or_false] at hv
      rcases hv with rfl | rfl | rfl
      · exact ⟨_, rfl, by decide, by decide⟩
      · exact ⟨_, rfl, by decide, by decide⟩
      · exact ⟨_, rfl, by decide, by decide⟩
    exact q _ (.v m) H3 (.v m) (fun k hk => by simp [Tm.nums] at hk; subst hk; exact ⟨m0, m9⟩) rfl (B3.more (by omega)) ((but_of s1).trans (o2.trans o3))
  · rw [decide_eq_false h3]
    refine iteF ⟨(by show 1 ≤ sizeLine; decide), fun c hc => ?_⟩
    have s3 := same_new hc (.tup [V.str "0"])
    exact q (.ref c) .z _ (.z upd_same) (fun k hk => by simp [Tm.nums] at hk) rfl ((B2.same s3).more (by omega)) ((but_of s1).trans (o2.trans (but_of s3)))
section
variable {P : Program} {w : World} {K : PySem.W.Frag} {mg : Str → Option Value} {base : Heap}
abbrev NT : List Str := ["_law_box_here", "_law_pool", "_law_deep", "_law_way", "_law_one"]
theorem scLTerm : FnScope NT ["_law_box_here", "_law_pool", "_law_deep"] (defScope sTermL) := ⟨rfl, rfl, rfl, by decide +kernel, rfl, by decide +kernel, by decide +kernel⟩
theorem ok_lterm {n : Nat} {f fT fP : Addr} {fd fdT dP : FuncData} (F : Fun K "_law_term" "_law_term" sTermL f fd) (b2 : Binds K fd ["_law_box_here", "_law_pool", "_law_deep"] []) (mF : mg "_law_term" = some (.ref f))
    (G : FnOk P w K mg base CX0 (n + 2) f fd ["_law_box_here", "_law_pool", "_law_deep"] (spLTerm n))
    (GT : FnOk P w K mg base CX0 1 fT fdT ["_law_box_here", "_law_reach"] spTake) (kT : PySem.W.keepIn K (.ref fT) = true) (bT : Binds K fdT ["_law_box_here", "_law_reach"] []) (mT : mg "_law_take" = some (.ref fT))
    (GP : FnOk P w K mg base CX0 2 fP dP ["_law_box_here", "_law_things"] spPick) (kP : PySem.W.keepIn K (.ref fP) = true) (bP : Binds K dP ["_law_box_here", "_law_things"] []) (mP : mg "_law_pick" = some (.ref fP)) :
    FnOk P w K mg base CX0 (n + 3) f fd ["_law_box_here", "_law_pool", "_law_deep"] (spLTerm (n + 1)) := by
  refine F.ok scLTerm (fun vs H Q E h => ?_) (fun cdv A outer s H vs Q E hr h => ?_)
  · obtain ⟨b, p, j, d, rfl, _⟩ := h
    rfl
  obtain ⟨b, p, j, d, rfl, B, hp, pb, dn, d4, hj, q⟩ := h
  have r1 : Room 1 _ := hr.mono (by omega)
  have r2 : Room 2 _ := hr.mono (by omega)
  refine ⟨_, pss_cons (ps_set (i := 3) scLTerm.nd rfl (Or.inl rfl) (pe_call GT r1 rfl mT kT bT .nil pass0 (pa_cons (pv 0) (pa_cons pe_int pa_nil))))
    (pss_cons (ps_if (PW.pt (pw_or (pt_cmpR op_eq (pv 2) pe_int (nomark _)) (pw_or1 (pt_cmpR op_lt (pv 3) pe_int (nomark _))))) (pss_one (ps_ret (pe_ifExp (PW.pt (pw_and (pt_cmpR (op_neD hr.units) (pv 1) (pe_lst pa_nil) (nomark _))
        (pw_and1 (pt_cmpR op_gt (pe_call GT r1 rfl mT kT bT .nil pass0 (pa_cons (pv 0) (pa_cons pe_int pa_nil))) pe_int (nomark _)))))
        (pe_call GP r2 rfl mP kP bP .nil pass0 (pa_cons (pv 0) (pa_cons (pv 1) pa_nil))) (pe_tup (pa_cons pe_str pa_nil))))) pss_nil)
    (pss_cons (ps_if (pt_cmpR op_lt (pv 3) pe_int (nomark _)) (pss_one (ps_ret (pe_tup (pa_cons pe_str (pa_cons (pe_call G hr rfl mF F.kp b2 .nil pass0 (pa_cons (pv 0) (pa_cons (pv 1) (pa_cons (pe_op op_sub (pv 2) pe_int) pa_nil)))) pa_nil))))) pss_nil)
    (pss_cons (ps_set (i := 4) scLTerm.nd rfl (Or.inl rfl) (pe_call G hr rfl mF F.kp b2 .nil pass0 (pa_cons (pv 0) (pa_cons (pv 1) (pa_cons (pe_op op_sub (pv 2) pe_int) pa_nil)))))
    (pss_one (ps_ret (pe_tup (pa_cons pe_str (pa_cons (pv 4) (pa_cons (pe_call G hr rfl mF F.kp b2 .nil pass0 (pa_cons (pv 0) (pa_cons (pv 1) (pa_cons (pe_op op_sub (pv 2) pe_int) pa_nil)))) pa_nil))))))))), ?_⟩
  have p1 : 1 ≤ 2 ^ d := Nat.one_le_two_pow
  have p2 : 2 ^ (d + 1) = 2 * 2 ^ d := by rw [Nat.pow_succ]; omega
  refine ⟨_, rfl, b, _, j, rfl, B, by omega, by decide, by decide, fun way H1 w0 w5 B1 o1 => ?_⟩
  have hp1 := o1 _ _ hp pb
  by_cases h0 : d = 0
  · refine ⟨_, rfl, rfl, true, congrArg V.bl (decide_eq_true (by rw [h0]; rfl)), iteT ?_⟩
    exact leaf_ok B1 hp1 pb (by omega) fun v t H2 T sm sz B2 o2 => q v t H2 T sm (by omega) (B2.more (by omega)) (o1.trans o2)
  · refine ⟨_, rfl, rfl, false, congrArg V.bl (decide_eq_false (fun z => h0 (by injection z with z; omega))), iteF ?_⟩
    refine ⟨_, rfl, _, _, rfl, rfl, decide (way < 2), rfl, ?_⟩
    by_cases h2 : way < 2
    · rw [decide_eq_true h2]
      refine iteT ?_
      exact leaf_ok B1 hp1 pb (by omega) fun v t H2 T sm sz B2 o2 => q v t H2 T sm (by omega) (B2.more (by omega)) (o1.trans o2)
    · rw [decide_eq_false h2]
      refine iteF ?_
      obtain ⟨e, rfl⟩ : ∃ e, d = e + 1 := ⟨d - 1, by omega⟩
      have e1 : ([V.ref b, V.ref p, V.int (((e + 1 : Nat) : Int) - 1)] : List V) = [V.ref b, V.ref p, V.int (e : Nat)] := by rw [show (((e + 1 : Nat) : Int) - 1) = (e : Nat) by omega]
      have p0 : 1 ≤ 2 ^ e := Nat.one_le_two_pow
      have p3 : 2 ^ (e + 1) = 2 * 2 ^ e := by rw [Nat.pow_succ]; omega
      refine ⟨_, rfl, _, _, rfl, rfl, decide (way < 4), rfl, ?_⟩
      by_cases h3 : way < 4
      · rw [decide_eq_true h3]
        refine iteT ⟨_, rfl, _, rfl, _, rfl, _, _, rfl, rfl, b, p, _, e, e1, B1, hp1, pb, by omega, by omega, by omega, fun v t H2 T sm sz B2 o2 => ?_⟩
        refine ⟨(by show 2 ≤ sizeLine; decide), fun c hc => ?_⟩
        have s3 := same_new hc (.tup [V.str "s", v])
        exact q (.ref c) (.s t) _ (.s upd_same (T.same s3)) sm (by rw [p2]; simp only [Tm.size]; omega) ((B2.same s3).more (by omega)) (o1.trans (o2.trans (but_of s3)))
      · rw [decide_eq_false h3]
        refine iteF ⟨_, rfl, _, rfl, _, rfl, _, _, rfl, rfl, b, p, _, e, e1, B1, hp1, pb, by omega, by omega, by omega, fun v t H2 T sm sz B2 o2 => ?_⟩
        have hp2 := o2 _ _ hp1 pb
        refine ⟨_, rfl, _, rfl, _, rfl, _, rfl, _, _, rfl, rfl, b, p, _, e, e1, B2, hp2, pb, by omega, by omega, by omega, fun v' t' H3 T' sm' sz' B3 o3 => ?_⟩
        refine ⟨(by show 3 ≤ sizeLine; decide), fun c hc => ?_⟩
        have s4 := same_new hc (.tup [V.str "f", v, v'])
        exact q (.ref c) (.f t t') _ (.f upd_same ((T.box o3 B2).same s4) (T'.same s4)) (fun k hk => by
            rcases List.mem_append.mp hk with hk | hk
            · exact sm k hk
            · exact sm' k hk) (by rw [p2]; simp only [Tm.size]; omega) ((B3.same s4).more (by omega)) (o1.trans (o2.trans (o3.trans (but_of s4))))
theorem lterm_ok {f fT fP : Addr} {fd fdT dP : FuncData} (F : Fun K "_law_term" "_law_term" sTermL f fd) (b2 : Binds K fd ["_law_box_here", "_law_pool", "_law_deep"] []) (mF : mg "_law_term" = some (.ref f))
    (GT : FnOk P w K mg base CX0 1 fT fdT ["_law_box_here", "_law_reach"] spTake) (kT : PySem.W.keepIn K (.ref fT) = true) (bT : Binds K fdT ["_law_box_here", "_law_reach"] []) (mT : mg "_law_take" = some (.ref fT))
    (GP : FnOk P w K mg base CX0 2 fP dP ["_law_box_here", "_law_things"] spPick) (kP : PySem.W.keepIn K (.ref fP) = true) (bP : Binds K dP ["_law_box_here", "_law_things"] []) (mP : mg "_law_pick" = some (.ref fP)) :
    ∀ n : Nat, FnOk P w K mg base CX0 (n + 2) f fd ["_law_box_here", "_law_pool", "_law_deep"] (spLTerm n)
  | 0 => none_left fun vs H Q E h => by
    obtain ⟨b, p, j, d, _, _, _, _, h, _⟩ := h
    omega
  | n + 1 => ok_lterm F b2 mF (lterm_ok F b2 mF GT kT bT mT GP kP bP mP n) GT kT bT mT GP kP bP mP
theorem scUnlikeL : FnScope ["_law_atoms", "_law_found", "_law_atom_here"] ["_law_atoms"] (defScope sUnlikeL) := ⟨rfl, rfl, rfl, by decide +kernel, rfl, by decide +kernel, by decide +kernel⟩
theorem ok_unlikel {f : Addr} {fd : FuncData} (F : Fun K "_law_unlike" "_law_unlike" sUnlikeL f fd) (mTuple : mg "tuple" = none) : FnOk P w K mg base CX0 1 f fd ["_law_atoms"] spUnlikeL := by
  refine F.ok scUnlikeL (fun vs H Q E h => ?_) (fun cdv A outer s H vs Q E hr h => ?_)
  · obtain ⟨q, xs, as, rfl, _⟩ := h
    rfl
  obtain ⟨q, xs, as, rfl, hq, A1, ok, fin⟩ := h
  refine ⟨_, pss_cons (ps_set (i := 1) scUnlikeL.nd rfl (Or.inl rfl) (pe_lst pa_nil))
    (pss_cons (ps_for PassesOwn.never rfl (pi_list (pv 0)) (pg_name (i := 2) scUnlikeL.nd rfl (Or.inl rfl))
      (pss_one (ps_if (pt_cmpR (op_notInD (hu65 hr)) (pv 2) (pv 1) (by rfl)) (pss_one (ps_expr (pe_bm PySem.F.plainAttrs_list PySem.F.slot_list_append PySem.F.type_list_append mt_append (pv 1) (pa_cons (pv 2) pa_nil)))) pss_nil)))
    (pss_one (ps_ret (pe_callTy call_tuple_of (by rfl) mTuple (by decide +kernel) (pa_cons (pv 1) pa_nil))))), ?_⟩
  have big : (10000 : Nat) ≤ sizeLine := by decide
  have xl := A1.len
  have o6 := ok.few
  refine ⟨(by show 0 ≤ sizeLine; decide), fun l hl => ?_⟩
  have s1 := same_new hl (.lst ([] : List V))
  have hq1 := s1 _ _ hq
  have lq : q ≠ l := ne_of_none hq hl
  refine ⟨_, rfl, q, rfl, ⟨_, .inl (.inl hq1)⟩, for_list (K := K) (a := q) (xs := xs) (fun i σ H2 => ∃ (x2 : Option V) (ys : List V) (bs : List At), σ = [some (.ref q), some (.ref l), x2] ∧ H2 l = some (.lst ys) ∧ AtsAt H2 ys bs ∧ AtsOk bs ∧ bs.Nodup ∧ bs.length ≤ i ∧ Same H H2)
    ⟨none, [], [], rfl, upd_same, trivial, ⟨by simp, by simp⟩, by simp, by simp, s1⟩ (fun i σ H2 _ ⟨_, _, _, _, _, _, _, _, _, h⟩ => .inl (.inl (h _ _ hq))) ?_ ?_⟩
  · rintro i x σ H2 hi ⟨x2, ys, bs, rfl, h2, A2, ok2, nd2, bl, s2⟩
    obtain ⟨a, ha, T⟩ := A1.get hi
    have am := List.mem_of_getElem? ha
    have li : i < as.length := (List.getElem?_eq_some_iff.mp ha).1
    have yl := A2.len
    have T2 := atAt_same T s2
    refine ⟨_, rfl, _, rfl, atD a, bs.map atD, at_dp T2, .lst (.inl (.inl h2)) (ats_dp A2), at_shaped (ok.ok a am), ats_shaped fun b hb => ok2.ok b hb, ?_⟩
    by_cases nin : a ∈ bs
    · refine ⟨false, by rw [in_ats.mpr nin]; rfl, iteF ?_⟩
      exact ⟨_, ys, bs, rfl, h2, A2, ok2, nd2, by omega, s2⟩
    · refine ⟨true, by rw [notin_ats nin]; rfl, iteT ?_⟩
      refine ⟨_, rfl, .inl ⟨rfl, _, .inl (.inl h2)⟩, _, rfl, l, _, _, rfl, rfl, h2, by omega, ?_⟩
      have keep : ∀ b zs, H2 b = some (.tup zs) → (upd H2 l (.lst (ys ++ [x]))) b = some (.tup zs) := fun b zs z => by rw [upd_ne (ne_of z h2 (by intro e; cases e))]; exact z
      refine ⟨_, ys ++ [x], bs ++ [a], rfl, upd_same, (A2.mono keep).append ⟨atAt_mono keep T2, trivial⟩, AtsOk.mk (by simp; omega) (fun c hc => ?_), ?_, by simp; omega, ?_⟩
      · rcases List.mem_append.mp hc with hc | hc
        · exact ok2.ok c hc
        · obtain rfl : c = a := by simpa using hc
          exact ok.ok c am
      · rw [List.nodup_append]
        exact ⟨nd2, by simp, fun x hx y hy e => by
          obtain rfl : y = a := by simpa using hy
          exact nin (e ▸ hx)⟩
      · intro c o z
        rw [upd_ne (ne_of_none z hl)]
        exact s2 _ _ z
  · rintro σ H2 ⟨x2, ys, bs, rfl, h2, A2, ok2, nd2, bl, s2⟩
    exact ⟨_, rfl, l, _, rfl, .inl ⟨.inl (.inl h2), fun p hp => fin p ys bs _ upd_same (A2.same (same_new hp _)) ok2 nd2 (by omega) (s2.trans (same_new hp _))⟩⟩
end
end Rp

set_option maxHeartbeats 16000000
/-! The law's own texts: terms, atoms. -/
namespace Rp
open PySem PySem.Spec PyProof.Rows L2 TL StX
def spLText (n : Nat) : Sp := fun vs H Q _ => ∃ (v : V) (t : Tm), vs = [v] ∧ TmAt H v t ∧ t.small ∧ t.size ≤ 1000 ∧ t.deep < n ∧ ∀ H', Same H H' → Q (.str t.txt) H'
theorem kid_nums {t k : Tm} (h : k ∈ t.kids) : ∀ n ∈ k.nums, n ∈ t.nums := by
  cases t with
  | v n => simp [Tm.kids] at h
  | z => simp [Tm.kids] at h
  | s t => simp [Tm.kids] at h; subst h; exact fun n hn => hn
  | f l r =>
    simp [Tm.kids] at h
    rcases h with rfl | rfl
    · exact fun n hn => List.mem_append.mpr (.inl hn)
    · exact fun n hn => List.mem_append.mpr (.inr hn)
section
variable {P : Program} {w : World} {K : PySem.W.Frag} {mg : Str → Option Value} {base : Heap}
theorem str_ne0 {a : Str} (h : 1 ≤ a.length) : a ≠ ("" : Str) := by
  rintro rfl
  have : ("" : Str).length = 0 := by decide +kernel
  omega
theorem txt_pos (t : Tm) : 1 ≤ t.txt.length := by
  have e := Tm.txt_kids t
  cases t with
  | v n =>
    show 1 ≤ (("x" : Str) ++ Str.ofString (toString n)).length
    rw [slen]
    have : ("x" : Str).length = 1 := by decide +kernel
    omega
  | z => show 1 ≤ ("0" : Str).length; decide +kernel
  | s t =>
    have e : (Tm.s t).txt = ("s" : Str) ++ "(" ++ Txt.join "," [t.txt] ++ ")" := e
    rw [e, slen, slen, slen]
    have : ("s" : Str).length = 1 := by decide +kernel
    omega
  | f l r =>
    have e : (Tm.f l r).txt = ("f" : Str) ++ "(" ++ Txt.join "," [l.txt, r.txt] ++ ")" := e
    rw [e, slen, slen, slen]
    have : ("f" : Str).length = 1 := by decide +kernel
    omega
theorem scLText : FnScope ["_law_term_here", "_law_parts", "_law_part"] ["_law_term_here"] (defScope sText) := ⟨rfl, rfl, rfl, by decide +kernel, rfl, by decide +kernel, by decide +kernel⟩
theorem ok_ltext {n : Nat} {f : Addr} {fd : FuncData} (F : Fun K "_law_term_words" "_law_term_words" sText f fd) (b1 : Binds K fd ["_law_term_here"] []) (mF : mg "_law_term_words" = some (.ref f)) (G : FnOk P w K mg base CX0 n f fd ["_law_term_here"] (spLText n)) (M : SameG mg) :
    FnOk P w K mg base CX0 (n + 1) f fd ["_law_term_here"] (spLText (n + 1)) := by
  refine F.ok scLText (fun vs H Q E h => ?_) (fun cdv A outer s H vs Q E hr h => ?_)
  · obtain ⟨v, t, rfl, _⟩ := h
    rfl
  obtain ⟨v, t, rfl, T, sm, sz, dp, q⟩ := h
  refine ⟨_, pss_cons (ps_if (pt_val (pe_callB (id := "isinstance") call_isi (by rfl) M.isi (by decide +kernel) (pa_cons (pv 0) (pa_cons (pe_bltn (v := .ty "int") (by rfl) M.int (by decide +kernel) rfl) pa_nil))))
      (pss_one (ps_ret (pe_op op_add_str pe_str (pe_callTy call_str_int (by rfl) M.str (by decide +kernel) (pa_cons (pv 0) pa_nil))))) pss_nil)
    (pss_cons (ps_set (i := 1) scLText.nd rfl (Or.inl rfl) (pe_bm PySem.F.plainAttrs_str PySem.F.slot_str_join PySem.F.type_str_join mt_join pe_str (pa_cons
      (pe_lc (own := [("_law_part", 2)]) (g := gName 2) (tt := tYes) (te := tCall (spLText n) [] E0 (tCons (tVar 2) tNil)) rfl scLText.nd (pi_tup (pe_slice sl_tup (pv 0) (po_some pe_int) po_none))
        (blkOk_by (N := ["_law_term_here", "_law_parts", "_law_part"]) (sc := defScope sText) (by decide +kernel)) (fun _ _ _ _ _ => pg_name (i := 2) scLText.nd rfl (Or.inl rfl))
        (fun _ _ _ _ _ => pts_nil) (fun _ _ _ _ _ => pe_call G hr (by rfl) mF F.kp b1 .nil pass0 (pa_cons (pv 2) pa_nil))) pa_nil)))
    (pss_one (ps_ret (pe_op op_add_str (pe_ix ix_tup (pv 0) pe_int (fun _ _ => rfl)) (pe_ifExp (pt_cmpR op_ne (pv 1) pe_str (nomark _)) (pe_op op_add_str (pe_op op_add_str pe_str (pv 1)) pe_str) pe_str))))), ?_⟩
  have big : (10000 : Nat) ≤ sizeLine := by decide
  have tl0 := txt_len t sm
  rcases T.ty (K := K) with ⟨m, rfl, rfl⟩ | ⟨a, xs, rfl, ha, ty, no⟩
  · have hm := sm m (by simp [Tm.nums])
    refine ⟨_, rfl, _, _, _, _, true, rfl, .ty "int", .base (.int m), kit_ii, true, rfl, iteT ?_⟩
    refine ⟨_, rfl, m, rfl, ?_, "x", _, rfl, rfl, ?_, q H (Same.refl H)⟩
    · have := Nat.log2_le_self m.natAbs; omega
    · have := num_len hm
      have : ("x" : Str).length = 1 := by decide +kernel
      show 1 + (Str.ofString (toString m)).length ≤ _
      omega
  · obtain ⟨a', ks, e, ha', hk, hks⟩ := T.tupled no
    cases e
    refine ⟨_, rfl, _, _, _, _, false, rfl, .ty "int", ty, kit_ti, false, rfl, iteF ?_⟩
    have l3 : ("(" : Str).length = 1 := by decide +kernel
    have l4 : (")" : Str).length = 1 := by decide +kernel
    have l5 : ("," : Str).length = 1 := by decide +kernel
    have kid_ok : ∀ (x : V) (i : Nat), ks[i]? = some x → ∃ k, t.kids[i]? = some k ∧ TmAt H x k ∧ k.small ∧ k.size ≤ 1000 ∧ k.deep < n := by
      intro x i hx
      have hil : i < t.kids.length := by rw [← hk]; exact (List.getElem?_eq_some_iff.mp hx).1
      have hki : t.kids[i]? = some t.kids[i] := List.getElem?_eq_getElem hil
      have mem : t.kids[i] ∈ t.kids := List.getElem_mem hil
      have d1 := kid_deep mem
      have z1 := kid_size mem
      refine ⟨_, hki, hks i x _ hx hki, ?_, by omega, by omega⟩
      exact fun k hk' => sm k (kid_nums mem k hk')
    have hl1 : (signHead t).length = 1 := by
      cases t with
      | v n => exact absurd rfl (no n)
      | z => show ("0" : Str).length = 1; decide +kernel
      | s t => show ("s" : Str).length = 1; decide +kernel
      | f l r => show ("f" : Str).length = 1; decide +kernel
    refine ⟨rfl, _, rfl, 1, rfl, a, _, rfl, .inl (.inl ha'), cut_part _ _, fun p hp => ?_⟩
    rw [cut_tail]
    have s1 := same_new hp (.tup ks)
    refine ⟨p, rfl, ⟨_, .inl (.inl upd_same)⟩, fun D hD => lc_tup (K := K) (a := p) (xs := ks) (fun i H2 => H2 D = some (.lst (((t.kids.take i).map Tm.txt).map V.str)) ∧ Same (upd H p (.tup ks)) H2) ⟨upd_same, same_new hD _⟩ (fun i H2 _ h => .inl (.inl (h.2 _ _ upd_same))) ?_ ?_⟩
    · rintro i x H2 hi ⟨h2, s2⟩
      obtain ⟨k, hki, Tk, smk, szk, dk⟩ := kid_ok x i hi
      refine ⟨rfl, ?_⟩
      refine ⟨_, rfl, x, k, rfl, (Tk.same s1).same s2, smk, szk, dk, fun H3 s3 => ⟨_, s3 _ _ h2, ?_, ?_, ?_⟩⟩
      · rw [List.length_map, List.length_map, List.length_take]
        have : t.kids.length ≤ 2 := by cases t <;> simp [Tm.kids]
        omega
      · have tk : t.kids.take (i + 1) = t.kids.take i ++ [k] := by rw [List.take_add_one, hki]; rfl
        rw [upd_same, tk, List.map_append, List.map_append]; rfl
      · intro c o z
        rw [upd_ne (ne_of_none z hD)]
        exact s3 _ _ (s2 _ _ z)
    · rintro H2 ⟨h2, s2⟩
      rw [hk, List.take_of_length_le (Nat.le_refl _)] at h2
      have sA := s1.trans s2
      have each : ∀ k ∈ t.kids, k.txt.length ≤ 4000 := fun k hk' => by
          obtain ⟨i, hi, rfl⟩ := List.getElem_of_mem hk'
          obtain ⟨k', h1, _, h3, h4, _⟩ := kid_ok (ks[i]'(by omega)) i (List.getElem?_eq_getElem (by omega))
          rw [List.getElem?_eq_getElem hi] at h1
          cases h1
          have := txt_len _ h3
          omega
      refine ⟨",", D, t.kids.map Tm.txt, rfl, rfl, .inl (.inl (.inl h2)), ?_, ?_⟩
      · rw [l5]
        match hkk : t.kids, each with
        | [], _ => simp
        | [k], each => simp; have := each k (by simp); omega
        | [k, k'], each => simp; have := each k (by simp); have := each k' (by simp); omega
        | k :: k' :: k'' :: r, _ => cases t <;> simp [Tm.kids] at hkk
      · have ha2 := sA _ _ ha'
        refine ⟨_, rfl, a, _, _, _, rfl, rfl, .inl (.inl ha2), at_of (j := 0) rfl rfl, ?_⟩
        have done := q H2 sA
        generalize hjj : Txt.join "," (t.kids.map Tm.txt) = jj
        by_cases hz : t = .z
        · subst hz
          have ej : jj = ("" : Str) := by rw [← hjj]; decide +kernel
          subst ej
          refine ⟨_, rfl, rfl, false, by show V.bl (!decide (V.str "" = V.str "")) = _; rw [decide_eq_true rfl]; rfl, iteF ?_⟩
          refine ⟨signHead .z, "", rfl, rfl, by decide +kernel, ?_⟩
          have e0 : signHead .z ++ ("" : Str) = Tm.z.txt := by decide +kernel
          rw [e0]
          exact done
        · have pt : t.txt = signHead t ++ "(" ++ jj ++ ")" := by
            rw [Tm.txt_kids t, ← hjj]
            cases t with
            | v n => exact absurd rfl (no n)
            | z => exact absurd rfl hz
            | s t => rfl
            | f l r => rfl
          have lt := congrArg Str.length pt
          rw [slen, slen, slen] at lt
          have nz : jj ≠ ("" : Str) := by
            refine str_ne0 ?_
            rw [← hjj]
            cases t with
            | v n => exact absurd rfl (no n)
            | z => exact absurd rfl hz
            | s t => show 1 ≤ (Txt.join "," [t.txt]).length; rw [join1]; exact txt_pos t
            | f l r => show 1 ≤ (Txt.join "," [l.txt, r.txt]).length; rw [join2, slen, slen]; have := txt_pos l; omega
          refine ⟨_, rfl, rfl, true, by show V.bl (!decide (V.str jj = V.str "")) = _; rw [decide_eq_false fun z => nz (V.str.inj z)]; rfl, iteT ?_⟩
          refine ⟨_, rfl, "(", jj, rfl, rfl, by omega, ?_⟩
          refine ⟨"(" ++ jj, ")", rfl, rfl, by rw [slen]; omega, ?_⟩
          refine ⟨signHead t, "(" ++ jj ++ ")", rfl, rfl, by rw [slen, slen]; omega, ?_⟩
          have ea : signHead t ++ ("(" ++ jj ++ ")") = t.txt := by
            rw [pt]
            apply ext_tl
            simp only [tl_append, List.append_assoc]
          rw [ea]
          exact done
theorem ltext_ok {f : Addr} {fd : FuncData} (F : Fun K "_law_term_words" "_law_term_words" sText f fd) (b1 : Binds K fd ["_law_term_here"] []) (mF : mg "_law_term_words" = some (.ref f)) (M : SameG mg) : ∀ n : Nat, FnOk P w K mg base CX0 n f fd ["_law_term_here"] (spLText n)
  | 0 => none_left fun vs H Q E h => by
    obtain ⟨v, t, _, _, _, _, h, _⟩ := h
    omega
  | n + 1 => ok_ltext F b1 mF (ltext_ok F b1 mF M n) M
theorem ltext5 {f : Addr} {fd : FuncData} (F : Fun K "_law_term_words" "_law_term_words" sText f fd) (b1 : Binds K fd ["_law_term_here"] []) (mF : mg "_law_term_words" = some (.ref f)) (M : SameG mg) : FnOk P w K mg base CX0 60 f fd ["_law_term_here"] (spLText 60) := ltext_ok F b1 mF M 60
theorem scLAtom : FnScope ["_law_atom_here", "_law_term_here"] ["_law_atom_here"] (defScope sLawAT) := ⟨rfl, rfl, rfl, by decide +kernel, rfl, by decide +kernel, by decide +kernel⟩
theorem ok_latom {f fT : Addr} {fd dT : FuncData} (F : Fun K "_law_atom_words" "_law_atom_words" sLawAT f fd)
    (GT : FnOk P w K mg base CX0 60 fT dT ["_law_term_here"] (spLText 60)) (kT : PySem.W.keepIn K (.ref fT) = true) (bT : Binds K dT ["_law_term_here"] []) (mT : mg "_law_term_words" = some (.ref fT)) : FnOk P w K mg base CX0 61 f fd ["_law_atom_here"] spAtomText := by
  refine F.ok scLAtom (fun vs H Q E h => ?_) (fun cdv A outer s H vs Q E hr h => ?_)
  · obtain ⟨v, a, rfl, _⟩ := h
    rfl
  obtain ⟨v, a, rfl, ⟨p, xs, rfl, hp, A1⟩, ok, q⟩ := h
  refine ⟨_, pss_one (ps_ret (pe_bm PySem.F.plainAttrs_str PySem.F.slot_str_join PySem.F.type_str_join mt_join pe_str (pa_cons (pe_op op_cat (pe_lst (pa_cons (pe_ix ix_tup (pv 0) pe_int (fun _ _ => rfl)) pa_nil))
      (pe_lc (own := [("_law_term_here", 1)]) (g := gName 1) (tt := tYes) (te := tCall (spLText 60) [] E0 (tCons (tVar 1) tNil)) rfl scLAtom.nd (pi_tup (pe_slice sl_tup (pv 0) (po_some pe_int) po_none)) (blkOk_by (N := ["_law_atom_here", "_law_term_here"]) (sc := defScope sLawAT) (by decide +kernel)) (fun _ _ _ _ _ => pg_name (i := 1) scLAtom.nd rfl (Or.inl rfl))
        (fun _ _ _ _ _ => pts_nil) (fun _ _ _ _ _ => pe_call GT hr (by rfl) mT kT bT .nil pass0 (pa_cons (pv 1) pa_nil)))) pa_nil))), ?_⟩
  have big : (10000 : Nat) ≤ sizeLine := by decide
  have xl := A1.len
  have o2 := ok.two
  refine ⟨rfl, _, rfl, p, _, _, _, rfl, rfl, .inl (.inl hp), at_of (j := 0) rfl rfl, (by show 1 ≤ sizeLine; decide), fun c hc => ?_⟩
  have s1 := same_new hc (.lst [V.str a.nm])
  refine ⟨_, rfl, 1, rfl, p, _, rfl, .inl (.inl (s1 _ _ hp)), cut_part _ _, fun g hg => ?_⟩
  rw [cut_tail]
  have s2 := same_new hg (.tup xs)
  have hg0 : (upd (upd H c (.lst [V.str a.nm])) g (.tup xs)) g = some (.tup xs) := upd_same
  refine ⟨g, rfl, ⟨_, .inl (.inl hg0)⟩, fun D hD => lc_tup (K := K) (a := g) (xs := xs) (fun i H2 => H2 D = some (.lst (((a.ts.take i).map Tm.txt).map V.str)) ∧ Same (upd (upd H c (.lst [V.str a.nm])) g (.tup xs)) H2) ⟨upd_same, same_new hD _⟩ (fun i H2 _ h => .inl (.inl (h.2 _ _ hg0))) ?_ ?_⟩
  · rintro i x H2 hi ⟨h2, s3⟩
    obtain ⟨t, ht, T⟩ := A1.get hi
    obtain ⟨sm, sz⟩ := ok.sm t (List.mem_of_getElem? ht)
    have dl := Tm.deep_lt t
    refine ⟨rfl, ?_⟩
    refine ⟨_, rfl, x, t, rfl, ((T.same s1).same s2).same s3, sm, by omega, by omega, fun H3 s4 => ⟨_, s4 _ _ h2, ?_, ?_, ?_⟩⟩
    · rw [List.length_map, List.length_map, List.length_take]; omega
    · have tk : a.ts.take (i + 1) = a.ts.take i ++ [t] := by rw [List.take_add_one, ht]; rfl
      rw [upd_same, tk, List.map_append, List.map_append]; rfl
    · intro c o z
      rw [upd_ne (ne_of_none z hD)]
      exact s4 _ _ (s3 _ _ z)
  · rintro H2 ⟨h2, s3⟩
    rw [xl, List.take_of_length_le (Nat.le_refl _)] at h2
    have ps := parts_sum ok
    have l1 : (" " : Str).length = 1 := by decide +kernel
    refine ⟨c, D, _, _, rfl, rfl, s3 _ _ (s2 _ _ upd_same), h2, by simp; omega, fun l hl => ?_⟩
    have e : [V.str a.nm] ++ (a.ts.map Tm.txt).map V.str = (parts a).map V.str := by simp [parts]
    rw [e]
    have s4 := same_new hl (.lst ((parts a).map V.str))
    exact ⟨" ", l, parts a, rfl, rfl, .inl (.inl (.inl upd_same)), by rw [l1]; omega, q _ (s1.trans (s2.trans (Same.trans (H1 := H2) s3 s4)))⟩
end
end Rp

set_option maxHeartbeats 16000000
/-! The law's shapes, atoms, sayings. -/
namespace Rp
open PySem PySem.Spec PyProof.Rows L2 TL StX
abbrev KVs := List (L2.Key × V)
def ShE (v : V) : Prop := ∃ m : Nat, v = .int (m : Nat) ∧ 1 ≤ m ∧ m ≤ 2
def ShOk (ws : List Str) (kvs : KVs) : Prop := ∀ x ∈ ws, ∃ v, valV kvs (.inr x) = some v ∧ ShE v
theorem merge_has : ∀ {more acc : KVs} {k : L2.Key}, (∀ kv ∈ more, ShE kv.2) → ((∃ v, valV acc k = some v ∧ ShE v) ∨ k ∈ more.map (·.1)) → ∃ v, valV (mergeK acc more) k = some v ∧ ShE v
  | [], acc, k, _, h => by
    rcases h with h | h
    · exact h
    · simp at h
  | kv :: more, acc, k, e, h => by
    have e1 : mergeK acc (kv :: more) = mergeK (putK acc kv.1 kv.2) more := rfl
    rw [e1]
    refine merge_has (fun z hz => e z (by simp [hz])) ?_
    by_cases z : k = kv.1
    · exact .inl ⟨kv.2, by rw [valV_put, if_pos z], e kv (by simp)⟩
    · rcases h with ⟨v, h1, h2⟩ | h
      · exact .inl ⟨v, by rw [valV_put, if_neg z]; exact h1, h2⟩
      · simp only [List.map_cons, List.mem_cons] at h
        exact .inr (h.resolve_left z)
def PairsAt (H : Hp) : List Addr → KVs → Prop
  | [], [] => True
  | p :: ps, kv :: kvs => H p = some (.tup [kV kv.1, kv.2]) ∧ PairsAt H ps kvs
  | _, _ => False
theorem PairsAt.mono {H H' : Hp} (e : ∀ a xs, H a = some (.tup xs) → H' a = some (.tup xs)) : ∀ {ps : List Addr} {kvs : KVs}, PairsAt H ps kvs → PairsAt H' ps kvs
  | [], [], _ => trivial
  | _ :: _, _ :: _, h => ⟨e _ _ h.1, PairsAt.mono e h.2⟩
theorem PairsAt.len {H : Hp} : ∀ {ps : List Addr} {kvs : KVs}, PairsAt H ps kvs → ps.length = kvs.length
  | [], [], _ => rfl
  | _ :: _, _ :: _, h => congrArg (· + 1) (PairsAt.len h.2)
theorem PairsAt.snoc {H : Hp} {p : Addr} {kv : L2.Key × V} (hp : H p = some (.tup [kV kv.1, kv.2])) : ∀ {ps : List Addr} {kvs : KVs}, PairsAt H ps kvs → PairsAt H (ps ++ [p]) (kvs ++ [kv])
  | [], [], _ => ⟨hp, trivial⟩
  | _ :: _, _ :: _, h => ⟨h.1, PairsAt.snoc hp h.2⟩
theorem PairsAt.paired {K : PySem.W.Frag} {H : Hp} : ∀ {ps : List Addr} {kvs : KVs}, PairsAt H ps kvs → Paired (fun p (kv : L2.Key × V) => SqT K H p [kV kv.1, kv.2]) ps kvs
  | [], [], _ => .nil
  | _ :: _, _ :: _, h => .cons (.inl (.inl h.1)) (PairsAt.paired h.2)
theorem ne_box {H : Hp} {a b : Addr} {j : Nat} (B : BoxAt H b j) (h : H a = none) : a ≠ b := by
  obtain ⟨y, hb⟩ := B.some
  exact (ne_of_none hb h).symm
theorem ne_boxT {H : Hp} {a b : Addr} {j : Nat} {o : HO} (B : BoxAt H b j) (h : H a = some o) (n : ∀ xs, o ≠ .lst xs) : a ≠ b := by
  obtain ⟨y, hb⟩ := B.some
  rintro rfl
  rw [hb] at h
  exact n _ (Option.some.inj h).symm
/-- tuples stay, a list taken anew -/
theorem keepU {H : Hp} {D : Addr} {xs : List V} {o : HO} (h : H D = some (.lst xs)) : ∀ q zs, H q = some (.tup zs) → (upd H D o) q = some (.tup zs) := fun q zs z => by
  rw [upd_ne (ne_of z h (by intro e; cases e))]; exact z
theorem keepB {H H' : Hp} {b : Addr} {j : Nat} (B : BoxAt H b j) (o : But b H H') : ∀ q zs, H q = some (.tup zs) → H' q = some (.tup zs) := fun q zs z => o _ _ z (ne_boxT B z (by intro xs e; cases e))
theorem but_new {H : Hp} {b D : Addr} {H0 H1 : Hp} {o : HO} (hD : H D = none) (h : But b H H0) (h' : ∀ x u, H0 x = some u → x ≠ b → H1 x = some u) : But b H (upd H1 D o) := by
  intro x u z nb
  rw [upd_ne (ne_of_none z hD)]
  exact h' _ _ (h _ _ z nb) nb
def spShapes : Sp := fun vs H Q _ => ∃ (b p : Addr) (ws : List Str) (j : Nat), vs = [.ref b, .ref p] ∧ BoxAt H b j ∧ H p = some (.lst (ws.map V.str)) ∧ p ≠ b ∧ ws.length = 4 ∧ j + 4 ≤ 1000000 ∧
  ∀ (d : Addr) (kvs : KVs) (H' : Hp), H d = none → H' d = some (.dK kvs) → ShOk ws kvs → BoxAt H' b (j + 4) → But b H H' → Q (.ref d) H'
structure Wrd (H : Hp) (b d p pp : Addr) (ws : List Str) (kvs : KVs) : Prop where
  hd : H d = some (.dK kvs)
  sh : ShOk ws kvs
  hp : H p = some (.lst (ws.map V.str))
  hq : H pp = some (.lst poolV)
  pb : p ≠ b
  qb : pp ≠ b
  nm : ∀ x ∈ ws, NameOk x
  four : ws.length = 4
theorem Wrd.db {H : Hp} {b d p pp : Addr} {ws : List Str} {kvs : KVs} {j : Nat} (W : Wrd H b d p pp ws kvs) (B : BoxAt H b j) : d ≠ b := ne_boxT B W.hd (by intro xs e; cases e)
theorem Wrd.but {H H' : Hp} {b d p pp : Addr} {ws : List Str} {kvs : KVs} {j : Nat} (W : Wrd H b d p pp ws kvs) (B : BoxAt H b j) (o : But b H H') : Wrd H' b d p pp ws kvs :=
  ⟨o _ _ W.hd (W.db B), W.sh, o _ _ W.hp W.pb, o _ _ W.hq W.qb, W.pb, W.qb, W.nm, W.four⟩
theorem Wrd.same {H H' : Hp} {b d p pp : Addr} {ws : List Str} {kvs : KVs} (W : Wrd H b d p pp ws kvs) (o : Same H H') : Wrd H' b d p pp ws kvs :=
  ⟨o _ _ W.hd, W.sh, o _ _ W.hp, o _ _ W.hq, W.pb, W.qb, W.nm, W.four⟩
def spAtomL : Sp := fun vs H Q _ => ∃ (b d p pp : Addr) (ws : List Str) (kvs : KVs) (j m : Nat), vs = [.ref b, .ref d, .ref p, .ref pp, .int m] ∧ BoxAt H b j ∧ Wrd H b d p pp ws kvs ∧ m ≤ 2 ∧ j + 31 ≤ 1000000 ∧
  ∀ (v : V) (a : At) (H' : Hp), AtAt H' v a → AtOk 50 a → BoxAt H' b (j + 31) → But b H H' → Q v H'
def spSayingL : Sp := fun vs H Q _ => ∃ (b d p pp : Addr) (ws : List Str) (kvs : KVs) (j m : Nat), vs = [.ref b, .ref d, .ref p, .ref pp, .int m] ∧ BoxAt H b j ∧ Wrd H b d p pp ws kvs ∧ m ≤ 3 ∧ j + 150 ≤ 1000000 ∧
  ∀ (v : V) (s : Sy) (H' : Hp), SyAt H' v s → SyOk s → BoxAt H' b (j + 150) → But b H H' → Q v H'
section
variable {P : Program} {w : World} {K : PySem.W.Frag} {mg : Str → Option Value} {base : Heap}
theorem scShapes : FnScope ["_law_box_here", "_law_names_here", "_law_name"] ["_law_box_here", "_law_names_here"] (defScope sShapes) := ⟨rfl, rfl, rfl, by decide +kernel, rfl, by decide +kernel, by decide +kernel⟩
def tePair (K : PySem.W.Frag) : TE := tTup (tCons (tVar 2) (tCons (tOp (rIxL K) (tLst (tCons (tC (.int 1)) (tCons (tC (.int 1)) (tCons (tC (.int 1)) (tCons (tC (.int 2)) tNil))))) (tCall spTake [] E0 (tCons (tVar 0) (tCons (tC (.int 4)) tNil)))) tNil))
theorem ok_shapes {f fT : Addr} {fd fdT : FuncData} (F : Fun K "_law_shapes" "_law_shapes" sShapes f fd)
    (GT : FnOk P w K mg base CX0 1 fT fdT ["_law_box_here", "_law_reach"] spTake) (kT : PySem.W.keepIn K (.ref fT) = true) (bT : Binds K fdT ["_law_box_here", "_law_reach"] []) (mT : mg "_law_take" = some (.ref fT))
    (mDict : mg "dict" = none) : FnOk P w K mg base CX0 2 f fd ["_law_box_here", "_law_names_here"] spShapes := by
  refine F.ok scShapes (fun vs H Q E h => ?_) (fun cdv A outer s H vs Q E hr h => ?_)
  · obtain ⟨b, p, ws, j, rfl, _⟩ := h
    rfl
  obtain ⟨b, p, ws, j, rfl, B, hp, pb, w4, hj, q⟩ := h
  refine ⟨_, pss_one (ps_ret (pe_callTy (call_dictP rfl) (by rfl) mDict (by decide +kernel) (pa_cons (pe_lc (own := [("_law_name", 2)]) (g := gName 2) (tt := tYes) (te := tePair K) rfl scShapes.nd (pi_list (pv 1))
        (blkOk_by (N := ["_law_box_here", "_law_names_here", "_law_name"]) (sc := defScope sShapes) (by decide +kernel)) (fun _ _ _ _ _ => pg_name (i := 2) scShapes.nd rfl (Or.inl rfl)) (fun _ _ _ _ _ => pts_nil)
        (fun _ _ _ _ _ => pe_tup (pa_cons (pv 2) (pa_cons (pe_ix ix_list (pe_lst (pa_cons pe_int (pa_cons pe_int (pa_cons pe_int (pa_cons pe_int pa_nil))))) (pe_call GT hr (by rfl) mT kT bT .nil pass0 (pa_cons (pv 0) (pa_cons pe_int pa_nil))) (fun _ _ => rfl)) pa_nil)))) pa_nil))), ?_⟩
  have big : (10000 : Nat) ≤ sizeLine := by decide
  refine ⟨_, rfl, p, rfl, ⟨_, .inl (.inl hp)⟩, fun D hD => lc_list (K := K) (a := p) (xs := ws.map V.str) (fun i H2 => ∃ (ps : List Addr) (kvs : KVs), H2 D = some (.lst (ps.map V.ref)) ∧ PairsAt H2 ps kvs ∧ kvs.map (·.1) = (ws.take i).map Sum.inr ∧ (∀ kv ∈ kvs, ShE kv.2) ∧ BoxAt H2 b (j + i) ∧ H2 p = some (.lst (ws.map V.str)) ∧ But b H H2)
    ⟨[], [], upd_same, trivial, rfl, by simp, (B.same (same_new hD _)).more (by omega), same_new hD _ _ _ hp, but_of (same_new hD _)⟩ (fun i H2 _ ⟨_, _, _, _, _, _, _, h, _⟩ => .inl (.inl h)) ?_ ?_⟩
  · rintro i x H2 hi ⟨ps, kvs, h2, A2, kl, ke, B2, hp2, o2⟩
    rw [List.getElem?_map] at hi
    obtain ⟨y, hy, rfl⟩ : ∃ y, ws[i]? = some y ∧ x = .str y := by
      cases hq : ws[i]? with
      | none => rw [hq] at hi; cases hi
      | some p => rw [hq] at hi; exact ⟨p, rfl, by simpa using hi.symm⟩
    have li : i < ws.length := (List.getElem?_eq_some_iff.mp hy).1
    have Db : D ≠ b := ne_box B hD
    have Dp : D ≠ p := (ne_of_none hp hD).symm
    have pl := A2.len
    have kl2 : kvs.length ≤ 4 := by
      have := congrArg List.length kl
      rw [List.length_map, List.length_map, List.length_take] at this
      omega
    refine ⟨rfl, ?_⟩
    unfold tePair
    refine ⟨_, rfl, (by show 4 ≤ sizeLine; decide), fun c hc => ?_⟩
    have s3 := same_new hc (.lst [V.int 1, V.int 1, V.int 1, V.int 2])
    have B3 := B2.same s3
    have cb : c ≠ b := ne_box B2 hc
    refine ⟨_, rfl, b, _, _, rfl, B3, by omega, by decide, by decide, fun r H4 r0 r4 B4 o4 => ?_⟩
    have hc4 := o4 _ _ upd_same cb
    obtain ⟨m, hat, hm⟩ : ∃ m : Nat, atI [V.int 1, V.int 1, V.int 1, V.int 2] r = some (.int (m : Nat)) ∧ 1 ≤ m ∧ m ≤ 2 := by
      rcases (by omega : r = 0 ∨ r = 1 ∨ r = 2 ∨ r = 3) with e | e | e | e <;> subst e
      · exact ⟨1, at_of (j := 0) rfl rfl, by omega, by omega⟩
      · exact ⟨1, at_of (j := 1) rfl rfl, by omega, by omega⟩
      · exact ⟨1, at_of (j := 2) rfl rfl, by omega, by omega⟩
      · exact ⟨2, at_of (j := 3) rfl rfl, by omega, by omega⟩
    refine ⟨c, _, _, _, rfl, rfl, .inl (.inl hc4), hat, (by show 2 ≤ sizeLine; decide), fun t ht => ?_⟩
    have s4 := same_new ht (.tup [V.str y, V.int (m : Nat)])
    have hD4 := s4 _ _ (o4 _ _ (s3 _ _ h2) Db)
    have keep : ∀ a zs, H2 a = some (.tup zs) → (upd (upd H4 t (.tup [V.str y, V.int (m : Nat)])) D (.lst (ps.map V.ref ++ [.ref t]))) a = some (.tup zs) := fun a zs z =>
      keepU hD4 _ _ (s4 _ _ (keepB B3 o4 _ _ (s3 _ _ z)))
    have tD : t ≠ D := (ne_of_none (o4 _ _ (s3 _ _ h2) Db) ht).symm
    refine ⟨_, hD4, by rw [List.length_map]; omega, ps ++ [t], kvs ++ [(.inr y, .int (m : Nat))], by rw [upd_same, List.map_append]; rfl, PairsAt.snoc (by rw [upd_ne tD, upd_same]; rfl) (A2.mono keep), ?_, ?_, ((B4.same s4).upd Db _).more (by omega), ?_, ?_⟩
    · have tk : ws.take (i + 1) = ws.take i ++ [y] := by rw [List.take_add_one, hy]; rfl
      rw [tk, List.map_append, List.map_append, kl]; rfl
    · intro kv hkv
      rcases List.mem_append.mp hkv with hkv | hkv
      · exact ke kv hkv
      · obtain rfl : kv = (.inr y, .int (m : Nat)) := by simpa using hkv
        exact ⟨m, rfl, hm.1, hm.2⟩
    · rw [upd_ne Dp.symm]
      exact s4 _ _ (o4 _ _ (s3 _ _ hp2) pb)
    · exact but_new hD o2 fun a o z nb => s4 _ _ (o4 _ _ (s3 _ _ z) nb)
  · rintro H2 ⟨ps, kvs, h2, A2, kl, ke, B2, hp2, o2⟩
    rw [List.length_map] at B2
    rw [List.length_map, List.take_length] at kl
    refine ⟨D, ps, kvs, rfl, .inl (.inl h2), A2.paired, fun d hd => ?_⟩
    have s3 := same_new hd (.dK (mergeK [] kvs))
    have hd0 : H d = none := but_none o2 B2 hd
    exact q d _ _ hd0 upd_same (fun x hx => merge_has ke (.inr (by rw [kl]; exact List.mem_map.mpr ⟨x, hx, rfl⟩))) ((B2.same s3).more (by omega)) (o2.trans (but_of s3))
abbrev NA : List Str := ["_law_box_here", "_law_shapes_here", "_law_names_here", "_law_pool", "_law_deep", "_law_word", "_law_part"]
theorem scAtomL : FnScope NA ["_law_box_here", "_law_shapes_here", "_law_names_here", "_law_pool", "_law_deep"] (defScope sAtomL) := ⟨rfl, rfl, rfl, by decide +kernel, rfl, by decide +kernel, by decide +kernel⟩
def teTm : TE := tCall (spLTerm 3) [] E0 (tCons (tVar 0) (tCons (tVar 3) (tCons (tVar 4) tNil)))
theorem ok_atoml {f fP fTm : Addr} {fd dP dTm : FuncData} (F : Fun K "_law_atom" "_law_atom" sAtomL f fd)
    (GP : FnOk P w K mg base CX0 2 fP dP ["_law_box_here", "_law_things"] spPick) (kP : PySem.W.keepIn K (.ref fP) = true) (bP : Binds K dP ["_law_box_here", "_law_things"] []) (mP : mg "_law_pick" = some (.ref fP))
    (GTm : FnOk P w K mg base CX0 5 fTm dTm ["_law_box_here", "_law_pool", "_law_deep"] (spLTerm 3)) (kTm : PySem.W.keepIn K (.ref fTm) = true) (bTm : Binds K dTm ["_law_box_here", "_law_pool", "_law_deep"] []) (mTm : mg "_law_term" = some (.ref fTm))
    (mRange : mg "range" = none) (mTuple : mg "tuple" = none) : FnOk P w K mg base CX0 6 f fd ["_law_box_here", "_law_shapes_here", "_law_names_here", "_law_pool", "_law_deep"] spAtomL := by
  refine F.ok scAtomL (fun vs H Q E h => ?_) (fun cdv A outer s H vs Q E hr h => ?_)
  · obtain ⟨b, d, p, pp, ws, kvs, j, m, rfl, _⟩ := h
    rfl
  obtain ⟨b, d, p, pp, ws, kvs, j, m, rfl, B, W, m2, hj, q⟩ := h
  have r2 : Room 2 _ := hr.mono (by decide)
  refine ⟨_, pss_cons (ps_set (i := 5) scAtomL.nd rfl (Or.inl rfl) (pe_call GP r2 rfl mP kP bP .nil pass0 (pa_cons (pv 0) (pa_cons (pv 2) pa_nil))))
    (pss_one (ps_ret (pe_op op_catT (pe_tup (pa_cons (pv 5) pa_nil)) (pe_callTy call_tuple_of (by rfl) mTuple (by decide +kernel) (pa_cons
      (pe_lc (own := [("_law_part", 6)]) (g := gName 6) (tt := tYes) (te := teTm) rfl scAtomL.nd (pi_range1 (by rfl) mRange (pa_cons (pe_dget (hu_of hr) (pv 1) (pv 5) (fun _ _ => rfl)) pa_nil)) (blkOk_by (N := NA) (sc := defScope sAtomL) (by decide +kernel))
        (fun _ _ _ _ _ => pg_name (i := 6) scAtomL.nd rfl (Or.inl rfl)) (fun _ _ _ _ _ => pts_nil) (fun _ _ _ _ _ => pe_call GTm hr (by rfl) mTm kTm bTm .nil pass0 (pa_cons (pv 0) (pa_cons (pv 3) (pa_cons (pv 4) pa_nil))))) pa_nil))))), ?_⟩
  have big : (10000 : Nat) ≤ sizeLine := by decide
  have pw1 : 2 ^ m ≤ 2 ^ 2 := Nat.pow_le_pow_right (by decide) m2
  have pw2 : 2 ^ (m + 1) ≤ 2 ^ 3 := Nat.pow_le_pow_right (by decide) (by omega)
  have w4 := W.four
  refine ⟨_, rfl, _, rfl, b, p, _, j, rfl, B, by omega, W.hp, W.pb, by rw [List.length_map]; omega, by rw [List.length_map]; omega, fun v H1 hv B1 o1 => ?_⟩
  obtain ⟨x, hx, rfl⟩ := List.mem_map.mp hv
  have W1 := W.but B o1
  obtain ⟨_, hval, mm, rfl, mm1, mm2⟩ := W1.sh x hx
  refine ⟨_, rfl, (by show 1 ≤ sizeLine; decide), fun t ht => ?_⟩
  have s2 := same_new ht (.tup [V.str x])
  have W2 := W1.same s2
  have B2 := B1.same s2
  refine ⟨_, rfl, _, rfl, d, _, rfl, by rw [← hval]; exact DGet.k (k := Sum.inr x) W2.hd, _, rfl, by omega, by omega, fun D hD => lc_range (lo := 0) (fun e H3 => ∃ (xs : List V) (ts : List Tm), H3 D = some (.lst xs) ∧ AllAt H3 xs ts ∧ ts.length = e ∧ (∀ u ∈ ts, u.small ∧ u.size ≤ 50) ∧ BoxAt H3 b (j + 1 + 15 * e) ∧ But b (upd H1 t (.tup [V.str x])) H3)
    ⟨[], [], upd_same, trivial, rfl, by simp, (B2.same (same_new hD _)).more (by omega), but_of (same_new hD _)⟩ ?_ ?_⟩
  · rintro e H3 he ⟨xs, ts, h3, A3, tl, tk, B3, o3⟩
    have Db : D ≠ b := ne_box B2 hD
    have xl := A3.len
    have W3 := W2.but B2 o3
    refine ⟨rfl, ?_⟩
    unfold teTm
    refine ⟨_, rfl, _, rfl, _, rfl, b, pp, _, m, rfl, B3, W3.hq, W3.qb, by omega, m2, by omega, fun v u H4 T sm sz B4 o4 => ?_⟩
    have h4 := o4 _ _ h3 Db
    refine ⟨xs, h4, by omega, xs ++ [v], ts ++ [u], upd_same, (A3.mono fun q zs z => keepU h4 _ _ (keepB B3 o4 _ _ z)).append ⟨T.mono (keepU h4), trivial⟩, by simp [tl], fun y hy => ?_, (B4.upd Db _).more (by omega), ?_⟩
    · rcases List.mem_append.mp hy with hy | hy
      · exact tk y hy
      · obtain rfl : y = u := by simpa using hy
        exact ⟨sm, by omega⟩
    · exact but_new hD o3 o4
  · rintro H3 ⟨xs, ts, h3, A3, tl, tk, B3, o3⟩
    have tl2 : ts.length = mm := by rw [tl]; omega
    have xl := A3.len
    refine ⟨D, xs, rfl, .inl ⟨.inl (.inl h3), fun g hg => ?_⟩⟩
    have s4 := same_new hg (.tup xs)
    have ht3 := keepB B2 o3 _ _ (upd_same : (upd H1 t (.tup [V.str x])) t = _)
    refine ⟨t, g, [V.str x], xs, rfl, rfl, .inl (.inl (s4 _ _ ht3)), .inl (.inl upd_same), by simp, by simp; omega, fun e => ?_, fun _ t2 ht2 => ?_⟩
    · rw [e] at xl; simp at xl; omega
    · have s5 := same_new ht2 (.tup ([V.str x] ++ xs))
      exact q _ ⟨x, ts⟩ _ ⟨t2, xs, rfl, upd_same, A3.mono fun q zs z => s5 _ _ (s4 _ _ z)⟩ ⟨W.nm x hx, by show 1 ≤ ts.length; omega, by show ts.length ≤ 2; omega, tk⟩ (((B3.same s4).same s5).more (by omega))
        (o1.trans ((but_of s2).trans (o3.trans ((but_of s4).trans (but_of s5)))))
abbrev NSy : List Str := ["_law_box_here", "_law_shapes_here", "_law_names_here", "_law_pool", "_law_count", "_law_hyps", "_law_turn"]
theorem scSayingL : FnScope NSy ["_law_box_here", "_law_shapes_here", "_law_names_here", "_law_pool", "_law_count"] (defScope sSayingL) := ⟨rfl, rfl, rfl, by decide +kernel, rfl, by decide +kernel, by decide +kernel⟩
def teAtom : TE := tCall spAtomL [] E0 (tCons (tVar 0) (tCons (tVar 1) (tCons (tVar 2) (tCons (tVar 3) (tCons (tCall spTake [] E0 (tCons (tVar 0) (tCons (tC (.int 2)) tNil))) tNil)))))
theorem ok_sayingl {f fT fA fU : Addr} {fd dT dA dU : FuncData} (F : Fun K "_law_saying" "_law_saying" sSayingL f fd)
    (GT : FnOk P w K mg base CX0 1 fT dT ["_law_box_here", "_law_reach"] spTake) (kT : PySem.W.keepIn K (.ref fT) = true) (bT : Binds K dT ["_law_box_here", "_law_reach"] []) (mT : mg "_law_take" = some (.ref fT))
    (GA : FnOk P w K mg base CX0 6 fA dA ["_law_box_here", "_law_shapes_here", "_law_names_here", "_law_pool", "_law_deep"] spAtomL) (kA : PySem.W.keepIn K (.ref fA) = true) (bA : Binds K dA ["_law_box_here", "_law_shapes_here", "_law_names_here", "_law_pool", "_law_deep"] []) (mA : mg "_law_atom" = some (.ref fA))
    (GU : FnOk P w K mg base CX0 1 fU dU ["_law_atoms"] spUnlikeL) (kU : PySem.W.keepIn K (.ref fU) = true) (bU : Binds K dU ["_law_atoms"] []) (mU : mg "_law_unlike" = some (.ref fU))
    (mRange : mg "range" = none) : FnOk P w K mg base CX0 7 f fd ["_law_box_here", "_law_shapes_here", "_law_names_here", "_law_pool", "_law_count"] spSayingL := by
  refine F.ok scSayingL (fun vs H Q E h => ?_) (fun cdv A outer s H vs Q E hr h => ?_)
  · obtain ⟨b, d, p, pp, ws, kvs, j, m, rfl, _⟩ := h
    rfl
  obtain ⟨b, d, p, pp, ws, kvs, j, m, rfl, B, W, m3, hj, q⟩ := h
  have r1 : Room 1 _ := hr.mono (by decide)
  refine ⟨_, pss_cons (ps_setLc (i := 5) (own := [("_law_turn", 6)]) (g := gName 6) (tt := tYes) (te := teAtom) rfl scSayingL.nd rfl rfl (by rfl) (pi_range1 (by rfl) mRange (pa_cons (pe_call GT r1 (by rfl) mT kT bT .nil pass0 (pa_cons (pv 0) (pa_cons (pe_op op_addI (pv 4) pe_int) pa_nil))) pa_nil))
        (blkOk_by (N := NSy) (sc := defScope sSayingL) (by decide +kernel)) (fun _ _ _ _ _ => pg_name (i := 6) scSayingL.nd rfl (Or.inl rfl)) (fun _ _ _ _ _ => pts_nil)
        (fun _ _ _ _ _ => pe_call GA hr (by rfl) mA kA bA .nil pass0 (pa_cons (pv 0) (pa_cons (pv 1) (pa_cons (pv 2) (pa_cons (pv 3) (pa_cons (pe_call GT r1 (by rfl) mT kT bT .nil pass0 (pa_cons (pv 0) (pa_cons pe_int pa_nil))) pa_nil)))))))
    (pss_one (ps_ret (pe_tup (pa_cons (pe_call GU r1 (by rfl) mU kU bU .nil pass0 (pa_cons (pv 5) pa_nil)) (pa_cons (pe_call GA hr (by rfl) mA kA bA .nil pass0 (pa_cons (pv 0) (pa_cons (pv 1) (pa_cons (pv 2) (pa_cons (pv 3) (pa_cons (pe_call GT r1 (by rfl) mT kT bT .nil pass0 (pa_cons (pv 0) (pa_cons pe_int pa_nil))) pa_nil)))))) pa_nil))))), ?_⟩
  have big : (10000 : Nat) ≤ sizeLine := by decide
  refine ⟨_, rfl, _, rfl, _, _, rfl, rfl, b, _, j, rfl, B, by omega, by omega, by omega, fun c H1 c0 c1 B1 o1 => ?_⟩
  have W1 := W.but B o1
  refine ⟨_, rfl, by omega, by omega, fun D hD => lc_range (lo := 0) (fun e H3 => ∃ (xs : List V) (as : List At), H3 D = some (.lst xs) ∧ AtsAt H3 xs as ∧ as.length = e ∧ (∀ a ∈ as, AtOk 50 a) ∧ BoxAt H3 b (j + 1 + 32 * e) ∧ But b H1 H3)
    ⟨[], [], upd_same, trivial, rfl, by simp, (B1.same (same_new hD _)).more (by omega), but_of (same_new hD _)⟩ ?_ ?_⟩
  · rintro e H3 he ⟨xs, as, h3, A3, al, ao, B3, o3⟩
    have Db : D ≠ b := ne_box B1 hD
    have xl := A3.len
    have W3 := W1.but B1 o3
    refine ⟨rfl, ?_⟩
    unfold teAtom
    refine ⟨_, rfl, _, rfl, _, rfl, _, rfl, _, rfl, b, _, _, rfl, B3, by omega, by decide, by decide, fun z H4 z0 z1 B4 o4 => ?_⟩
    obtain ⟨mz, rfl⟩ := Int.eq_ofNat_of_zero_le z0
    have W4 := W3.but B3 o4
    refine ⟨b, d, p, pp, ws, kvs, _, mz, rfl, B4, W4, by omega, by omega, fun v a H5 A5 ok5 B5 o5 => ?_⟩
    have h5 := o5 _ _ (o4 _ _ h3 Db) Db
    refine ⟨xs, h5, by omega, xs ++ [v], as ++ [a], upd_same, (A3.mono fun q zs z => keepU h5 _ _ (keepB B4 o5 _ _ (keepB B3 o4 _ _ z))).append ⟨atAt_mono (keepU h5) A5, trivial⟩, by simp [al], fun y hy => ?_, (B5.upd Db _).more (by omega), ?_⟩
    · rcases List.mem_append.mp hy with hy | hy
      · exact ao y hy
      · obtain rfl : y = a := by simpa using hy
        exact ok5
    · exact but_new hD o3 (o4.trans o5)
  · rintro H3 ⟨xs, as, h3, A3, al, ao, B3, o3⟩
    have al3 : as.length ≤ 3 := by omega
    have W3 := W1.but B1 o3
    refine ⟨_, rfl, D, xs, as, rfl, h3, A3, AtsOk.mk (by omega) ao, fun g ys bs H4 hg A4 ok4 nd4 l4 s4 => ?_⟩
    have B4 := B3.same s4
    have W4 := W3.same s4
    refine ⟨_, rfl, _, rfl, _, rfl, _, rfl, _, rfl, b, _, _, rfl, B4, by omega, by decide, by decide, fun z H5 z0 z1 B5 o5 => ?_⟩
    obtain ⟨mz, rfl⟩ := Int.eq_ofNat_of_zero_le z0
    have W5 := W4.but B4 o5
    refine ⟨b, d, p, pp, ws, kvs, _, mz, rfl, B5, W5, by omega, by omega, fun v a H6 A6 ok6 B6 o6 => ⟨(by show 2 ≤ sizeLine; decide), fun t ht => ?_⟩⟩
    have s7 := same_new ht (.tup [V.ref g, v])
    exact q _ ⟨bs, a⟩ _ ⟨t, g, v, ys, rfl, upd_same, s7 _ _ (keepB B5 o6 _ _ (keepB B4 o5 _ _ hg)), A4.mono fun q zs z => s7 _ _ (keepB B5 o6 _ _ (keepB B4 o5 _ _ z)), atAt_same A6 s7⟩ ⟨ok4, nd4, ok6⟩ ((B6.same s7).more (by omega))
      (o1.trans (o3.trans ((but_of s4).trans (o5.trans (o6.trans (but_of s7))))))
end
end Rp

set_option maxHeartbeats 16000000
/-! The law's bindings, its words for bindings and sayings. -/
namespace Rp
open PySem PySem.Spec PyProof.Rows L2 TL StX
def prD (p : Int × Tm) : PyData := .tuple [.int p.1, tmD p.2]
def biD (ps : Prs) : PyData := .tuple (ps.map prD)
theorem pr_dp {K : PySem.W.Frag} {H : Hp} : ∀ {xs : List V} {ps : Prs}, PrAt H xs ps → DpAll K H xs (ps.map prD)
  | [], [], _ => .nil
  | _ :: _, _ :: _, ⟨⟨b, y, e, hb, T⟩, r⟩ => by
    subst e
    exact .cons (.tup (.inl (.inl hb)) (.cons (.int _) (.cons (T.dat (b := (0 : Nat))).dp .nil))) (pr_dp r)
theorem bi_dp {K : PySem.W.Frag} {H : Hp} {v : V} {ps : Prs} (h : BiAt H v ps) : Dp K H v (biD ps) := by
  obtain ⟨a, xs, rfl, h1, h2⟩ := h
  exact .tup (.inl (.inl h1)) (pr_dp h2)
theorem prs_lay : ∀ {ps : Prs}, (∀ p ∈ ps, p.2.size ≤ 40) → PyData.canLayAll0 (ps.map prD) = true ∧ PyData.depthAll (ps.map prD) ≤ 43
  | [], _ => ⟨rfl, by decide⟩
  | p :: ps, h => by
    have ih := prs_lay (ps := ps) fun q hq => h q (by simp [hq])
    have z := h p (by simp)
    have dl := Tm.deep_lt p.2
    obtain ⟨c1, c2, _⟩ : (tmD p.2).canLay0 = true ∧ (tmD p.2).depth ≤ p.2.deep + 1 ∧ nd (tmD p.2) ≤ 2 * p.2.size := tm_ok p.2
    simp only [List.map_cons, PyData.canLayAll0, PyData.depthAll, prD, PyData.canLay0, PyData.depth, c1, ih.1]
    exact ⟨rfl, by omega⟩
theorem bi_lay {ps : Prs} (ok : PrOk ps) : (biD ps).canLay0 = true ∧ (biD ps).depth ≤ 44 := by
  have h := prs_lay ok.sz
  exact ⟨h.1, by show PyData.depthAll _ + 1 ≤ 44; omega⟩
theorem bi_shaped {ps : Prs} (ok : PrOk ps) : SeqAt.shaped (biD ps) = true := shaped_of (bi_lay ok).1 (by have := (bi_lay ok).2; omega)
theorem eqv_tnil {ds : List PyData} : PyData.eqv (.tuple ds) (.tuple []) = ds.isEmpty := by
  cases ds <;> simp [PyData.eqv, PyData.eqvAll]
theorem tnil_shaped : SeqAt.shaped (.tuple []) = true := shaped_of rfl (by decide)
theorem PrAt.get0 {H : Hp} {xs : List V} {ps : Prs} {i : Nat} {x : V} (h : PrAt H xs ps) (e : xs[i]? = some x) : ∃ p, ps[i]? = some p ∧ ∃ b y, x = .ref b ∧ H b = some (.tup [.int p.1, y]) ∧ TmAt H y p.2 := h.get e
theorem PrAt.snoc {H : Hp} {x : V} {p : Int × Tm} (hp : ∃ (b : Addr) (y : V), x = .ref b ∧ H b = some (.tup [.int p.1, y]) ∧ TmAt H y p.2) : ∀ {xs : List V} {ps : Prs}, PrAt H xs ps → PrAt H (xs ++ [x]) (ps ++ [p])
  | [], [], _ => ⟨hp, trivial⟩
  | _ :: _, _ :: _, h => ⟨h.1, PrAt.snoc hp h.2⟩
def rStrI : List V → Hp → VK → Prop := fun xs H Q => ∃ i, xs = [.int i] ∧ i.natAbs.log2 < 1920 ∧ Q (.str (toString i)) H
theorem call_strI {X : Cx} : CallR X (.type "str") rStrI := call_str_int
def rStrA : List V → Hp → VK → Prop := fun xs H Q => (∃ i, xs = [.int i] ∧ i.natAbs.log2 < 1920 ∧ Q (.str (toString i)) H) ∨ ∃ a, xs = [.str a] ∧ Q (.str a) H
theorem call_strA {X : Cx} : CallR X (.type "str") rStrA := fun pins s σ H xs us Q I r h => h.elim (call_str_int pins s σ H xs us Q I r) (SkE.call_str_str pins s σ H xs us Q I r)
def spLBind : Sp := fun vs H Q _ => ∃ (v : V) (ps : Prs), vs = [v] ∧ BiAt H v ps ∧ PrOk ps ∧ ∀ H', Same H H' → Q (.str (bitxt ps)) H'
abbrev spotV : List V := [.int 0, .int 2, .int 99]
def spPuts : Sp := fun vs H Q _ => ∃ (b sp pp : Addr) (j : Nat), vs = [.ref b, .ref sp, .ref pp] ∧ BoxAt H b j ∧ H sp = some (.lst spotV) ∧ H pp = some (.lst poolV) ∧ sp ≠ b ∧ pp ≠ b ∧ j + 60 ≤ 1000000 ∧
  ∀ (v : V) (ps : Prs) (H' : Hp), BiAt H' v ps → PrOk ps → BoxAt H' b (j + 60) → But b H H' → Q v H'
def spLSay : Sp := fun vs H Q _ => ∃ (v : V) (s : Sy), vs = [v] ∧ SyAt H v s ∧ SyOk s ∧ ∀ H', Same H H' → Q (.str (sytxt s)) H'
theorem atxt_ne {a : At} (ok : AtOk 50 a) : atxt a ≠ ("" : Str) := by
  obtain ⟨c, q, e, _⟩ := atxt_head ok
  intro z
  rw [z] at e
  have : tl ("" : Str) = [] := by decide +kernel
  rw [this] at e
  cases e
theorem btxt_ne {as : List At} (ok : AtsOk as) (h : as ≠ []) : btxt as ≠ ("" : Str) := by
  obtain ⟨c, q, e, _⟩ := btxt_head ok h
  intro z
  rw [z] at e
  have : tl ("" : Str) = [] := by decide +kernel
  rw [this] at e
  cases e
theorem ne_strD {a b : Str} (h : a ≠ b) : V.bl (!decide (V.str a = V.str b)) = V.bl true := by rw [decide_eq_false fun z => h (V.str.inj z)]; rfl
theorem eq_strD {a b : Str} (h : a = b) : V.bl (!decide (V.str a = V.str b)) = V.bl false := by rw [h, decide_eq_true rfl]; rfl
section
variable {P : Program} {w : World} {K : PySem.W.Frag} {mg : Str → Option Value} {base : Heap}
def teBW (K : PySem.W.Frag) : TE := tOp rAddS (tOp rAddS (tOp rAddS (tC (.str "x")) (tCB rStrI (tCons (tOp (rIxT K) (tVar 1) (tC (.int 0))) tNil))) (tC (.str "="))) (tCall (spLText 60) [] E0 (tCons (tOp (rIxT K) (tVar 1) (tC (.int 1))) tNil))
theorem scLBind : FnScope ["_law_binding", "_law_pair"] ["_law_binding"] (defScope sLawBT) := ⟨rfl, rfl, rfl, by decide +kernel, rfl, by decide +kernel, by decide +kernel⟩
theorem ok_lbind {f fT : Addr} {fd dT : FuncData} (F : Fun K "_law_binding_words" "_law_binding_words" sLawBT f fd)
    (GT : FnOk P w K mg base CX0 60 fT dT ["_law_term_here"] (spLText 60)) (kT : PySem.W.keepIn K (.ref fT) = true) (bT : Binds K dT ["_law_term_here"] []) (mT : mg "_law_term_words" = some (.ref fT)) (mStr : mg "str" = none) : FnOk P w K mg base CX0 61 f fd ["_law_binding"] spLBind := by
  refine F.ok scLBind (fun vs H Q E h => ?_) (fun cdv A outer s H vs Q E hr h => ?_)
  · obtain ⟨v, ps, rfl, _⟩ := h
    rfl
  obtain ⟨v, ps, rfl, ⟨a, xs, rfl, ha, Pa⟩, ok, q⟩ := h
  refine ⟨_, pss_one (ps_ret (pe_ifExp (pt_cmpR (op_neD hr.units) (pv 0) (pe_tup pa_nil) (nomark _)) (pe_bm PySem.F.plainAttrs_str PySem.F.slot_str_join PySem.F.type_str_join mt_join pe_str (pa_cons
      (pe_lc (own := [("_law_pair", 1)]) (g := gName 1) (tt := tYes) (te := teBW K) rfl scLBind.nd
        (pi_tup (pv 0)) (blkOk_by (N := ["_law_binding", "_law_pair"]) (sc := defScope sLawBT) (by decide +kernel))
        (fun _ _ _ _ _ => pg_name (i := 1) scLBind.nd rfl (Or.inl rfl))
        (fun _ _ _ _ _ => pts_nil) (fun _ _ _ _ _ => pe_op op_addS (pe_op op_addS (pe_op op_addS pe_str (pe_callTy call_strI (by rfl) mStr (by decide +kernel) (pa_cons (pe_ix ix_tup (pv 1) pe_int (fun _ _ => rfl)) pa_nil))) pe_str)
          (pe_call GT hr (by rfl) mT kT bT .nil pass0 (pa_cons (pe_ix ix_tup (pv 1) pe_int (fun _ _ => rfl)) pa_nil)))) pa_nil)) pe_str)), ?_⟩
  have big : (10000 : Nat) ≤ sizeLine := by decide
  have len := Pa.len
  have few := ok.few
  refine ⟨_, rfl, (by show 0 ≤ sizeLine; decide), fun g hg => ?_⟩
  have s0 := same_new hg (.tup ([] : List V))
  have ha0 := s0 _ _ ha
  have Pa0 : PrAt (upd H g (.tup [])) xs ps := Pa.mono fun a xs z => s0 _ _ z
  refine ⟨biD ps, .tuple [], bi_dp ⟨a, xs, rfl, ha0, Pa0⟩, .tup (.inl (.inl upd_same)) .nil, bi_shaped ok, tnil_shaped, !(ps.map prD).isEmpty, congrArg (fun z => V.bl (!z)) eqv_tnil, ?_⟩
  have qq : ∀ H', Same (upd H g (.tup [])) H' → Q (.str (bitxt ps)) H' := fun H' s => q H' (s0.trans s)
  unfold bitxt at qq
  by_cases e : ps = []
  · subst e
    rw [if_pos rfl] at qq
    exact iteF (qq _ (Same.refl _))
  · rw [if_neg e] at qq
    have ee : (!(ps.map prD).isEmpty) = true := by cases ps with
      | nil => exact absurd rfl e
      | cons _ _ => rfl
    rw [ee]
    generalize upd H g (.tup []) = H1 at ha0 Pa0 qq ⊢
    refine iteT ⟨rfl, _, rfl, a, rfl, ⟨_, .inl (.inl ha0)⟩, fun D hD => lc_tup (K := K) (a := a) (xs := xs) (fun i H2 => H2 D = some (.lst (((ps.take i).map row).map V.str)) ∧ Same H1 H2) ⟨upd_same, same_new hD _⟩ (fun i H2 _ h => .inl (.inl (h.2 _ _ ha0))) ?_ ?_⟩
    · rintro i x H2 hi ⟨h2, s2⟩
      obtain ⟨p, hp, b, y, rfl, hb, T⟩ := Pa0.get hi
      have pm : p ∈ ps := List.mem_of_getElem? hp
      have np := ok.num p pm
      have sp_ := ok.sm p pm
      have zp := ok.sz p pm
      have nl := num_len np
      have tl1 := txt_len _ sp_
      have dl := Tm.deep_lt p.2
      have lx : ("x" : Str).length = 1 := by decide +kernel
      have le : ("=" : Str).length = 1 := by decide +kernel
      have hb2 := s2 _ _ hb
      refine ⟨rfl, ?_⟩
      unfold teBW
      refine ⟨_, rfl, b, _, _, _, rfl, rfl, .inl (.inl hb2), at_of (j := 0) rfl rfl, p.1, rfl, ?_, ?_⟩
      · have := Nat.log2_le_self p.1.natAbs; omega
      refine ⟨"x", Str.ofString (toString p.1), rfl, rfl, by omega, ?_⟩
      refine ⟨_, "=", rfl, rfl, by rw [slen]; omega, ?_⟩
      refine ⟨_, rfl, b, _, _, _, rfl, rfl, .inl (.inl hb2), at_of (j := 1) rfl rfl, y, p.2, rfl, T.same s2, sp_, by omega, by omega, fun H3 s3 => ?_⟩
      refine ⟨_, _, rfl, rfl, by rw [slen, slen]; omega, _, s3 _ _ h2, ?_, ?_, ?_⟩
      · rw [List.length_map, List.length_map, List.length_take]; omega
      · have tk : ps.take (i + 1) = ps.take i ++ [p] := by rw [List.take_add_one, hp]; rfl
        rw [upd_same, tk, List.map_append, List.map_append]
        rfl
      · intro c o z
        rw [upd_ne (ne_of_none z hD)]
        exact s3 _ _ (s2 _ _ z)
    · rintro H2 ⟨h2, s2⟩
      rw [len, List.take_of_length_le (Nat.le_refl _)] at h2
      have rl := rows_len (ps := ps) fun p hp => row_len (ok.num p hp) (ok.sm p hp) (by have := ok.sz p hp; omega)
      have l1 : (" " : Str).length = 1 := by decide +kernel
      exact ⟨" ", D, ps.map row, rfl, rfl, .inl (.inl (.inl h2)), by rw [l1, List.length_map]; omega, qq _ s2⟩
theorem scPuts : FnScope ["_law_box_here", "_law_spots", "_law_pool", "_law_one"] ["_law_box_here", "_law_spots", "_law_pool"] (defScope sPuts) := ⟨rfl, rfl, rfl, by decide +kernel, rfl, by decide +kernel, by decide +kernel⟩
def tePut : TE := tTup (tCons (tVar 3) (tCons (tCall (spLTerm 3) [] E0 (tCons (tVar 0) (tCons (tVar 2) (tCons (tCall spTake [] E0 (tCons (tVar 0) (tCons (tC (.int 3)) tNil))) tNil)))) tNil))
def ttPut : TT := tTest (tOp (rI0 fun i j => .bl (decide (j < i))) (tCall spTake [] E0 (tCons (tVar 0) (tCons (tC (.int 4)) tNil))) (tC (.int 0)))
theorem ok_puts {f fT fTm : Addr} {fd dT dTm : FuncData} (F : Fun K "_law_puts" "_law_puts" sPuts f fd)
    (GT : FnOk P w K mg base CX0 1 fT dT ["_law_box_here", "_law_reach"] spTake) (kT : PySem.W.keepIn K (.ref fT) = true) (bT : Binds K dT ["_law_box_here", "_law_reach"] []) (mT : mg "_law_take" = some (.ref fT))
    (GTm : FnOk P w K mg base CX0 5 fTm dTm ["_law_box_here", "_law_pool", "_law_deep"] (spLTerm 3)) (kTm : PySem.W.keepIn K (.ref fTm) = true) (bTm : Binds K dTm ["_law_box_here", "_law_pool", "_law_deep"] []) (mTm : mg "_law_term" = some (.ref fTm))
    (mTuple : mg "tuple" = none) : FnOk P w K mg base CX0 6 f fd ["_law_box_here", "_law_spots", "_law_pool"] spPuts := by
  refine F.ok scPuts (fun vs H Q E h => ?_) (fun cdv A outer s H vs Q E hr h => ?_)
  · obtain ⟨b, sp, pp, j, rfl, _⟩ := h
    rfl
  obtain ⟨b, sp, pp, j, rfl, B, hs, hp, sb, pb, hj, q⟩ := h
  have r1 : Room 1 _ := hr.mono (by decide)
  refine ⟨_, pss_one (ps_ret (pe_callTy call_tuple_of (by rfl) mTuple (by decide +kernel) (pa_cons
      (pe_lc (own := [("_law_one", 3)]) (g := gName 3) (tt := ttPut) (te := tePut) rfl scPuts.nd (pi_list (pv 1)) (blkOk_by (N := ["_law_box_here", "_law_spots", "_law_pool", "_law_one"]) (sc := defScope sPuts) (by decide +kernel))
        (fun _ _ _ _ _ => pg_name (i := 3) scPuts.nd rfl (Or.inl rfl)) (fun _ _ _ _ _ => pts_one (pt_cmpR op_gt (pe_call GT r1 (by rfl) mT kT bT .nil pass0 (pa_cons (pv 0) (pa_cons pe_int pa_nil))) pe_int (nomark _)))
        (fun _ _ _ _ _ => pe_tup (pa_cons (pv 3) (pa_cons (pe_call GTm hr (by rfl) mTm kTm bTm .nil pass0 (pa_cons (pv 0) (pa_cons (pv 2) (pa_cons (pe_call GT r1 (by rfl) mT kT bT .nil pass0 (pa_cons (pv 0) (pa_cons pe_int pa_nil))) pa_nil)))) pa_nil)))) pa_nil))), ?_⟩
  have big : (10000 : Nat) ≤ sizeLine := by decide
  refine ⟨_, rfl, sp, rfl, ⟨_, .inl (.inl hs)⟩, fun D hD => lc_list (K := K) (a := sp) (xs := spotV) (fun i H2 => ∃ (xs : List V) (ps : Prs), H2 D = some (.lst xs) ∧ PrAt H2 xs ps ∧ (ps.map (·.1)).Sublist (([0, 2, 99] : List Int).take i) ∧ (∀ p ∈ ps, p.2.small ∧ p.2.size ≤ 40) ∧ BoxAt H2 b (j + 17 * i) ∧ H2 sp = some (.lst spotV) ∧ H2 pp = some (.lst poolV) ∧ But b H H2)
    ⟨[], [], upd_same, trivial, .slnil, by simp, (B.same (same_new hD _)).more (by omega), same_new hD _ _ _ hs, same_new hD _ _ _ hp, but_of (same_new hD _)⟩ (fun i H2 _ ⟨_, _, _, _, _, _, _, h, _⟩ => .inl (.inl h)) ?_ ?_⟩
  · rintro i x H2 hi ⟨xs, ps, h2, A2, sub, po, B2, hs2, hp2, o2⟩
    have Db : D ≠ b := ne_box B hD
    have Dp : D ≠ pp := (ne_of_none hp hD).symm
    have Ds : D ≠ sp := (ne_of_none hs hD).symm
    have i3 : i < 3 := (List.getElem?_eq_some_iff.mp hi).1
    have xl := A2.len
    have sl := sub.length_le
    rw [List.length_map, List.length_take] at sl
    obtain ⟨n, rfl, tk⟩ : ∃ n : Int, x = .int n ∧ ([0, 2, 99] : List Int).take (i + 1) = ([0, 2, 99] : List Int).take i ++ [n] := by
      match i, i3 with
      | 0, _ => exact ⟨0, by simpa using hi.symm, rfl⟩
      | 1, _ => exact ⟨2, by simpa using hi.symm, rfl⟩
      | 2, _ => exact ⟨99, by simpa using hi.symm, rfl⟩
    refine ⟨rfl, ?_⟩
    unfold ttPut tePut
    refine ⟨_, rfl, b, _, _, rfl, B2, by omega, by decide, by decide, fun r H3 c0 c1 B3 o3 => ?_⟩
    refine ⟨_, _, rfl, rfl, decide ((0 : Int) < r), rfl, ?_⟩
    have h3 := o3 _ _ h2 Db
    have hp3 := o3 _ _ hp2 pb
    by_cases hr0 : (0 : Int) < r
    · rw [decide_eq_true hr0]
      refine iteT ?_
      refine ⟨_, rfl, _, rfl, _, rfl, _, rfl, b, _, _, rfl, B3, by omega, by decide, by decide, fun z H4 z0 z1 B4 o4 => ?_⟩
      obtain ⟨mz, rfl⟩ := Int.eq_ofNat_of_zero_le z0
      have m2 : mz ≤ 2 := by omega
      have pw1 : 2 ^ mz ≤ 2 ^ 2 := Nat.pow_le_pow_right (by decide) m2
      have pw2 : 2 ^ (mz + 1) ≤ 2 ^ 3 := Nat.pow_le_pow_right (by decide) (by omega)
      refine ⟨b, pp, _, mz, rfl, B4, o4 _ _ hp3 pb, pb, by omega, m2, by omega, fun v t H5 T sm sz B5 o5 => ⟨(by show 2 ≤ sizeLine; decide), fun c hc => ?_⟩⟩
      have s6 := same_new hc (.tup [V.int n, v])
      have h6 := s6 _ _ (o5 _ _ (o4 _ _ h3 Db) Db)
      have cD : c ≠ D := (ne_of_none (o5 _ _ (o4 _ _ h3 Db) Db) hc).symm
      refine ⟨xs, h6, by omega, xs ++ [.ref c], ps ++ [(n, t)], upd_same, PrAt.snoc ⟨c, v, rfl, by rw [upd_ne cD, upd_same], (T.same s6).mono (keepU h6)⟩ (A2.mono fun q zs z => keepU h6 _ _ (s6 _ _ (keepB B4 o5 _ _ (keepB B3 o4 _ _ (keepB B2 o3 _ _ z))))), ?_, ?_, ((B5.same s6).upd Db _).more (by omega), ?_, ?_, ?_⟩
      · rw [tk, List.map_append]
        exact sub.append (List.Sublist.refl _)
      · intro p hp
        rcases List.mem_append.mp hp with hp | hp
        · exact po p hp
        · obtain rfl : p = (n, t) := by simpa using hp
          exact ⟨sm, by show t.size ≤ 40; omega⟩
      · rw [upd_ne Ds.symm]
        exact s6 _ _ (o5 _ _ (o4 _ _ (o3 _ _ hs2 sb) sb) sb)
      · rw [upd_ne Dp.symm]
        exact s6 _ _ (o5 _ _ (o4 _ _ hp3 pb) pb)
      · exact but_new hD o2 (o3.trans (o4.trans (o5.trans (but_of s6))))
    · rw [decide_eq_false hr0]
      refine iteF ?_
      exact ⟨xs, ps, h3, A2.mono (keepB B2 o3), by rw [tk]; exact sub.trans (List.sublist_append_left _ _), po, B3.more (by omega), o3 _ _ hs2 sb, hp3, o2.trans o3⟩
  · rintro H2 ⟨xs, ps, h2, A2, sub, po, B2, hs2, hp2, o2⟩
    have sub : (ps.map (·.1)).Sublist ([0, 2, 99] : List Int) := sub
    have xl := A2.len
    have sl := sub.length_le
    rw [List.length_map] at sl
    have B2 : BoxAt H2 b (j + 17 * 3) := B2
    have mem : ∀ p ∈ ps, p.1 ∈ ([0, 2, 99] : List Int) := fun p hp => sub.subset (List.mem_map.mpr ⟨p, hp, rfl⟩)
    refine ⟨D, xs, rfl, .inl ⟨.inl (.inl h2), fun g hg => ?_⟩⟩
    have s4 := same_new hg (.tup xs)
    refine q _ ps _ ⟨g, xs, rfl, upd_same, A2.mono fun q zs z => s4 _ _ z⟩ ⟨fun p hp => ?_, fun p hp => (po p hp).1, fun p hp => (po p hp).2, ?_, by simp only [List.length_cons, List.length_nil] at sl; omega⟩ ((B2.same s4).more (by omega)) (o2.trans (but_of s4))
    · have := mem p hp
      simp only [List.mem_cons, List.not_mem_nil, or_false] at this
      omega
    · exact List.Pairwise.sublist sub (by decide)
theorem scLSay : FnScope ["_law_saying_here", "_law_ahead", "_law_hyp"] ["_law_saying_here"] (defScope sSayingW) := ⟨rfl, rfl, rfl, by decide +kernel, rfl, by decide +kernel, by decide +kernel⟩
theorem ok_lsay {f fA : Addr} {fd dA : FuncData} (F : Fun K "_law_saying_words" "_law_saying_words" sSayingW f fd)
    (GA : FnOk P w K mg base CX0 61 fA dA ["_law_atom_here"] spAtomText) (kA : PySem.W.keepIn K (.ref fA) = true) (bA : Binds K dA ["_law_atom_here"] []) (mA : mg "_law_atom_words" = some (.ref fA)) : FnOk P w K mg base CX0 62 f fd ["_law_saying_here"] spLSay := by
  refine F.ok scLSay (fun vs H Q E h => ?_) (fun cdv A outer s H vs Q E hr h => ?_)
  · obtain ⟨v, sy, rfl, _⟩ := h
    rfl
  obtain ⟨v, sy, rfl, ⟨p, g, vg, xs, rfl, hp, hg, A1, G1⟩, ok, q⟩ := h
  refine ⟨_, pss_cons (ps_set (i := 1) scLSay.nd rfl (Or.inl rfl) (pe_bm PySem.F.plainAttrs_str PySem.F.slot_str_join PySem.F.type_str_join mt_join pe_str (pa_cons
      (pe_lc (own := [("_law_hyp", 2)]) (g := gName 2) (tt := tYes) (te := tCall spAtomText [] E0 (tCons (tVar 2) tNil)) rfl scLSay.nd (pi_tup (pe_ix ix_tup (pv 0) pe_int (fun _ _ => rfl))) (blkOk_by (N := ["_law_saying_here", "_law_ahead", "_law_hyp"]) (sc := defScope sSayingW) (by decide +kernel))
        (fun _ _ _ _ _ => pg_name (i := 2) scLSay.nd rfl (Or.inl rfl)) (fun _ _ _ _ _ => pts_nil) (fun _ _ _ _ _ => pe_call GA hr (by rfl) mA kA bA .nil pass0 (pa_cons (pv 2) pa_nil))) pa_nil)))
    (pss_one (ps_ret (pe_op op_addS (pe_op op_addS (pe_ifExp (pt_cmpR op_ne (pv 1) pe_str (nomark _)) (pe_op op_addS (pv 1) pe_str) pe_str) pe_str) (pe_call GA hr (by rfl) mA kA bA .nil pass0 (pa_cons (pe_ix ix_tup (pv 0) pe_int (fun _ _ => rfl)) pa_nil))))), ?_⟩
  have big : (10000 : Nat) ≤ sizeLine := by decide
  have xl := A1.len
  have o6 := ok.hs.few
  have bl := btxt_len ok.hs
  have gl := atxt_len ok.gl
  have l2 : (", " : Str).length = 2 := by decide +kernel
  have lb := l_bare
  have l1 : (" " : Str).length = 1 := by decide +kernel
  refine ⟨rfl, _, rfl, p, _, _, _, rfl, rfl, .inl (.inl hp), at_of (j := 0) rfl rfl, g, rfl, ⟨_, .inl (.inl hg)⟩, fun D hD => lc_tup (K := K) (a := g) (xs := xs) (fun i H2 => H2 D = some (.lst (((sy.hs.take i).map atxt).map V.str)) ∧ Same H H2) ⟨upd_same, same_new hD _⟩ (fun i H2 _ h => .inl (.inl (h.2 _ _ hg))) ?_ ?_⟩
  · rintro i x H2 hi ⟨h2, s2⟩
    obtain ⟨a, ha, T⟩ := A1.get hi
    have am := List.mem_of_getElem? ha
    refine ⟨rfl, ?_⟩
    refine ⟨_, rfl, x, a, rfl, atAt_same T s2, ok.hs.ok a am, fun H3 s3 => ⟨_, s3 _ _ h2, ?_, ?_, ?_⟩⟩
    · rw [List.length_map, List.length_map, List.length_take]; omega
    · have tk : sy.hs.take (i + 1) = sy.hs.take i ++ [a] := by rw [List.take_add_one, ha]; rfl
      rw [upd_same, tk, List.map_append, List.map_append]; rfl
    · intro c o z
      rw [upd_ne (ne_of_none z hD)]
      exact s3 _ _ (s2 _ _ z)
  · rintro H2 ⟨h2, s2⟩
    rw [xl, List.take_of_length_le (Nat.le_refl _)] at h2
    have bs := btxt_sum ok.hs
    refine ⟨", ", D, sy.hs.map atxt, rfl, rfl, .inl (.inl (.inl h2)), by rw [l2, List.length_map]; omega, ?_⟩
    have e0 : Txt.join ", " (sy.hs.map atxt) = btxt sy.hs := rfl
    rw [e0]
    have hp2 := s2 _ _ hp
    have G2 := atAt_same G1 s2
    have qq : ∀ H', Same H2 H' → Q (.str (sytxt sy)) H' := fun H' s => q H' (s2.trans s)
    unfold sytxt at qq
    by_cases e : sy.hs = []
    · rw [if_pos e] at qq
      have eb : btxt sy.hs = ("" : Str) := by rw [e]; decide +kernel
      rw [eb]
      refine ⟨_, rfl, rfl, false, eq_strD rfl, iteF ?_⟩
      refine ⟨"", "|- ", rfl, rfl, by decide +kernel, ?_⟩
      refine ⟨_, rfl, p, _, _, _, rfl, rfl, .inl (.inl hp2), at_of (j := 1) rfl rfl, vg, sy.gl, rfl, G2, ok.gl, fun H3 s3 => ?_⟩
      have e1 : ("" : Str) ++ "|- " = "|- " := by decide +kernel
      refine ⟨_, _, rfl, rfl, by rw [e1]; omega, ?_⟩
      rw [e1]
      exact qq _ s3
    · rw [if_neg e] at qq
      refine ⟨_, rfl, rfl, true, ne_strD (btxt_ne ok.hs e), iteT ?_⟩
      refine ⟨_, rfl, _, " ", rfl, rfl, by omega, ?_⟩
      refine ⟨_, "|- ", rfl, rfl, by rw [slen]; omega, ?_⟩
      refine ⟨_, rfl, p, _, _, _, rfl, rfl, .inl (.inl hp2), at_of (j := 1) rfl rfl, vg, sy.gl, rfl, G2, ok.gl, fun H3 s3 => ?_⟩
      refine ⟨_, _, rfl, rfl, by rw [slen, slen]; omega, ?_⟩
      have e1 : btxt sy.hs ++ " " ++ "|- " ++ atxt sy.gl = btxt sy.hs ++ " |- " ++ atxt sy.gl := by
        apply ext_tl
        simp only [tl_append, t_sp, t_bare, t_part, List.append_assoc]
        rfl
      rw [e1]
      exact qq _ s3
end
end Rp

set_option maxHeartbeats 16000000
/-! The law's words for steps. -/
namespace Rp
open PySem PySem.Spec PyProof.Rows L2 TL StX
def spLStep : Sp := fun vs H Q _ => ∃ (v : V) (st : St), vs = [v] ∧ StAt H v st ∧ StOk st ∧ ∀ H', Same H H' → Q (.str (stxt st)) H'
section
variable {P : Program} {w : World} {K : PySem.W.Frag} {mg : Str → Option Value} {base : Heap}
theorem scLStep : FnScope ["_law_step"] ["_law_step"] (defScope sStepW) := ⟨rfl, rfl, rfl, by decide +kernel, rfl, by decide +kernel, by decide +kernel⟩
theorem ok_lstep {f fA fS fB : Addr} {fd dA dS dB : FuncData} (F : Fun K "_law_step_words" "_law_step_words" sStepW f fd)
    (GA : FnOk P w K mg base CX0 61 fA dA ["_law_atom_here"] spAtomText) (kA : PySem.W.keepIn K (.ref fA) = true) (bA : Binds K dA ["_law_atom_here"] []) (mA : mg "_law_atom_words" = some (.ref fA))
    (GS : FnOk P w K mg base CX0 62 fS dS ["_law_saying_here"] spLSay) (kS : PySem.W.keepIn K (.ref fS) = true) (bS : Binds K dS ["_law_saying_here"] []) (mS : mg "_law_saying_words" = some (.ref fS))
    (GB : FnOk P w K mg base CX0 61 fB dB ["_law_binding"] spLBind) (kB : PySem.W.keepIn K (.ref fB) = true) (bB : Binds K dB ["_law_binding"] []) (mB : mg "_law_binding_words" = some (.ref fB))
    (mStr : mg "str" = none) (mLen : mg "len" = none) : FnOk P w K mg base CX0 63 f fd ["_law_step"] spLStep := by
  refine F.ok scLStep (fun vs H Q E h => ?_) (fun cdv A outer s H vs Q E hr h => ?_)
  · obtain ⟨v, st, rfl, _⟩ := h
    rfl
  obtain ⟨v, st, rfl, ⟨p, ys, rfl, hp, Pt⟩, ok, fin⟩ := h
  have r61 : Room 61 _ := hr.mono (by decide)
  refine ⟨_, pss_cons (ps_if (pt_cmpR op_eq (pe_callB call_len_seq (by rfl) mLen PySem.boot_len (pa_cons (pv 0) pa_nil)) pe_int (nomark _)) (pss_one (ps_ret (pe_ix ix_tup (pv 0) pe_int (fun _ _ => rfl)))) pss_nil)
    (pss_cons (ps_if (pt_cmpR op_in_seq (pe_ix ix_tup (pv 0) pe_int (fun _ _ => rfl)) (pe_tup (pa_cons pe_str (pa_cons pe_str pa_nil))) (by rfl))
      (pss_one (ps_ret (pe_op op_addS (pe_op op_addS (pe_ix ix_tup (pv 0) pe_int (fun _ _ => rfl)) pe_str) (pe_callTy call_strA (by rfl) mStr (by decide +kernel) (pa_cons (pe_ix ix_tup (pv 0) pe_int (fun _ _ => rfl)) pa_nil))))) pss_nil)
    (pss_cons (ps_if (pt_cmpR op_eq (pe_ix ix_tup (pv 0) pe_int (fun _ _ => rfl)) pe_str (nomark _))
      (pss_one (ps_ret (pe_op op_addS pe_str (pe_call GA r61 rfl mA kA bA .nil pass0 (pa_cons (pe_ix ix_tup (pv 0) pe_int (fun _ _ => rfl)) pa_nil))))) pss_nil)
    (pss_cons (ps_if (pt_cmpR op_eq (pe_ix ix_tup (pv 0) pe_int (fun _ _ => rfl)) pe_str (nomark _))
      (pss_one (ps_ret (pe_op op_addS (pe_op op_addS (pe_op op_addS pe_str (pe_call GS hr rfl mS kS bS .nil pass0 (pa_cons (pe_ix ix_tup (pv 0) pe_int (fun _ _ => rfl)) pa_nil))) pe_str)
        (pe_call GB r61 rfl mB kB bB .nil pass0 (pa_cons (pe_ix ix_tup (pv 0) pe_int (fun _ _ => rfl)) pa_nil))))) pss_nil)
    (pss_one (ps_ret (pe_op op_addS (pe_op op_addS (pe_op op_addS (pe_op op_addS (pe_ix ix_tup (pv 0) pe_int (fun _ _ => rfl)) pe_str) (pe_callTy call_strA (by rfl) mStr (by decide +kernel) (pa_cons (pe_ix ix_tup (pv 0) pe_int (fun _ _ => rfl)) pa_nil))) pe_str)
        (pe_call GB r61 rfl mB kB bB .nil pass0 (pa_cons (pe_ix ix_tup (pv 0) pe_int (fun _ _ => rfl)) pa_nil)))))))), ?_⟩
  have big : (10000 : Nat) ≤ sizeLine := by decide
  have sl := stxt_len ok
  have wl := word_len st
  have ix0 : ∀ {H2 : Hp} {z : V} {zs : List V}, H2 p = some (.tup (z :: zs)) → SqT K H2 p (z :: zs) := fun h => .inl (.inl h)
  cases st with
  | by_ =>
    obtain rfl : ys = [] := Pt
    refine ⟨_, rfl, p, _, rfl, .inr (.inl (.inl hp)), rfl, true, congrArg V.bl (decide_eq_true rfl), iteT ?_⟩
    exact ⟨_, rfl, p, _, _, _, rfl, rfl, .inl (.inl hp), at_of (j := 0) rfl rfl, fin _ (Same.refl _)⟩
  | spl k =>
    obtain rfl : ys = [.int k] := Pt
    refine ⟨_, rfl, p, _, rfl, .inr (.inl (.inl hp)), rfl, false, congrArg V.bl (decide_eq_false fun z => by injection z with z; simp at z), iteF ?_⟩
    refine ⟨_, rfl, p, _, _, _, rfl, rfl, .inl (.inl hp), at_of (j := 0) rfl rfl, (by show 2 ≤ sizeLine; decide), fun g hg => ⟨g, _, rfl, .inr (.inl (.inl upd_same)), rfl, rfl, ?_⟩⟩
    have s2 := same_new hg (.tup [V.str "split", V.str "use"])
    have hp2 := s2 _ _ hp
    refine ⟨true, by show V.bl (inV (.str "split") [.str "split", .str "use"]) = V.bl true; decide +kernel, iteT ?_⟩
    have nl := nt_len (show k ≤ 9999999999 from ok)
    refine ⟨_, rfl, p, _, _, _, rfl, rfl, .inl (.inl hp2), at_of (j := 0) rfl rfl, "split", " ", rfl, rfl, by decide +kernel, ?_⟩
    refine ⟨_, rfl, p, _, _, _, rfl, rfl, .inl (.inl hp2), at_of (j := 1) rfl rfl, .inl ⟨_, rfl, nt_log ok, "split" ++ " ", nt k, rfl, rfl, ?_, fin _ s2⟩⟩
    have : (("split" : Str) ++ " ").length = 6 := by decide +kernel
    omega
  | use k =>
    obtain rfl : ys = [.int k] := Pt
    refine ⟨_, rfl, p, _, rfl, .inr (.inl (.inl hp)), rfl, false, congrArg V.bl (decide_eq_false fun z => by injection z with z; simp at z), iteF ?_⟩
    refine ⟨_, rfl, p, _, _, _, rfl, rfl, .inl (.inl hp), at_of (j := 0) rfl rfl, (by show 2 ≤ sizeLine; decide), fun g hg => ⟨g, _, rfl, .inr (.inl (.inl upd_same)), rfl, rfl, ?_⟩⟩
    have s2 := same_new hg (.tup [V.str "split", V.str "use"])
    have hp2 := s2 _ _ hp
    refine ⟨true, by show V.bl (inV (.str "use") [.str "split", .str "use"]) = V.bl true; decide +kernel, iteT ?_⟩
    have nl := nt_len (show k ≤ 9999999999 from ok)
    refine ⟨_, rfl, p, _, _, _, rfl, rfl, .inl (.inl hp2), at_of (j := 0) rfl rfl, "use", " ", rfl, rfl, by decide +kernel, ?_⟩
    refine ⟨_, rfl, p, _, _, _, rfl, rfl, .inl (.inl hp2), at_of (j := 1) rfl rfl, .inl ⟨_, rfl, nt_log ok, "use" ++ " ", nt k, rfl, rfl, ?_, fin _ s2⟩⟩
    have : (("use" : Str) ++ " ").length = 4 := by decide +kernel
    omega
  | cut a =>
    obtain ⟨va, rfl, T⟩ := Pt
    refine ⟨_, rfl, p, _, rfl, .inr (.inl (.inl hp)), rfl, false, congrArg V.bl (decide_eq_false fun z => by injection z with z; simp at z), iteF ?_⟩
    refine ⟨_, rfl, p, _, _, _, rfl, rfl, .inl (.inl hp), at_of (j := 0) rfl rfl, (by show 2 ≤ sizeLine; decide), fun g hg => ⟨g, _, rfl, .inr (.inl (.inl upd_same)), rfl, rfl, ?_⟩⟩
    have s2 := same_new hg (.tup [V.str "split", V.str "use"])
    have hp2 := s2 _ _ hp
    refine ⟨false, by show V.bl (inV (.str "cut") [.str "split", .str "use"]) = V.bl false; decide +kernel, iteF ?_⟩
    refine ⟨_, rfl, p, _, _, _, rfl, rfl, .inl (.inl hp2), at_of (j := 0) rfl rfl, rfl, true, str_eqD rfl, iteT ?_⟩
    have al := atxt_len (show AtOk 50 a from ok)
    refine ⟨_, rfl, p, _, _, _, rfl, rfl, .inl (.inl hp2), at_of (j := 1) rfl rfl, va, a, rfl, atAt_same T s2, ok, fun H3 s3 => ?_⟩
    refine ⟨"cut ", atxt a, rfl, rfl, ?_, fin _ (s2.trans s3)⟩
    have : ("cut " : Str).length = 4 := by decide +kernel
    omega
  | asy sy bi =>
    obtain ⟨v, vb, rfl, S, Bb⟩ := Pt
    refine ⟨_, rfl, p, _, rfl, .inr (.inl (.inl hp)), rfl, false, congrArg V.bl (decide_eq_false fun z => by injection z with z; simp at z), iteF ?_⟩
    refine ⟨_, rfl, p, _, _, _, rfl, rfl, .inl (.inl hp), at_of (j := 0) rfl rfl, (by show 2 ≤ sizeLine; decide), fun g hg => ⟨g, _, rfl, .inr (.inl (.inl upd_same)), rfl, rfl, ?_⟩⟩
    have s2 := same_new hg (.tup [V.str "split", V.str "use"])
    have hp2 := s2 _ _ hp
    refine ⟨false, by show V.bl (inV (.str "as") [.str "split", .str "use"]) = V.bl false; decide +kernel, iteF ?_⟩
    refine ⟨_, rfl, p, _, _, _, rfl, rfl, .inl (.inl hp2), at_of (j := 0) rfl rfl, rfl, false, str_neD (by show ("as" : Str) ≠ "cut"; decide +kernel), iteF ?_⟩
    refine ⟨_, rfl, p, _, _, _, rfl, rfl, .inl (.inl hp2), at_of (j := 0) rfl rfl, rfl, true, str_eqD rfl, iteT ?_⟩
    have syl := sytxt_len ok.1
    have bl := bitxt_len ok.2
    have l3 : ("as " : Str).length = 3 := by decide +kernel
    refine ⟨_, rfl, p, _, _, _, rfl, rfl, .inl (.inl hp2), at_of (j := 1) rfl rfl, v, sy, rfl, S.same s2, ok.1, fun H3 s3 => ?_⟩
    have hp3 := s3 _ _ hp2
    refine ⟨"as ", sytxt sy, rfl, rfl, by omega, _, " ; ", rfl, rfl, by rw [slen, l_semi]; omega, ?_⟩
    refine ⟨_, rfl, p, _, _, _, rfl, rfl, .inl (.inl hp3), at_of (j := 2) rfl rfl, vb, bi, rfl, biAt_same (biAt_same Bb s2) s3, ok.2, fun H4 s4 => ?_⟩
    exact ⟨_, _, rfl, rfl, by rw [slen, slen, l_semi]; omega, fin _ (s2.trans (s3.trans s4))⟩
  | bck k bi =>
    obtain ⟨vb, rfl, Bb⟩ := Pt
    refine ⟨_, rfl, p, _, rfl, .inr (.inl (.inl hp)), rfl, false, congrArg V.bl (decide_eq_false fun z => by injection z with z; simp at z), iteF ?_⟩
    refine ⟨_, rfl, p, _, _, _, rfl, rfl, .inl (.inl hp), at_of (j := 0) rfl rfl, (by show 2 ≤ sizeLine; decide), fun g hg => ⟨g, _, rfl, .inr (.inl (.inl upd_same)), rfl, rfl, ?_⟩⟩
    have s2 := same_new hg (.tup [V.str "split", V.str "use"])
    have hp2 := s2 _ _ hp
    refine ⟨false, by show V.bl (inV (.str "back") [.str "split", .str "use"]) = V.bl false; decide +kernel, iteF ?_⟩
    refine ⟨_, rfl, p, _, _, _, rfl, rfl, .inl (.inl hp2), at_of (j := 0) rfl rfl, rfl, false, str_neD (by show ("back" : Str) ≠ "cut"; decide +kernel), iteF ?_⟩
    refine ⟨_, rfl, p, _, _, _, rfl, rfl, .inl (.inl hp2), at_of (j := 0) rfl rfl, rfl, false, str_neD (by show ("back" : Str) ≠ "as"; decide +kernel), iteF ?_⟩
    have nl := nt_len ok.1
    have bl := bitxt_len ok.2
    have l4 : (("back" : Str) ++ " ").length = 5 := by decide +kernel
    refine ⟨_, rfl, p, _, _, _, rfl, rfl, .inl (.inl hp2), at_of (j := 0) rfl rfl, "back", " ", rfl, rfl, by decide +kernel, ?_⟩
    refine ⟨_, rfl, p, _, _, _, rfl, rfl, .inl (.inl hp2), at_of (j := 1) rfl rfl, .inl ⟨_, rfl, nt_log ok.1, "back" ++ " ", nt k, rfl, rfl, by omega, ?_⟩⟩
    refine ⟨_, " ", rfl, rfl, by rw [slen, l_sp]; omega, ?_⟩
    refine ⟨_, rfl, p, _, _, _, rfl, rfl, .inl (.inl hp2), at_of (j := 2) rfl rfl, vb, bi, rfl, biAt_same Bb s2, ok.2, fun H4 s4 => ?_⟩
    exact ⟨_, _, rfl, rfl, by rw [slen, slen, l_sp]; omega, fin _ (s2.trans s4)⟩
  | len x bi =>
    obtain ⟨vb, rfl, Bb⟩ := Pt
    refine ⟨_, rfl, p, _, rfl, .inr (.inl (.inl hp)), rfl, false, congrArg V.bl (decide_eq_false fun z => by injection z with z; simp at z), iteF ?_⟩
    refine ⟨_, rfl, p, _, _, _, rfl, rfl, .inl (.inl hp), at_of (j := 0) rfl rfl, (by show 2 ≤ sizeLine; decide), fun g hg => ⟨g, _, rfl, .inr (.inl (.inl upd_same)), rfl, rfl, ?_⟩⟩
    have s2 := same_new hg (.tup [V.str "split", V.str "use"])
    have hp2 := s2 _ _ hp
    refine ⟨false, by show V.bl (inV (.str "lean") [.str "split", .str "use"]) = V.bl false; decide +kernel, iteF ?_⟩
    refine ⟨_, rfl, p, _, _, _, rfl, rfl, .inl (.inl hp2), at_of (j := 0) rfl rfl, rfl, false, str_neD (by show ("lean" : Str) ≠ "cut"; decide +kernel), iteF ?_⟩
    refine ⟨_, rfl, p, _, _, _, rfl, rfl, .inl (.inl hp2), at_of (j := 0) rfl rfl, rfl, false, str_neD (by show ("lean" : Str) ≠ "as"; decide +kernel), iteF ?_⟩
    have nl := ok.1.few
    have bl := bitxt_len ok.2
    have l4 : (("lean" : Str) ++ " ").length = 5 := by decide +kernel
    refine ⟨_, rfl, p, _, _, _, rfl, rfl, .inl (.inl hp2), at_of (j := 0) rfl rfl, "lean", " ", rfl, rfl, by decide +kernel, ?_⟩
    refine ⟨_, rfl, p, _, _, _, rfl, rfl, .inl (.inl hp2), at_of (j := 1) rfl rfl, .inr ⟨x, rfl, "lean" ++ " ", x, rfl, rfl, by omega, ?_⟩⟩
    refine ⟨_, " ", rfl, rfl, by rw [slen, l_sp]; omega, ?_⟩
    refine ⟨_, rfl, p, _, _, _, rfl, rfl, .inl (.inl hp2), at_of (j := 2) rfl rfl, vb, bi, rfl, biAt_same Bb s2, ok.2, fun H4 s4 => ?_⟩
    exact ⟨_, _, rfl, rfl, by rw [slen, slen, l_sp]; omega, fin _ (s2.trans s4)⟩
end
end Rp

set_option maxHeartbeats 32000000
/-! The law's wild steps. -/
namespace Rp
open PySem PySem.Spec PyProof.Rows L2 TL StX
structure WI (R : Hp → Prop) (Hs H : Hp) (b d p pp l : Addr) (ws : List Str) (kvs : KVs) (xs : List V) (sts : List St) (n : Nat) : Prop where
  W : Wrd H b d p pp ws kvs
  B : BoxAt H b n
  hl : H l = some (.lst xs)
  lb : l ≠ b
  lp : p ≠ l
  lq : pp ≠ l
  A : StsAt H xs sts
  o : But b Hs H
  r : R H
  mono : ∀ {H1 H2 : Hp}, (∀ a zs, H1 a = some (.tup zs) → H2 a = some (.tup zs)) → R H1 → R H2
theorem WI.but {R : Hp → Prop} {Hs H H' : Hp} {b d p pp l : Addr} {ws : List Str} {kvs : KVs} {xs : List V} {sts : List St} {n n' : Nat} (I : WI R Hs H b d p pp l ws kvs xs sts n) (o : But b H H') (B' : BoxAt H' b n') : WI R Hs H' b d p pp l ws kvs xs sts n' :=
  ⟨I.W.but I.B o, B', o _ _ I.hl I.lb, I.lb, I.lp, I.lq, I.A.mono (keepB I.B o), I.o.trans o, I.mono (keepB I.B o) I.r, I.mono⟩
theorem WI.new {R : Hp → Prop} {Hs H : Hp} {b d p pp l c : Addr} {ob : HO} {ws : List Str} {kvs : KVs} {xs : List V} {sts : List St} {n : Nat} (I : WI R Hs H b d p pp l ws kvs xs sts n) (hc : H c = none) : WI R Hs (upd H c ob) b d p pp l ws kvs xs sts n :=
  I.but (but_of (same_new hc _)) (I.B.same (same_new hc _))
theorem WI.set {R : Hp → Prop} {Hs H : Hp} {b d p pp l : Addr} {ws : List Str} {kvs : KVs} {xs : List V} {sts : List St} {n : Nat} (I : WI R Hs H b d p pp l ws kvs xs sts n) (S : Hp → Prop) (s : S H) (m : ∀ {H1 H2 : Hp}, (∀ a zs, H1 a = some (.tup zs) → H2 a = some (.tup zs)) → S H1 → S H2) : WI S Hs H b d p pp l ws kvs xs sts n :=
  ⟨I.W, I.B, I.hl, I.lb, I.lp, I.lq, I.A, I.o, s, m⟩
theorem WI.more {R : Hp → Prop} {Hs H : Hp} {b d p pp l : Addr} {ws : List Str} {kvs : KVs} {xs : List V} {sts : List St} {n n' : Nat} (I : WI R Hs H b d p pp l ws kvs xs sts n) (h : n ≤ n') : WI R Hs H b d p pp l ws kvs xs sts n' :=
  ⟨I.W, I.B.more h, I.hl, I.lb, I.lp, I.lq, I.A, I.o, I.r, I.mono⟩
/-- a dict taken anew -/
theorem WI.dic {R : Hp → Prop} {Hs H : Hp} {b d p pp l g : Addr} {ob : HO} {kv : KVs} {ws : List Str} {kvs : KVs} {xs : List V} {sts : List St} {n : Nat} (I : WI R Hs H b d p pp l ws kvs xs sts n) (hs : Hs g = none) (hg : H g = some (.dK kv)) (dg : d ≠ g) (gb : g ≠ b) : WI R Hs (L2.upd H g ob) b d p pp l ws kvs xs sts n :=
  have k : ∀ a zs, H a = some (.tup zs) → (L2.upd H g ob) a = some (.tup zs) := fun a zs z => by rw [upd_ne (ne_of z hg (by intro e; cases e))]; exact z
  ⟨⟨by rw [upd_ne dg]; exact I.W.hd, I.W.sh, by rw [upd_ne (ne_of I.W.hp hg (by intro e; cases e))]; exact I.W.hp, by rw [upd_ne (ne_of I.W.hq hg (by intro e; cases e))]; exact I.W.hq, I.W.pb, I.W.qb, I.W.nm, I.W.four⟩,
    I.B.upd gb _, by rw [upd_ne (ne_of I.hl hg (by intro e; cases e))]; exact I.hl, I.lb, I.lp, I.lq, I.A.mono k, but_new hs I.o fun _ _ z _ => z, I.mono k I.r, I.mono⟩
/-- one more -/
theorem WI.app {R : Hp → Prop} {Hs H : Hp} {b d p pp l : Addr} {ws : List Str} {kvs : KVs} {xs : List V} {sts : List St} {n : Nat} (I : WI R Hs H b d p pp l ws kvs xs sts n) (hs : Hs l = none) {v : V} {st : St} (T : StAt H v st) :
    WI R Hs (upd H l (.lst (xs ++ [v]))) b d p pp l ws kvs (xs ++ [v]) (sts ++ [st]) n where
  W := ⟨by rw [upd_ne (ne_of I.W.hd I.hl (by intro e; cases e))]; exact I.W.hd, I.W.sh, by rw [upd_ne I.lp]; exact I.W.hp, by rw [upd_ne I.lq]; exact I.W.hq, I.W.pb, I.W.qb, I.W.nm, I.W.four⟩
  B := I.B.upd I.lb _
  hl := upd_same
  lb := I.lb
  lp := I.lp
  lq := I.lq
  A := (I.A.mono (keepU I.hl)).append ⟨stAt_mono (keepU I.hl) T, trivial⟩
  o := but_new hs I.o fun _ _ z _ => z
  r := I.mono (keepU I.hl) I.r
  mono := I.mono
def spWild : Sp := fun vs H Q _ => ∃ (b d p : Addr) (ws : List Str) (kvs : KVs) (j n : Nat), vs = [.ref b, .ref p, .ref d, .int n] ∧ BoxAt H b j ∧ H d = some (.dK kvs) ∧ ShOk ws kvs ∧ H p = some (.lst (ws.map V.str)) ∧ p ≠ b ∧ (∀ x ∈ ws, NameOk x) ∧ ws.length = 4 ∧ n ≤ 29 ∧ j + 7500 ≤ 1000000 ∧
  ∀ (g : Addr) (xs : List V) (sts : List St) (H' : Hp), H' g = some (.tup xs) → StsAt H' xs sts → (∀ st ∈ sts, StOk st) → sts.length ≤ 29 → BoxAt H' b (j + 7500) → But b H H' → Q (.ref g) H'
theorem mem7 {v : V} (h : v ∈ (["by", "split", "use", "back", "cut", "as", "lean", "back", "lean"] : List Str).map V.str) : v = .str "by" ∨ v = .str "split" ∨ v = .str "use" ∨ v = .str "back" ∨ v = .str "cut" ∨ v = .str "as" ∨ v = .str "lean" := by
  simp only [List.map_cons, List.map_nil, List.mem_cons, List.not_mem_nil, or_false] at h
  rcases h with h | h | h | h | h | h | h | h | h <;> simp [h]
theorem two_get (x y : V) (k : Str) : valV (mergeK [] ([(.inr "split", x), (.inr "use", y)] : KVs)) (.inr k) = if k = "use" then some y else if k = "split" then some x else none := by
  show valV (putK (putK ([] : KVs) (.inr "split") x) (.inr "use") y) (.inr k) = _
  rw [valV_put, valV_put]
  by_cases h : k = "use"
  · rw [if_pos (by rw [h]), if_pos h]
  · rw [if_neg (fun z => h (Sum.inr.inj z)), if_neg h]
    by_cases h' : k = "split"
    · rw [if_pos (by rw [h']), if_pos h']
    · rw [if_neg (fun z => h' (Sum.inr.inj z)), if_neg h']
      rfl
section
variable {P : Program} {w : World} {K : PySem.W.Frag} {mg : Str → Option Value} {base : Heap}
abbrev NWi : List Str := ["_law_box_here", "_law_words", "_law_shapes_here", "_law_count", "_law_found", "_law_pool", "_law_turn", "_law_word", "_law_binding", "_law_parts", "_law_first"]
theorem scWild : FnScope NWi ["_law_box_here", "_law_words", "_law_shapes_here", "_law_count"] (defScope sWild) := ⟨rfl, rfl, rfl, by decide +kernel, rfl, by decide +kernel, by decide +kernel⟩
theorem ok_wild {f fT fP fPu fS fA : Addr} {fd dT dP dPu dS dA : FuncData} (F : Fun K "_law_wild_steps" "_law_wild_steps" sWild f fd)
    (GT : FnOk P w K mg base CX0 1 fT dT ["_law_box_here", "_law_reach"] spTake) (kT : PySem.W.keepIn K (.ref fT) = true) (bT : Binds K dT ["_law_box_here", "_law_reach"] []) (mT : mg "_law_take" = some (.ref fT))
    (GP : FnOk P w K mg base CX0 2 fP dP ["_law_box_here", "_law_things"] spPick) (kP : PySem.W.keepIn K (.ref fP) = true) (bP : Binds K dP ["_law_box_here", "_law_things"] []) (mP : mg "_law_pick" = some (.ref fP))
    (GPu : FnOk P w K mg base CX0 6 fPu dPu ["_law_box_here", "_law_spots", "_law_pool"] spPuts) (kPu : PySem.W.keepIn K (.ref fPu) = true) (bPu : Binds K dPu ["_law_box_here", "_law_spots", "_law_pool"] []) (mPu : mg "_law_puts" = some (.ref fPu))
    (GS : FnOk P w K mg base CX0 7 fS dS ["_law_box_here", "_law_shapes_here", "_law_names_here", "_law_pool", "_law_count"] spSayingL) (kS : PySem.W.keepIn K (.ref fS) = true) (bS : Binds K dS ["_law_box_here", "_law_shapes_here", "_law_names_here", "_law_pool", "_law_count"] []) (mS : mg "_law_saying" = some (.ref fS))
    (GA : FnOk P w K mg base CX0 6 fA dA ["_law_box_here", "_law_shapes_here", "_law_names_here", "_law_pool", "_law_deep"] spAtomL) (kA : PySem.W.keepIn K (.ref fA) = true) (bA : Binds K dA ["_law_box_here", "_law_shapes_here", "_law_names_here", "_law_pool", "_law_deep"] []) (mA : mg "_law_atom" = some (.ref fA))
    (mRange : mg "range" = none) (mTuple : mg "tuple" = none) : FnOk P w K mg base CX0 8 f fd ["_law_box_here", "_law_words", "_law_shapes_here", "_law_count"] spWild := by
  refine F.ok scWild (fun vs H Q E h => ?_) (fun cdv A outer s H vs Q E hr h => ?_)
  · obtain ⟨b, d, p, ws, kvs, j, n, rfl, _⟩ := h
    rfl
  obtain ⟨b, d, p, ws, kvs, j, n, rfl, B, hd, sh, hp, pb, nm, w4, n29, hj, q⟩ := h
  have r1 : Room 1 _ := hr.mono (by decide)
  have r2 : Room 2 _ := hr.mono (by decide)
  have r6 : Room 6 _ := hr.mono (by decide)
  refine ⟨_, pss_cons (ps_par (i := 4) (j := 5) rfl scWild.nd rfl rfl (by decide) rfl rfl (pa_cons (pe_lst pa_nil) (pa_cons (pe_lst (pa_cons pe_int (pa_cons pe_int (pa_cons pe_int pa_nil)))) pa_nil)) (by rfl))
    (pss_cons (ps_for PassesOwn.never rfl (pi_range1 (by rfl) mRange (pa_cons (pv 3) pa_nil)) (pg_name (i := 6) scWild.nd rfl (Or.inl rfl))
      (pss_cons (ps_set (i := 7) scWild.nd rfl (Or.inl rfl) (pe_call GP r2 rfl mP kP bP .nil pass0 (pa_cons (pv 0) (pa_cons (pe_lst (pa_cons pe_str (pa_cons pe_str (pa_cons pe_str (pa_cons pe_str (pa_cons pe_str (pa_cons pe_str (pa_cons pe_str (pa_cons pe_str (pa_cons pe_str pa_nil)))))))))) pa_nil))))
      (pss_cons (ps_set (i := 8) scWild.nd rfl (Or.inl rfl) (pe_call GPu r6 rfl mPu kPu bPu .nil pass0 (pa_cons (pv 0) (pa_cons (pe_lst (pa_cons pe_int (pa_cons pe_int (pa_cons pe_int pa_nil)))) (pa_cons (pv 5) pa_nil)))))
      (pss_cons (ps_set (i := 9) scWild.nd rfl (Or.inl rfl) (pe_dget2 (hu_of hr) (pe_disp (pps_cons pe_str (pe_tup (pa_cons (pe_call GT r1 rfl mT kT bT .nil pass0 (pa_cons (pv 0) (pa_cons pe_int pa_nil))) pa_nil))
          (pps_cons pe_str (pe_tup (pa_cons (pe_call GT r1 rfl mT kT bT .nil pass0 (pa_cons (pv 0) (pa_cons pe_int pa_nil))) pa_nil)) pps_nil)) rfl rfl (by intro z; cases z) (by decide)) (pv 7) (pe_tup pa_nil) ⟨rfl, rfl, rfl, rfl⟩))
      (pss_cons (ps_if (pt_cmpR op_in_seq (pv 7) (pe_tup (pa_cons pe_str (pa_cons pe_str (pa_cons pe_str pa_nil)))) (by rfl))
        (pss_cons (ps_set (i := 10) scWild.nd rfl (Or.inl rfl) (pe_ifExp (pt_cmpR op_eq (pv 7) pe_str (nomark _)) (pe_call GT r1 rfl mT kT bT .nil pass0 (pa_cons (pv 0) (pa_cons pe_int pa_nil))) (pe_call GP r2 rfl mP kP bP .nil pass0 (pa_cons (pv 0) (pa_cons (pv 1) pa_nil)))))
        (pss_one (ps_set (i := 9) scWild.nd rfl (Or.inl rfl) (pe_tup (pa_cons (pe_ifExp (pt_cmpR op_eq (pv 7) pe_str (nomark _)) (pe_call GS hr rfl mS kS bS .nil pass0 (pa_cons (pv 0) (pa_cons (pv 2) (pa_cons (pv 1) (pa_cons (pv 5) (pa_cons pe_int pa_nil)))))) (pv 10)) (pa_cons (pv 8) pa_nil)))))) pss_nil)
      (pss_cons (ps_if (pt_cmpR op_eq (pv 7) pe_str (nomark _))
        (pss_one (ps_set (i := 9) scWild.nd rfl (Or.inl rfl) (pe_tup (pa_cons (pe_call GA r6 rfl mA kA bA .nil pass0 (pa_cons (pv 0) (pa_cons (pv 2) (pa_cons (pv 1) (pa_cons (pv 5) (pa_cons pe_int pa_nil)))))) pa_nil)))) pss_nil)
      (pss_one (ps_expr (pe_bm PySem.F.plainAttrs_list PySem.F.slot_list_append PySem.F.type_list_append mt_append (pv 4) (pa_cons (pe_op op_catT (pe_tup (pa_cons (pv 7) pa_nil)) (pv 9)) pa_nil)))))))))) 
    (pss_one (ps_ret (pe_callTy call_tuple_of (by rfl) mTuple (by decide +kernel) (pa_cons (pv 4) pa_nil))))), ?_⟩
  have big : (10000 : Nat) ≤ sizeLine := by decide
  refine ⟨(by show 0 ≤ sizeLine; decide), fun l hl => ⟨(by show 3 ≤ sizeLine; decide), fun pp hpp => ⟨_, _, rfl, ?_⟩⟩⟩
  have s1 := same_new hl (.lst ([] : List V))
  have s2 := same_new hpp (.lst poolV)
  have hl2 := s2 _ _ (upd_same : (upd H l (.lst ([] : List V))) l = _)
  have B2 := (B.same s1).same s2
  have I0 : WI (fun _ => True) H (upd (upd H l (.lst [])) pp (.lst poolV)) b d p pp l ws kvs [] [] (j + 250 * 0) :=
    ⟨⟨s2 _ _ (s1 _ _ hd), sh, s2 _ _ (s1 _ _ hp), upd_same, pb, ne_box (B.same s1) hpp, nm, w4⟩, B2.more (by omega), hl2, ne_box B hl, (ne_of_none hp hl), (ne_of_none upd_same hpp).symm, trivial, (but_of s1).trans (but_of s2), trivial, fun _ h => h⟩
  generalize upd (upd H l (.lst [])) pp (.lst poolV) = H0 at I0 ⊢
  refine ⟨_, rfl, _, rfl, by omega, by omega, for_range (lo := 0) (fun i σ H3 => ∃ (x6 x7 x8 x9 x10 : Option V) (xs : List V) (sts : List St), σ = [some (.ref b), some (.ref p), some (.ref d), some (.int n), some (.ref l), some (.ref pp), x6, x7, x8, x9, x10] ∧
      WI (fun _ => True) H H3 b d p pp l ws kvs xs sts (j + 250 * i) ∧ sts.length = i ∧ (∀ st ∈ sts, StOk st)) ⟨_, _, _, _, _, [], [], rfl, I0, rfl, by simp⟩ ?_ ?_⟩
  · rintro i σ H3 hi ⟨x6, x7, x8, x9, x10, xs, sts, rfl, I3, sl, so⟩
    have i29 : i < 29 := by omega
    have xl := I3.A.len
    -- the word
    refine ⟨_, rfl, (by show 9 ≤ sizeLine; decide), fun c hc => ?_⟩
    have I4 := I3.new (ob := .lst ((["by", "split", "use", "back", "cut", "as", "lean", "back", "lean"] : List Str).map V.str)) hc
    have cb : c ≠ b := ne_box I3.B hc
    refine ⟨b, c, (["by", "split", "use", "back", "cut", "as", "lean", "back", "lean"] : List Str).map V.str, _, rfl, I4.B, by omega, upd_same, cb, by decide, by decide, fun v H5 hv B5 o5 => ?_⟩
    have I5 := I4.but o5 B5
    obtain ⟨wd, rfl⟩ : ∃ wd : Str, v = .str wd := by
      obtain ⟨x, _, rfl⟩ := List.mem_map.mp hv
      exact ⟨x, rfl⟩
    have hw := mem7 hv
    -- the binding
    refine ⟨_, rfl, (by show 3 ≤ sizeLine; decide), fun e he => ?_⟩
    have I6 := I5.new (ob := .lst spotV) he
    have eb : e ≠ b := ne_box I5.B he
    refine ⟨_, rfl, b, e, pp, _, rfl, I6.B, upd_same, I6.W.hq, eb, I6.W.qb, by omega, fun vb ps H7 Bi7 po B7 o7 => ?_⟩
    have I7 := (I6.but o7 B7).set (fun H => BiAt H vb ps) Bi7 (fun m h => biAt_mono m h)
    -- the parts
    intro g hg
    have I8 := I7.new (ob := .dK []) hg
    refine ⟨_, rfl, b, _, _, rfl, I8.B, by omega, by decide, by decide, fun z1 H9 a0 a1 B9 o9 => ⟨(by show 1 ≤ sizeLine; decide), fun t1 ht1 => ?_⟩⟩
    have gb : g ≠ b := ne_box I7.B hg
    have dg : d ≠ g := ne_of_none I7.W.hd hg
    have Hg : H g = none := but_none I7.o I7.B hg
    obtain ⟨k1, rfl⟩ := Int.eq_ofNat_of_zero_le a0
    have I9 := I8.but o9 B9
    have g9 := o9 _ _ (upd_same : (upd H7 g (.dK [])) g = _) gb
    have I10 := I9.new (ob := .tup [V.int (k1 : Nat)]) ht1
    have g10 := same_new ht1 (.tup [V.int (k1 : Nat)]) _ _ g9
    have t10 : (upd H9 t1 (.tup [V.int (k1 : Nat)])) t1 = some (.tup [V.int (k1 : Nat)]) := upd_same
    generalize upd H9 t1 (.tup [V.int (k1 : Nat)]) = H10 at I10 g10 t10 ⊢
    refine ⟨_, rfl, b, _, _, rfl, I10.B, by omega, by decide, by decide, fun z2 H11 b0 b1 B11 o11 => ⟨(by show 1 ≤ sizeLine; decide), fun t2 ht2 => ?_⟩⟩
    have I11 := I10.but o11 B11
    obtain ⟨k2, rfl⟩ := Int.eq_ofNat_of_zero_le b0
    have g11 := o11 _ _ g10 gb
    have t11 := keepB I10.B o11 _ _ t10
    have I12 := I11.new (ob := .tup [V.int (k2 : Nat)]) ht2
    have g12 := same_new ht2 (.tup [V.int (k2 : Nat)]) _ _ g11
    have t12 := same_new ht2 (.tup [V.int (k2 : Nat)]) _ _ t11
    have u12 : (upd H11 t2 (.tup [V.int (k2 : Nat)])) t2 = some (.tup [V.int (k2 : Nat)]) := upd_same
    generalize upd H11 t2 (.tup [V.int (k2 : Nat)]) = H12 at I12 g12 t12 u12 ⊢
    refine ⟨g12, ([(.inr "split", V.ref t1), (.inr "use", V.ref t2)] : KVs), rfl, (by show 2 ≤ 15; decide), ?_⟩
    have g13 : (L2.upd H12 g (.dK (mergeK [] ([(.inr "split", V.ref t1), (.inr "use", V.ref t2)] : KVs)))) g = some (.dK (mergeK [] ([(.inr "split", V.ref t1), (.inr "use", V.ref t2)] : KVs))) := upd_same
    have I13 := I12.dic (ob := .dK (mergeK [] ([(.inr "split", V.ref t1), (.inr "use", V.ref t2)] : KVs))) Hg g12 dg gb
    have t1g : t1 ≠ g := ne_of t12 g12 (by intro e; cases e)
    have t2g : t2 ≠ g := ne_of u12 g12 (by intro e; cases e)
    have t13 : (L2.upd H12 g (.dK (mergeK [] ([(.inr "split", V.ref t1), (.inr "use", V.ref t2)] : KVs)))) t1 = some (.tup [V.int (k1 : Nat)]) := by rw [upd_ne t1g]; exact t12
    have u13 : (L2.upd H12 g (.dK (mergeK [] ([(.inr "split", V.ref t1), (.inr "use", V.ref t2)] : KVs)))) t2 = some (.tup [V.int (k2 : Nat)]) := by rw [upd_ne t2g]; exact u12
    generalize L2.upd H12 g (.dK (mergeK [] ([(.inr "split", V.ref t1), (.inr "use", V.ref t2)] : KVs))) = H13 at g13 I13 t13 u13 ⊢
    refine ⟨g, rfl, .inl ⟨_, .inl g13⟩, _, rfl, (by show 0 ≤ sizeLine; decide), fun ez hez => ⟨_, DGet.k (k := Sum.inr wd) (same_new hez _ _ _ g13), ?_⟩⟩
    have I14 := I13.new (ob := .tup ([] : List V)) hez
    have t14 := same_new hez (.tup ([] : List V)) _ _ t13
    have u14 := same_new hez (.tup ([] : List V)) _ _ u13
    have e14 : (L2.upd H13 ez (.tup ([] : List V))) ez = some (.tup ([] : List V)) := upd_same
    rw [two_get]
    generalize L2.upd H13 ez (.tup ([] : List V)) = H14 at I14 t14 u14 e14 ⊢
    clear I0 I4 I5 I6 I7 I8 I9 I10 I11 I12 I13
    rcases hw with h | h | h | h | h | h | h
    · obtain rfl : wd = "by" := V.str.inj h
      rw [if_neg (by decide +kernel), if_neg (by decide +kernel)]
      refine ⟨_, rfl, (by show 3 ≤ sizeLine; decide), fun g3 hg3 => ⟨g3, _, rfl, .inr (.inl (.inl upd_same)), rfl, rfl, false, by show V.bl (inV (.str "by") [.str "back", .str "lean", .str "as"]) = V.bl false; decide +kernel, iteF ?_⟩⟩
      have I16 := I14.new (ob := .tup [V.str "back", .str "lean", .str "as"]) hg3
      have sG := same_new hg3 (.tup [V.str "back", .str "lean", .str "as"])
      have htp := sG _ _ e14
      generalize L2.upd H14 g3 (.tup [V.str "back", .str "lean", .str "as"]) = H16 at I16 htp ⊢
      refine ⟨_, rfl, rfl, false, str_neD (by show ("by" : Str) ≠ "cut"; decide +kernel), iteF ?_⟩
      refine ⟨_, rfl, .inl ⟨rfl, _, .inl (.inl I16.hl)⟩, _, rfl, (by show 1 ≤ sizeLine; decide), fun c2 hc2 => ⟨_, rfl, c2, ez, [V.str "by"], [], rfl, rfl, .inl (.inl upd_same), .inl (.inl (same_new hc2 _ _ _ (htp))), by simp, by simp; omega, fun _ => ?_, fun z => absurd rfl z⟩⟩
      have I20 := I16.new (ob := .tup [V.str "by"]) hc2
      have T : StAt (L2.upd H16 c2 (.tup [V.str "by"])) (.ref c2) St.by_ := ⟨c2, [], rfl, upd_same, rfl⟩
      refine ⟨l, _, _, rfl, rfl, I20.hl, by omega, ?_⟩
      refine ⟨_, _, _, _, _, xs ++ [.ref c2], sts ++ [St.by_], rfl, ((I20.set (fun _ => True) trivial fun _ h => h).app hl T).more (by omega), by simp [sl], fun st hst => ?_⟩
      rcases List.mem_append.mp hst with hst | hst
      · exact so st hst
      · obtain rfl : st = St.by_ := by simpa using hst
        exact trivial
    · obtain rfl : wd = "split" := V.str.inj h
      rw [if_neg (by decide +kernel), if_pos rfl]
      refine ⟨_, rfl, (by show 3 ≤ sizeLine; decide), fun g3 hg3 => ⟨g3, _, rfl, .inr (.inl (.inl upd_same)), rfl, rfl, false, by show V.bl (inV (.str "split") [.str "back", .str "lean", .str "as"]) = V.bl false; decide +kernel, iteF ?_⟩⟩
      have I16 := I14.new (ob := .tup [V.str "back", .str "lean", .str "as"]) hg3
      have sG := same_new hg3 (.tup [V.str "back", .str "lean", .str "as"])
      have htp := sG _ _ t14
      generalize L2.upd H14 g3 (.tup [V.str "back", .str "lean", .str "as"]) = H16 at I16 htp ⊢
      refine ⟨_, rfl, rfl, false, str_neD (by show ("split" : Str) ≠ "cut"; decide +kernel), iteF ?_⟩
      refine ⟨_, rfl, .inl ⟨rfl, _, .inl (.inl I16.hl)⟩, _, rfl, (by show 1 ≤ sizeLine; decide), fun c2 hc2 => ⟨_, rfl, c2, t1, [V.str "split"], [V.int (k1 : Nat)], rfl, rfl, .inl (.inl upd_same), .inl (.inl (same_new hc2 _ _ _ (htp))), by simp, by simp; omega, fun z => (by cases z), fun _ u hu => ?_⟩⟩
      have I20 := (I16.new (ob := .tup [V.str "split"]) hc2).new (ob := .tup ([V.str "split"] ++ [V.int (k1 : Nat)])) hu
      have sU := (same_new hc2 (.tup [V.str "split"])).trans (same_new hu (.tup ([V.str "split"] ++ [V.int (k1 : Nat)])))
      have T : StAt (L2.upd (L2.upd H16 c2 (.tup [V.str "split"])) u (.tup ([V.str "split"] ++ [V.int (k1 : Nat)]))) (.ref u) (St.spl k1) := ⟨u, [V.int (k1 : Nat)], rfl, upd_same, rfl⟩
      refine ⟨l, _, _, rfl, rfl, I20.hl, by omega, ?_⟩
      refine ⟨_, _, _, _, _, xs ++ [.ref u], sts ++ [(St.spl k1)], rfl, ((I20.set (fun _ => True) trivial fun _ h => h).app hl T).more (by omega), by simp [sl], fun st hst => ?_⟩
      rcases List.mem_append.mp hst with hst | hst
      · exact so st hst
      · obtain rfl : st = (St.spl k1) := by simpa using hst
        exact (show k1 ≤ 9999999999 by omega)
    · obtain rfl : wd = "use" := V.str.inj h
      rw [if_pos rfl]
      refine ⟨_, rfl, (by show 3 ≤ sizeLine; decide), fun g3 hg3 => ⟨g3, _, rfl, .inr (.inl (.inl upd_same)), rfl, rfl, false, by show V.bl (inV (.str "use") [.str "back", .str "lean", .str "as"]) = V.bl false; decide +kernel, iteF ?_⟩⟩
      have I16 := I14.new (ob := .tup [V.str "back", .str "lean", .str "as"]) hg3
      have sG := same_new hg3 (.tup [V.str "back", .str "lean", .str "as"])
      have htp := sG _ _ u14
      generalize L2.upd H14 g3 (.tup [V.str "back", .str "lean", .str "as"]) = H16 at I16 htp ⊢
      refine ⟨_, rfl, rfl, false, str_neD (by show ("use" : Str) ≠ "cut"; decide +kernel), iteF ?_⟩
      refine ⟨_, rfl, .inl ⟨rfl, _, .inl (.inl I16.hl)⟩, _, rfl, (by show 1 ≤ sizeLine; decide), fun c2 hc2 => ⟨_, rfl, c2, t2, [V.str "use"], [V.int (k2 : Nat)], rfl, rfl, .inl (.inl upd_same), .inl (.inl (same_new hc2 _ _ _ (htp))), by simp, by simp; omega, fun z => (by cases z), fun _ u hu => ?_⟩⟩
      have I20 := (I16.new (ob := .tup [V.str "use"]) hc2).new (ob := .tup ([V.str "use"] ++ [V.int (k2 : Nat)])) hu
      have sU := (same_new hc2 (.tup [V.str "use"])).trans (same_new hu (.tup ([V.str "use"] ++ [V.int (k2 : Nat)])))
      have T : StAt (L2.upd (L2.upd H16 c2 (.tup [V.str "use"])) u (.tup ([V.str "use"] ++ [V.int (k2 : Nat)]))) (.ref u) (St.use k2) := ⟨u, [V.int (k2 : Nat)], rfl, upd_same, rfl⟩
      refine ⟨l, _, _, rfl, rfl, I20.hl, by omega, ?_⟩
      refine ⟨_, _, _, _, _, xs ++ [.ref u], sts ++ [(St.use k2)], rfl, ((I20.set (fun _ => True) trivial fun _ h => h).app hl T).more (by omega), by simp [sl], fun st hst => ?_⟩
      rcases List.mem_append.mp hst with hst | hst
      · exact so st hst
      · obtain rfl : st = (St.use k2) := by simpa using hst
        exact (show k2 ≤ 9999999999 by omega)
    · obtain rfl : wd = "back" := V.str.inj h
      rw [if_neg (by decide +kernel), if_neg (by decide +kernel)]
      refine ⟨_, rfl, (by show 3 ≤ sizeLine; decide), fun g3 hg3 => ⟨g3, _, rfl, .inr (.inl (.inl upd_same)), rfl, rfl, true, by show V.bl (inV (.str "back") [.str "back", .str "lean", .str "as"]) = V.bl true; decide +kernel, iteT ?_⟩⟩
      have I16 := I14.new (ob := .tup [V.str "back", .str "lean", .str "as"]) hg3
      have sG := same_new hg3 (.tup [V.str "back", .str "lean", .str "as"])
      refine ⟨_, rfl, rfl, true, str_eqD rfl, iteT ⟨_, rfl, b, _, _, rfl, I16.B, by omega, by decide, by decide, fun z3 H17 c0 c1 B17 o17 => ?_⟩⟩
      have I17 := I16.but o17 B17
      obtain ⟨k3, rfl⟩ := Int.eq_ofNat_of_zero_le c0
      refine ⟨_, rfl, rfl, false, str_neD (by show ("back" : Str) ≠ "as"; decide +kernel), iteF ⟨_, rfl, _, rfl, (by show 2 ≤ sizeLine; decide), fun tp htp0 => ?_⟩⟩
      have I18 := I17.new (ob := .tup [V.int (k3 : Nat), vb]) htp0
      have htp : (L2.upd H17 tp (.tup [V.int (k3 : Nat), vb])) tp = some (.tup [V.int (k3 : Nat), vb]) := upd_same
      generalize L2.upd H17 tp (.tup [V.int (k3 : Nat), vb]) = H18 at I18 htp ⊢
      refine ⟨_, rfl, rfl, false, str_neD (by show ("back" : Str) ≠ "cut"; decide +kernel), iteF ?_⟩
      refine ⟨_, rfl, .inl ⟨rfl, _, .inl (.inl I18.hl)⟩, _, rfl, (by show 1 ≤ sizeLine; decide), fun c2 hc2 => ⟨_, rfl, c2, tp, [V.str "back"], [V.int (k3 : Nat), vb], rfl, rfl, .inl (.inl upd_same), .inl (.inl (same_new hc2 _ _ _ (htp))), by simp, by simp; omega, fun z => (by cases z), fun _ u hu => ?_⟩⟩
      have I20 := (I18.new (ob := .tup [V.str "back"]) hc2).new (ob := .tup ([V.str "back"] ++ [V.int (k3 : Nat), vb])) hu
      have sU := (same_new hc2 (.tup [V.str "back"])).trans (same_new hu (.tup ([V.str "back"] ++ [V.int (k3 : Nat), vb])))
      have T : StAt (L2.upd (L2.upd H18 c2 (.tup [V.str "back"])) u (.tup ([V.str "back"] ++ [V.int (k3 : Nat), vb]))) (.ref u) (St.bck k3 ps) := ⟨u, [V.int (k3 : Nat), vb], rfl, upd_same, ⟨vb, rfl, biAt_same I18.r sU⟩⟩
      refine ⟨l, _, _, rfl, rfl, I20.hl, by omega, ?_⟩
      refine ⟨_, _, _, _, _, xs ++ [.ref u], sts ++ [(St.bck k3 ps)], rfl, ((I20.set (fun _ => True) trivial fun _ h => h).app hl T).more (by omega), by simp [sl], fun st hst => ?_⟩
      rcases List.mem_append.mp hst with hst | hst
      · exact so st hst
      · obtain rfl : st = (St.bck k3 ps) := by simpa using hst
        exact ⟨by omega, po⟩
    · obtain rfl : wd = "cut" := V.str.inj h
      rw [if_neg (by decide +kernel), if_neg (by decide +kernel)]
      refine ⟨_, rfl, (by show 3 ≤ sizeLine; decide), fun g3 hg3 => ⟨g3, _, rfl, .inr (.inl (.inl upd_same)), rfl, rfl, false, by show V.bl (inV (.str "cut") [.str "back", .str "lean", .str "as"]) = V.bl false; decide +kernel, iteF ?_⟩⟩
      have I16 := I14.new (ob := .tup [V.str "back", .str "lean", .str "as"]) hg3
      have sG := same_new hg3 (.tup [V.str "back", .str "lean", .str "as"])
      refine ⟨_, rfl, rfl, true, str_eqD rfl, iteT ⟨_, rfl, _, rfl, _, rfl, _, rfl, b, d, p, pp, ws, kvs, _, 1, rfl, I16.B, I16.W, by omega, by omega, fun va a H17 A17 ok17 B17 o17 => ⟨(by show 1 ≤ sizeLine; decide), fun tp htp0 => ?_⟩⟩⟩
      have I17 := I16.but o17 B17
      have I18 := I17.new (ob := .tup [va]) htp0
      have htp : (L2.upd H17 tp (.tup [va])) tp = some (.tup [va]) := upd_same
      have A18 := atAt_same A17 (same_new htp0 (.tup [va]))
      generalize L2.upd H17 tp (.tup [va]) = H18 at I18 htp A18 ⊢
      refine ⟨_, rfl, .inl ⟨rfl, _, .inl (.inl I18.hl)⟩, _, rfl, (by show 1 ≤ sizeLine; decide), fun c2 hc2 => ⟨_, rfl, c2, tp, [V.str "cut"], [va], rfl, rfl, .inl (.inl upd_same), .inl (.inl (same_new hc2 _ _ _ (htp))), by simp, by simp; omega, fun z => (by cases z), fun _ u hu => ?_⟩⟩
      have I20 := (I18.new (ob := .tup [V.str "cut"]) hc2).new (ob := .tup ([V.str "cut"] ++ [va])) hu
      have sU := (same_new hc2 (.tup [V.str "cut"])).trans (same_new hu (.tup ([V.str "cut"] ++ [va])))
      have T : StAt (L2.upd (L2.upd H18 c2 (.tup [V.str "cut"])) u (.tup ([V.str "cut"] ++ [va]))) (.ref u) (St.cut a) := ⟨u, [va], rfl, upd_same, ⟨va, rfl, atAt_same A18 sU⟩⟩
      refine ⟨l, _, _, rfl, rfl, I20.hl, by omega, ?_⟩
      refine ⟨_, _, _, _, _, xs ++ [.ref u], sts ++ [(St.cut a)], rfl, ((I20.set (fun _ => True) trivial fun _ h => h).app hl T).more (by omega), by simp [sl], fun st hst => ?_⟩
      rcases List.mem_append.mp hst with hst | hst
      · exact so st hst
      · obtain rfl : st = (St.cut a) := by simpa using hst
        exact ok17
    · obtain rfl : wd = "as" := V.str.inj h
      rw [if_neg (by decide +kernel), if_neg (by decide +kernel)]
      refine ⟨_, rfl, (by show 3 ≤ sizeLine; decide), fun g3 hg3 => ⟨g3, _, rfl, .inr (.inl (.inl upd_same)), rfl, rfl, true, by show V.bl (inV (.str "as") [.str "back", .str "lean", .str "as"]) = V.bl true; decide +kernel, iteT ?_⟩⟩
      have I16 := I14.new (ob := .tup [V.str "back", .str "lean", .str "as"]) hg3
      have sG := same_new hg3 (.tup [V.str "back", .str "lean", .str "as"])
      refine ⟨_, rfl, rfl, false, str_neD (by show ("as" : Str) ≠ "back"; decide +kernel), iteF ⟨_, rfl, _, rfl, b, p, _, _, rfl, I16.B, by omega, I16.W.hp, I16.W.pb, by rw [List.length_map]; omega, by rw [List.length_map]; omega, fun v17 H17 hv17 B17 o17 => ?_⟩⟩
      have I17 := I16.but o17 B17
      obtain ⟨x, hx, rfl⟩ := List.mem_map.mp hv17
      refine ⟨_, rfl, rfl, true, str_eqD rfl, iteT ⟨_, rfl, _, rfl, _, rfl, _, rfl, b, d, p, pp, ws, kvs, _, 2, rfl, I17.B, I17.W, by omega, by omega, fun vS sy H19 S19 ok19 B19 o19 => ⟨_, rfl, (by show 2 ≤ sizeLine; decide), fun tp htp0 => ?_⟩⟩⟩
      have I19 := I17.but o19 B19
      have I18 := I19.new (ob := .tup [vS, vb]) htp0
      have htp : (L2.upd H19 tp (.tup [vS, vb])) tp = some (.tup [vS, vb]) := upd_same
      have S18 := S19.same (same_new htp0 (.tup [vS, vb]))
      generalize L2.upd H19 tp (.tup [vS, vb]) = H18 at I18 htp S18 ⊢
      refine ⟨_, rfl, rfl, false, str_neD (by show ("as" : Str) ≠ "cut"; decide +kernel), iteF ?_⟩
      refine ⟨_, rfl, .inl ⟨rfl, _, .inl (.inl I18.hl)⟩, _, rfl, (by show 1 ≤ sizeLine; decide), fun c2 hc2 => ⟨_, rfl, c2, tp, [V.str "as"], [vS, vb], rfl, rfl, .inl (.inl upd_same), .inl (.inl (same_new hc2 _ _ _ (htp))), by simp, by simp; omega, fun z => (by cases z), fun _ u hu => ?_⟩⟩
      have I20 := (I18.new (ob := .tup [V.str "as"]) hc2).new (ob := .tup ([V.str "as"] ++ [vS, vb])) hu
      have sU := (same_new hc2 (.tup [V.str "as"])).trans (same_new hu (.tup ([V.str "as"] ++ [vS, vb])))
      have T : StAt (L2.upd (L2.upd H18 c2 (.tup [V.str "as"])) u (.tup ([V.str "as"] ++ [vS, vb]))) (.ref u) (St.asy sy ps) := ⟨u, [vS, vb], rfl, upd_same, ⟨vS, vb, rfl, S18.same sU, biAt_same I18.r sU⟩⟩
      refine ⟨l, _, _, rfl, rfl, I20.hl, by omega, ?_⟩
      refine ⟨_, _, _, _, _, xs ++ [.ref u], sts ++ [(St.asy sy ps)], rfl, ((I20.set (fun _ => True) trivial fun _ h => h).app hl T).more (by omega), by simp [sl], fun st hst => ?_⟩
      rcases List.mem_append.mp hst with hst | hst
      · exact so st hst
      · obtain rfl : st = (St.asy sy ps) := by simpa using hst
        exact ⟨ok19, po⟩
    · obtain rfl : wd = "lean" := V.str.inj h
      rw [if_neg (by decide +kernel), if_neg (by decide +kernel)]
      refine ⟨_, rfl, (by show 3 ≤ sizeLine; decide), fun g3 hg3 => ⟨g3, _, rfl, .inr (.inl (.inl upd_same)), rfl, rfl, true, by show V.bl (inV (.str "lean") [.str "back", .str "lean", .str "as"]) = V.bl true; decide +kernel, iteT ?_⟩⟩
      have I16 := I14.new (ob := .tup [V.str "back", .str "lean", .str "as"]) hg3
      have sG := same_new hg3 (.tup [V.str "back", .str "lean", .str "as"])
      refine ⟨_, rfl, rfl, false, str_neD (by show ("lean" : Str) ≠ "back"; decide +kernel), iteF ⟨_, rfl, _, rfl, b, p, _, _, rfl, I16.B, by omega, I16.W.hp, I16.W.pb, by rw [List.length_map]; omega, by rw [List.length_map]; omega, fun v17 H17 hv17 B17 o17 => ?_⟩⟩
      have I17 := I16.but o17 B17
      obtain ⟨x, hx, rfl⟩ := List.mem_map.mp hv17
      refine ⟨_, rfl, rfl, false, str_neD (by show ("lean" : Str) ≠ "as"; decide +kernel), iteF ⟨_, rfl, _, rfl, (by show 2 ≤ sizeLine; decide), fun tp htp0 => ?_⟩⟩
      have I18 := I17.new (ob := .tup [V.str x, vb]) htp0
      have htp : (L2.upd H17 tp (.tup [V.str x, vb])) tp = some (.tup [V.str x, vb]) := upd_same
      generalize L2.upd H17 tp (.tup [V.str x, vb]) = H18 at I18 htp ⊢
      refine ⟨_, rfl, rfl, false, str_neD (by show ("lean" : Str) ≠ "cut"; decide +kernel), iteF ?_⟩
      refine ⟨_, rfl, .inl ⟨rfl, _, .inl (.inl I18.hl)⟩, _, rfl, (by show 1 ≤ sizeLine; decide), fun c2 hc2 => ⟨_, rfl, c2, tp, [V.str "lean"], [V.str x, vb], rfl, rfl, .inl (.inl upd_same), .inl (.inl (same_new hc2 _ _ _ (htp))), by simp, by simp; omega, fun z => (by cases z), fun _ u hu => ?_⟩⟩
      have I20 := (I18.new (ob := .tup [V.str "lean"]) hc2).new (ob := .tup ([V.str "lean"] ++ [V.str x, vb])) hu
      have sU := (same_new hc2 (.tup [V.str "lean"])).trans (same_new hu (.tup ([V.str "lean"] ++ [V.str x, vb])))
      have T : StAt (L2.upd (L2.upd H18 c2 (.tup [V.str "lean"])) u (.tup ([V.str "lean"] ++ [V.str x, vb]))) (.ref u) (St.len x ps) := ⟨u, [V.str x, vb], rfl, upd_same, ⟨vb, rfl, biAt_same I18.r sU⟩⟩
      refine ⟨l, _, _, rfl, rfl, I20.hl, by omega, ?_⟩
      refine ⟨_, _, _, _, _, xs ++ [.ref u], sts ++ [(St.len x ps)], rfl, ((I20.set (fun _ => True) trivial fun _ h => h).app hl T).more (by omega), by simp [sl], fun st hst => ?_⟩
      rcases List.mem_append.mp hst with hst | hst
      · exact so st hst
      · obtain rfl : st = (St.len x ps) := by simpa using hst
        exact ⟨I16.W.nm x hx, po⟩
  · rintro σ H3 ⟨x6, x7, x8, x9, x10, xs, sts, rfl, I3, sl, so⟩
    have sl : sts.length = n := sl
    have xl := I3.A.len
    refine ⟨_, rfl, l, xs, rfl, .inl ⟨.inl (.inl I3.hl), fun g hg => ?_⟩⟩
    have I4 := I3.new (ob := .tup xs) hg
    exact q g xs sts _ upd_same I4.A so (by omega) (I4.B.more (by omega)) I4.o
end
end Rp

set_option maxHeartbeats 16000000
/-! Displays of ints, texts, names and tuples. -/
namespace Rp
open PySem PySem.Spec PyProof.Rows L2 TL StX
mutual
inductive Lt where
  | i (n : Int)
  | s (x : Str)
  | v (k : Nat)
  | t (l : Lts)
inductive Lts where
  | nil
  | cons (a : Lt) (r : Lts)
end
mutual
def Lt.te : Lt → TE
  | .i n => tC (.int n)
  | .s x => tC (.str x)
  | .v k => tVar k
  | .t l => tTup l.ta
def Lts.ta : Lts → TA
  | .nil => tNil
  | .cons a r => tCons a.te r.ta
end
def Lts.len : Lts → Nat
  | .nil => 0
  | .cons _ r => r.len + 1
mutual
def Lt.ok (σ : L2.St) : Lt → Prop
  | .i _ => True
  | .s _ => True
  | .v k => ∃ v, σ[k]? = some (some v)
  | .t l => l.len ≤ 1000 ∧ l.ok σ
def Lts.ok (σ : L2.St) : Lts → Prop
  | .nil => True
  | .cons a r => a.ok σ ∧ r.ok σ
end
mutual
def LtAt (σ : L2.St) (H : Hp) : Lt → V → Prop
  | .i n, v => v = .int n
  | .s x, v => v = .str x
  | .v k, v => σ[k]? = some (some v)
  | .t l, v => ∃ (a : Addr) (xs : List V), v = .ref a ∧ H a = some (.tup xs) ∧ LtsAt σ H l xs
def LtsAt (σ : L2.St) (H : Hp) : Lts → List V → Prop
  | .nil, xs => xs = []
  | .cons a r, xs => ∃ (v : V) (ys : List V), xs = v :: ys ∧ LtAt σ H a v ∧ LtsAt σ H r ys
end
mutual
theorem LtAt.mono {σ : L2.St} {H H' : Hp} (e : ∀ a xs, H a = some (.tup xs) → H' a = some (.tup xs)) : ∀ {L : Lt} {v : V}, LtAt σ H L v → LtAt σ H' L v
  | .i _, _, h => h
  | .s _, _, h => h
  | .v _, _, h => h
  | .t _, _, ⟨a, xs, e1, e2, h⟩ => ⟨a, xs, e1, e _ _ e2, LtsAt.mono e h⟩
theorem LtsAt.mono {σ : L2.St} {H H' : Hp} (e : ∀ a xs, H a = some (.tup xs) → H' a = some (.tup xs)) : ∀ {L : Lts} {v : List V}, LtsAt σ H L v → LtsAt σ H' L v
  | .nil, _, h => h
  | .cons _ _, _, ⟨v, ys, e1, h1, h2⟩ => ⟨v, ys, e1, LtAt.mono e h1, LtsAt.mono e h2⟩
end
theorem LtsAt.len {σ : L2.St} {H : Hp} : ∀ {L : Lts} {v : List V}, LtsAt σ H L v → v.length = L.len
  | .nil, _, h => by rw [show _ = [] from h]; rfl
  | .cons _ _, _, ⟨v, ys, e1, h1, h2⟩ => by rw [e1, List.length_cons, LtsAt.len h2]; rfl
mutual
theorem Lt.run {σ : L2.St} : ∀ (L : Lt) {H : Hp} {Q : V → Hp → Prop}, L.ok σ → (∀ (v : V) (H' : Hp), LtAt σ H' L v → Same H H' → Q v H') → L.te σ H Q
  | .i n, H, Q, _, q => q _ H rfl (Same.refl H)
  | .s x, H, Q, _, q => q _ H rfl (Same.refl H)
  | .v k, H, Q, ⟨v, hv⟩, q => ⟨v, hv, q v H hv (Same.refl H)⟩
  | .t l, H, Q, ⟨hl, hok⟩, q => Lts.run l hok fun xs H1 hx s1 => by
    have big : (1000 : Nat) ≤ sizeLine := by decide
    refine ⟨by rw [LtsAt.len hx]; exact Nat.le_trans hl big, fun p hp => ?_⟩
    have s2 := same_new hp (.tup xs)
    exact q _ _ ⟨p, xs, rfl, upd_same, LtsAt.mono (fun a zs z => s2 _ _ z) hx⟩ (s1.trans s2)
theorem Lts.run {σ : L2.St} : ∀ (L : Lts) {H : Hp} {Q : List V → Hp → Prop}, L.ok σ → (∀ (v : List V) (H' : Hp), LtsAt σ H' L v → Same H H' → Q v H') → L.ta σ H Q
  | .nil, H, Q, _, q => q _ H rfl (Same.refl H)
  | .cons a r, H, Q, ⟨h1, h2⟩, q => Lt.run a h1 fun v H1 hv s1 => Lts.run r h2 fun xs H2 hx s2 =>
    q _ _ ⟨v, xs, rfl, LtAt.mono (fun a zs z => s2 _ _ z) hv, hx⟩ (s1.trans s2)
end
theorem seq_asg {te : TE} {g : TG} {rest : TS} {D : Ends} {σ : L2.St} {H : Hp} (h : te σ H fun v H1 => g v σ H1 fun σ2 H2 => rest D σ2 H2) : tSeq (tAsg te g) rest D σ H := h
theorem cons1 {te : TE} {σ : L2.St} {H : Hp} {Q : List V → Hp → Prop} (h : te σ H fun v H1 => Q [v] H1) : tCons te tNil σ H Q := h
theorem lst1 {te : TE} {σ : L2.St} {H : Hp} {Q : V → Hp → Prop} (h : te σ H fun v H1 => 1 ≤ sizeLine ∧ ∀ p, H1 p = none → Q (.ref p) (upd H1 p (.lst [v]))) : tLst (tCons te tNil) σ H Q := h
theorem ret_cat1 {te : TE} {i : Nat} {D : Ends} {σ : L2.St} {H : Hp} {v : V} (hv : σ[i]? = some (some v)) (h : te σ H fun u H1 => 1 ≤ sizeLine ∧ ∀ p, H1 p = none → rCat v (.ref p) (upd H1 p (.lst [u])) D.rt) : tRet (tOp rCat (tVar i) (tLst (tCons te tNil))) D σ H := ⟨v, hv, h⟩
theorem Lt.runE {σ : L2.St} (L : Lt) (te : TE) (e : L.te = te) {H : Hp} {Q : V → Hp → Prop} (h : L.ok σ) (q : ∀ (v : V) (H' : Hp), LtAt σ H' L v → Same H H' → Q v H') : te σ H Q := e ▸ Lt.run L h q
abbrev DTm (σ : L2.St) (L : Lt) (t : Tm) : Prop := ∀ {H : Hp} {v : V}, LtAt σ H L v → TmAt H v t
abbrev DTms (σ : L2.St) (L : Lts) (t : List Tm) : Prop := ∀ {H : Hp} {v : List V}, LtsAt σ H L v → AllAt H v t
abbrev DAm (σ : L2.St) (L : Lt) (t : At) : Prop := ∀ {H : Hp} {v : V}, LtAt σ H L v → AtAt H v t
abbrev DAts (σ : L2.St) (L : Lts) (t : List At) : Prop := ∀ {H : Hp} {v : List V}, LtsAt σ H L v → AtsAt H v t
abbrev DSy (σ : L2.St) (L : Lt) (t : Sy) : Prop := ∀ {H : Hp} {v : V}, LtAt σ H L v → SyAt H v t
abbrev DPr (σ : L2.St) (L : Lts) (t : Prs) : Prop := ∀ {H : Hp} {v : List V}, LtsAt σ H L v → PrAt H v t
abbrev DBi (σ : L2.St) (L : Lt) (t : Prs) : Prop := ∀ {H : Hp} {v : V}, LtAt σ H L v → BiAt H v t
abbrev DSt (σ : L2.St) (L : Lt) (t : St) : Prop := ∀ {H : Hp} {v : V}, LtAt σ H L v → StAt H v t
abbrev DSts (σ : L2.St) (L : Lts) (t : List St) : Prop := ∀ {H : Hp} {v : List V}, LtsAt σ H L v → StsAt H v t
section
variable {σ : L2.St}
theorem dt_i (n : Int) : DTm σ (.i n) (.v n) := fun {H v} h => by rw [show v = _ from h]; exact .v n
theorem dt_z : DTm σ (.t (.cons (.s "0") .nil)) .z := fun {H v} h => by
  obtain ⟨a, _, rfl, h1, _, _, rfl, rfl, rfl⟩ := h
  exact .z h1
theorem dt_s {L : Lt} {t : Tm} (h : DTm σ L t) : DTm σ (.t (.cons (.s "s") (.cons L .nil))) (.s t) := fun {H v} h' => by
  obtain ⟨a, _, rfl, h1, _, _, rfl, rfl, v, _, rfl, h2, rfl⟩ := h'
  exact .s h1 (h h2)
theorem dts_nil : DTms σ .nil [] := fun {H v} h => by rw [show v = _ from h]; trivial
theorem dts_cons {L : Lt} {l : Lts} {t : Tm} {ts : List Tm} (h : DTm σ L t) (h' : DTms σ l ts) : DTms σ (.cons L l) (t :: ts) := fun {H v} z => by
  obtain ⟨a, xs, rfl, h1, h2⟩ := z
  exact ⟨h h1, h' h2⟩
theorem d_at {k : Nat} {l : Lts} {x : Str} {ts : List Tm} (hk : σ[k]? = some (some (.str x))) (h : DTms σ l ts) : DAm σ (.t (.cons (.v k) l)) ⟨x, ts⟩ := fun {H v} z => by
  obtain ⟨a, _, rfl, h1, u, xs, rfl, h2, h3⟩ := z
  have e : some (some (V.str x)) = some (some u) := hk.symm.trans h2
  obtain rfl : V.str x = u := Option.some.inj (Option.some.inj e)
  exact ⟨a, xs, rfl, h1, h h3⟩
theorem dats_nil : DAts σ .nil [] := fun {H v} h => by rw [show v = _ from h]; trivial
theorem dats_cons {L : Lt} {l : Lts} {t : At} {ts : List At} (h : DAm σ L t) (h' : DAts σ l ts) : DAts σ (.cons L l) (t :: ts) := fun {H v} z => by
  obtain ⟨a, xs, rfl, h1, h2⟩ := z
  exact ⟨h h1, h' h2⟩
theorem d_sy {L : Lt} {l : Lts} {g : At} {hs : List At} (h : DAts σ l hs) (h' : DAm σ L g) : DSy σ (.t (.cons (.t l) (.cons L .nil))) ⟨hs, g⟩ := fun {H v} z => by
  obtain ⟨a, _, rfl, h1, _, _, rfl, ⟨b, xs, rfl, h2, h3⟩, u, _, rfl, h4, rfl⟩ := z
  exact ⟨a, b, u, xs, rfl, h1, h2, h h3, h' h4⟩
theorem dpr_nil : DPr σ .nil [] := fun {H v} h => by rw [show v = _ from h]; trivial
theorem dpr_cons {L : Lt} {l : Lts} {n : Int} {t : Tm} {ts : Prs} (h : DTm σ L t) (h' : DPr σ l ts) : DPr σ (.cons (.t (.cons (.i n) (.cons L .nil))) l) ((n, t) :: ts) := fun {H v} z => by
  obtain ⟨_, xs, rfl, ⟨b, _, rfl, h1, _, _, rfl, rfl, u, _, rfl, h2, rfl⟩, h3⟩ := z
  exact ⟨⟨b, u, rfl, h1, h h2⟩, h' h3⟩
theorem d_bi {l : Lts} {ps : Prs} (h : DPr σ l ps) : DBi σ (.t l) ps := fun {H v} z => by
  obtain ⟨a, xs, rfl, h1, h2⟩ := z
  exact ⟨a, xs, rfl, h1, h h2⟩
theorem d_by : DSt σ (.t (.cons (.s "by") .nil)) .by_ := fun {H v} h => by
  obtain ⟨a, _, rfl, h1, _, _, rfl, rfl, rfl⟩ := h
  exact ⟨a, [], rfl, h1, rfl⟩
theorem d_spl (k : Nat) : DSt σ (.t (.cons (.s "split") (.cons (.i (k : Nat)) .nil))) (.spl k) := fun {H v} h => by
  obtain ⟨a, _, rfl, h1, _, _, rfl, rfl, _, _, rfl, rfl, rfl⟩ := h
  exact ⟨a, _, rfl, h1, rfl⟩
theorem d_use (k : Nat) : DSt σ (.t (.cons (.s "use") (.cons (.i (k : Nat)) .nil))) (.use k) := fun {H v} h => by
  obtain ⟨a, _, rfl, h1, _, _, rfl, rfl, _, _, rfl, rfl, rfl⟩ := h
  exact ⟨a, _, rfl, h1, rfl⟩
theorem d_bck (k : Nat) {L : Lt} {b : Prs} (h : DBi σ L b) : DSt σ (.t (.cons (.s "back") (.cons (.i (k : Nat)) (.cons L .nil)))) (.bck k b) := fun {H v} z => by
  obtain ⟨a, _, rfl, h1, _, _, rfl, rfl, _, _, rfl, rfl, vb, _, rfl, h2, rfl⟩ := z
  exact ⟨a, _, rfl, h1, vb, rfl, h h2⟩
theorem d_cut {L : Lt} {b : At} (h : DAm σ L b) : DSt σ (.t (.cons (.s "cut") (.cons L .nil))) (.cut b) := fun {H v} z => by
  obtain ⟨a, _, rfl, h1, _, _, rfl, rfl, vb, _, rfl, h2, rfl⟩ := z
  exact ⟨a, _, rfl, h1, vb, rfl, h h2⟩
theorem d_as {L M : Lt} {s : Sy} {b : Prs} (h : DSy σ L s) (h' : DBi σ M b) : DSt σ (.t (.cons (.s "as") (.cons L (.cons M .nil)))) (.asy s b) := fun {H v} z => by
  obtain ⟨a, _, rfl, h1, _, _, rfl, rfl, u, _, rfl, h2, vb, _, rfl, h3, rfl⟩ := z
  exact ⟨a, _, rfl, h1, u, vb, rfl, h h2, h' h3⟩
theorem dsts_nil : DSts σ .nil [] := fun {H v} h => by rw [show v = _ from h]; trivial
theorem dsts_cons {L : Lt} {l : Lts} {t : St} {ts : List St} (h : DSt σ L t) (h' : DSts σ l ts) : DSts σ (.cons L l) (t :: ts) := fun {H v} z => by
  obtain ⟨a, xs, rfl, h1, h2⟩ := z
  exact ⟨h h1, h' h2⟩
def StPt (H : Hp) (v : V) (sts : List St) : Prop := ∃ (q : Addr) (xs : List V), v = .ref q ∧ H q = some (.tup xs) ∧ StsAt H xs sts
theorem StPt.mono {H H' : Hp} (e : ∀ a xs, H a = some (.tup xs) → H' a = some (.tup xs)) {v : V} {sts : List St} (h : StPt H v sts) : StPt H' v sts := by
  obtain ⟨q, xs, rfl, h1, h2⟩ := h
  exact ⟨q, xs, rfl, e _ _ h1, h2.mono e⟩
theorem stpt {l : Lts} {sts : List St} (h : DSts σ l sts) {H : Hp} {v : V} (z : LtAt σ H (.t l) v) : StPt H v sts := by
  obtain ⟨a, xs, rfl, h1, h2⟩ := z
  exact ⟨a, xs, rfl, h1, h h2⟩
theorem ch_lit {L M : Lt} {s : Sy} {sts : List St} (h : DSy σ L s) {H : Hp} {v : V} (z : LtAt σ H (.t (.cons L (.cons M .nil))) v) (h' : ∀ u, LtAt σ H M u → StPt H u sts) : ChAt H v ⟨s, sts⟩ := by
  obtain ⟨a, _, rfl, h1, u, _, rfl, h2, w, _, rfl, h3, rfl⟩ := z
  obtain ⟨q, xs, rfl, h4, h5⟩ := h' w h3
  exact ⟨a, q, u, xs, rfl, h1, h h2, h4, h5⟩
theorem at_ok {x : Str} {ts : List Tm} (h : NameOk x) (h1 : 1 ≤ ts.length) (h2 : ts.length ≤ 2) (h3 : ∀ t ∈ ts, t.small ∧ t.size ≤ 50) : AtOk 50 ⟨x, ts⟩ := ⟨h, h1, h2, h3⟩
end
def ChsAt (H : Hp) : List V → List Ch → Prop
  | [], [] => True
  | v :: xs, a :: as => ChAt H v a ∧ ChsAt H xs as
  | _, _ => False
theorem ChsAt.mono {H H' : Hp} (e : ∀ a xs, H a = some (.tup xs) → H' a = some (.tup xs)) : ∀ {xs : List V} {as : List Ch}, ChsAt H xs as → ChsAt H' xs as
  | [], [], _ => trivial
  | _ :: _, _ :: _, h => ⟨chAt_mono e h.1, ChsAt.mono e h.2⟩
theorem ChsAt.get {H : Hp} : ∀ {xs : List V} {as : List Ch} {i : Nat} {x : V}, ChsAt H xs as → xs[i]? = some x → ∃ a, as[i]? = some a ∧ ChAt H x a
  | v :: xs, a :: as, 0, x, h, e => ⟨a, rfl, by have : v = x := by simpa using e
                                                subst this; exact h.1⟩
  | _ :: xs, _ :: as, i + 1, x, h, e => by simpa using ChsAt.get h.2 (by simpa using e)
theorem ChsAt.len {H : Hp} : ∀ {xs : List V} {as : List Ch}, ChsAt H xs as → xs.length = as.length
  | [], [], _ => rfl
  | _ :: _, _ :: _, h => congrArg (· + 1) (ChsAt.len h.2)
theorem ChsAt.append {H : Hp} : ∀ {xs ys : List V} {as bs : List Ch}, ChsAt H xs as → ChsAt H ys bs → ChsAt H (xs ++ ys) (as ++ bs)
  | [], _, [], _, _, h => h
  | _ :: xs, _, _ :: as, _, h, h' => ⟨h.1, ChsAt.append h.2 h'⟩
end Rp

set_option maxHeartbeats 32000000
/-! The law's known charts, its bad ones. -/
namespace Rp
open PySem PySem.Spec PyProof.Rows L2 TL StX
def spCharts : Sp := fun vs H Q _ => ∃ (p : Addr) (x1 x2 x3 x4 : Str), vs = [.ref p] ∧ H p = some (.lst [.str x1, .str x2, .str x3, .str x4]) ∧ NameOk x1 ∧ NameOk x2 ∧ NameOk x3 ∧ NameOk x4 ∧ x2 ≠ x3 ∧
  ∀ (l : Addr) (xs : List V) (cs : List Ch) (H' : Hp), H' l = some (.lst xs) → ChsAt H' xs cs → (∀ c ∈ cs, ChOk c) → cs.length ≤ 4 → Same H H' → Q (.ref l) H'
section
variable {P : Program} {w : World} {K : PySem.W.Frag} {mg : Str → Option Value} {base : Heap}
theorem scsKnown : FnScope ["_law_names_here", "_law_nat", "_law_even", "_law_odd", "_law_less", "_law_steps", "_law_found"] ["_law_names_here"] (defScope sKnown) := ⟨rfl, rfl, rfl, by decide +kernel, rfl, by decide +kernel, by decide +kernel⟩
theorem ok_known {f : Addr} {fd : FuncData} (F : Fun K "_law_known_charts" "_law_known_charts" sKnown f fd) : FnOk P w K mg base CX0 1 f fd ["_law_names_here"] spCharts := by
  refine F.ok scsKnown (fun vs H Q E h => ?_) (fun cdv A outer s H vs Q E hr h => ?_)
  · obtain ⟨p, x1, x2, x3, x4, rfl, _⟩ := h
    rfl
  obtain ⟨p, x1, x2, x3, x4, rfl, hp, n1, n2, n3, n4, n23, q⟩ := h
  refine ⟨_, pss_cons (ps_asg (pe_slice sl_list (pv 0) po_none (po_some pe_int)) (pg_unl rfl (pgs_cons (pg_name (i := 1) scsKnown.nd rfl (Or.inl rfl)) (pgs_cons (pg_name (i := 2) scsKnown.nd rfl (Or.inl rfl)) (pgs_cons (pg_name (i := 3) scsKnown.nd rfl (Or.inl rfl)) (pgs_cons (pg_name (i := 4) scsKnown.nd rfl (Or.inl rfl)) pgs_nil))))))
    (pss_cons (ps_set (i := 5) scsKnown.nd rfl (Or.inl rfl) (pe_tup (pa_cons (pe_tup (pa_cons pe_str (pa_cons pe_int pa_nil))) (pa_cons (pe_tup (pa_cons pe_str (pa_cons pe_int pa_nil))) (pa_cons (pe_tup (pa_cons pe_str (pa_cons pe_int pa_nil))) (pa_cons (pe_tup (pa_cons pe_str (pa_cons pe_int pa_nil))) (pa_cons (pe_tup (pa_cons pe_str (pa_cons pe_int pa_nil))) (pa_cons (pe_tup (pa_cons pe_str (pa_cons pe_int (pa_cons (pe_tup (pa_cons (pe_tup (pa_cons pe_int (pa_cons pe_int pa_nil))) pa_nil)) pa_nil)))) pa_nil))))))))
    (pss_cons (ps_set (i := 6) scsKnown.nd rfl (Or.inl rfl) (pe_lst (pa_cons (pe_tup (pa_cons (pe_tup (pa_cons (pe_tup (pa_cons (pe_tup (pa_cons (pv 2) (pa_cons pe_int pa_nil))) pa_nil)) (pa_cons (pe_tup (pa_cons (pv 1) (pa_cons pe_int pa_nil))) pa_nil))) (pa_cons (pv 5) pa_nil))) pa_nil)))
    (pss_cons (ps_set (i := 5) scsKnown.nd rfl (Or.inl rfl) (pe_tup (pa_cons (pe_tup (pa_cons pe_str (pa_cons pe_int pa_nil))) (pa_cons (pe_tup (pa_cons pe_str (pa_cons pe_int pa_nil))) (pa_cons (pe_tup (pa_cons pe_str (pa_cons pe_int pa_nil))) (pa_cons (pe_tup (pa_cons pe_str (pa_cons pe_int pa_nil))) (pa_cons (pe_tup (pa_cons pe_str (pa_cons pe_int pa_nil))) (pa_cons (pe_tup (pa_cons pe_str (pa_cons pe_int (pa_cons (pe_tup (pa_cons (pe_tup (pa_cons pe_int (pa_cons pe_int pa_nil))) pa_nil)) pa_nil)))) pa_nil))))))))
    (pss_cons (ps_expr (pe_bm PySem.F.plainAttrs_list PySem.F.slot_list_append PySem.F.type_list_append mt_append (pv 6) (pa_cons (pe_tup (pa_cons (pe_tup (pa_cons (pe_tup (pa_cons (pe_tup (pa_cons (pv 3) (pa_cons pe_int pa_nil))) pa_nil)) (pa_cons (pe_tup (pa_cons (pv 1) (pa_cons pe_int pa_nil))) pa_nil))) (pa_cons (pv 5) pa_nil))) pa_nil)))
    (pss_cons (ps_set (i := 5) scsKnown.nd rfl (Or.inl rfl) (pe_tup (pa_cons (pe_tup (pa_cons pe_str (pa_cons pe_int pa_nil))) (pa_cons (pe_tup (pa_cons pe_str (pa_cons pe_int pa_nil))) (pa_cons (pe_tup (pa_cons pe_str (pa_cons pe_int pa_nil))) (pa_cons (pe_tup (pa_cons pe_str (pa_cons pe_int (pa_cons (pe_tup (pa_cons (pe_tup (pa_cons pe_int (pa_cons pe_int pa_nil))) pa_nil)) pa_nil)))) pa_nil))))))
    (pss_cons (ps_expr (pe_bm PySem.F.plainAttrs_list PySem.F.slot_list_append PySem.F.type_list_append mt_append (pv 6) (pa_cons (pe_tup (pa_cons (pe_tup (pa_cons (pe_tup (pa_cons (pe_tup (pa_cons (pv 1) (pa_cons pe_int pa_nil))) pa_nil)) (pa_cons (pe_tup (pa_cons (pv 4) (pa_cons pe_int (pa_cons (pe_tup (pa_cons pe_str (pa_cons pe_int pa_nil))) pa_nil)))) pa_nil))) (pa_cons (pv 5) pa_nil))) pa_nil)))
    (pss_cons (ps_set (i := 5) scsKnown.nd rfl (Or.inl rfl) (pe_tup (pa_cons (pe_tup (pa_cons pe_str (pa_cons pe_int pa_nil))) (pa_cons (pe_tup (pa_cons pe_str pa_nil)) (pa_cons (pe_tup (pa_cons pe_str (pa_cons pe_int pa_nil))) (pa_cons (pe_tup (pa_cons pe_str (pa_cons pe_int (pa_cons (pe_tup (pa_cons (pe_tup (pa_cons pe_int (pa_cons pe_int pa_nil))) pa_nil)) pa_nil)))) pa_nil))))))
    (pss_one (ps_ret (pe_op op_cat (pv 6) (pe_lst (pa_cons (pe_tup (pa_cons (pe_tup (pa_cons (pe_tup (pa_cons (pe_tup (pa_cons (pv 2) (pa_cons pe_int pa_nil))) (pa_cons (pe_tup (pa_cons (pv 3) (pa_cons pe_int pa_nil))) pa_nil))) (pa_cons (pe_tup (pa_cons (pv 3) (pa_cons (pe_tup (pa_cons pe_str pa_nil)) pa_nil))) pa_nil))) (pa_cons (pv 5) pa_nil))) pa_nil)))))))))))), ?_⟩
  have big : (10000 : Nat) ≤ sizeLine := by decide
  refine ⟨_, rfl, 4, rfl, p, _, rfl, .inl (.inl hp), fun g0 hg0 => ?_⟩
  rw [show (4 : Int) = ((4 : Nat) : Int) from rfl, cut_to]
  refine ⟨g0, _, rfl, .inl (.inl upd_same), rfl, ?_⟩
  have s0 := same_new hg0 (.lst ([V.str x1, .str x2, .str x3, .str x4].take 4))
  generalize upd H g0 (.lst ([V.str x1, .str x2, .str x3, .str x4].take 4)) = G0 at s0 ⊢
  refine ⟨_, _, rfl, _, _, rfl, _, _, rfl, _, _, rfl, rfl, ?_⟩
  refine seq_asg (Lt.runE (.t (.cons (.t (.cons (.s "split") (.cons (.i 0) .nil))) (.cons (.t (.cons (.s "use") (.cons (.i 0) .nil))) (.cons (.t (.cons (.s "use") (.cons (.i 1) .nil))) (.cons (.t (.cons (.s "split") (.cons (.i 0) .nil))) (.cons (.t (.cons (.s "use") (.cons (.i 1) .nil))) (.cons (.t (.cons (.s "back") (.cons (.i 0) (.cons (.t (.cons (.t (.cons (.i 0) (.cons (.i 2) .nil))) .nil)) .nil)))) .nil))))))) (tTup (tCons (tTup (tCons (tC (.str "split")) (tCons (tC (.int 0)) tNil))) (tCons (tTup (tCons (tC (.str "use")) (tCons (tC (.int 0)) tNil))) (tCons (tTup (tCons (tC (.str "use")) (tCons (tC (.int 1)) tNil))) (tCons (tTup (tCons (tC (.str "split")) (tCons (tC (.int 0)) tNil))) (tCons (tTup (tCons (tC (.str "use")) (tCons (tC (.int 1)) tNil))) (tCons (tTup (tCons (tC (.str "back")) (tCons (tC (.int 0)) (tCons (tTup (tCons (tTup (tCons (tC (.int 0)) (tCons (tC (.int 2)) tNil))) tNil)) tNil)))) tNil))))))) (by simp only [Lt.te, Lts.ta]) ⟨by decide, ⟨⟨by decide, ⟨trivial, ⟨trivial, trivial⟩⟩⟩, ⟨⟨by decide, ⟨trivial, ⟨trivial, trivial⟩⟩⟩, ⟨⟨by decide, ⟨trivial, ⟨trivial, trivial⟩⟩⟩, ⟨⟨by decide, ⟨trivial, ⟨trivial, trivial⟩⟩⟩, ⟨⟨by decide, ⟨trivial, ⟨trivial, trivial⟩⟩⟩, ⟨⟨by decide, ⟨trivial, ⟨trivial, ⟨⟨by decide, ⟨⟨by decide, ⟨trivial, ⟨trivial, trivial⟩⟩⟩, trivial⟩⟩, trivial⟩⟩⟩⟩, trivial⟩⟩⟩⟩⟩⟩⟩ fun v1 G1 h1 g1 => ?_)
  have P1 : StPt G1 v1 [(St.spl 0), (St.use 0), (St.use 1), (St.spl 0), (St.use 1), (St.bck 0 [(0, (.v 2))])] := stpt (dsts_cons (d_spl 0) (dsts_cons (d_use 0) (dsts_cons (d_use 1) (dsts_cons (d_spl 0) (dsts_cons (d_use 1) (dsts_cons (d_bck 0 (d_bi (dpr_cons (dt_i 2) dpr_nil))) dsts_nil)))))) h1
  clear h1
  have t1 := s0.trans g1
  refine seq_asg (lst1 (Lt.runE (.t (.cons (.t (.cons (.t (.cons (.t (.cons (.v 2) (.cons (.i 0) .nil))) .nil)) (.cons (.t (.cons (.v 1) (.cons (.i 0) .nil))) .nil))) (.cons (.v 5) .nil))) (tTup (tCons (tTup (tCons (tTup (tCons (tTup (tCons (tVar 2) (tCons (tC (.int 0)) tNil))) tNil)) (tCons (tTup (tCons (tVar 1) (tCons (tC (.int 0)) tNil))) tNil))) (tCons (tVar 5) tNil))) (by simp only [Lt.te, Lts.ta]) ⟨by decide, ⟨⟨by decide, ⟨⟨by decide, ⟨⟨by decide, ⟨⟨_, rfl⟩, ⟨trivial, trivial⟩⟩⟩, trivial⟩⟩, ⟨⟨by decide, ⟨⟨_, rfl⟩, ⟨trivial, trivial⟩⟩⟩, trivial⟩⟩⟩, ⟨⟨_, rfl⟩, trivial⟩⟩⟩ fun v2 G2 h2 g2 => ?_))
  have D2 : ChAt G2 v2 (⟨(⟨[(⟨x2, [(.v 0)]⟩ : At)], (⟨x1, [(.v 0)]⟩ : At)⟩ : Sy), [(St.spl 0), (St.use 0), (St.use 1), (St.spl 0), (St.use 1), (St.bck 0 [(0, (.v 2))])]⟩ : Ch) := ch_lit (d_sy (dats_cons (d_at (k := 2) rfl (dts_cons (dt_i 0) dts_nil)) dats_nil) (d_at (k := 1) rfl (dts_cons (dt_i 0) dts_nil))) h2 fun u hu => (by have hu := Option.some.inj (Option.some.inj (show some (some _) = some (some u) from hu)); subst hu; exact P1.mono fun a zs z => g2 _ _ z)
  have o2 : ChOk (⟨(⟨[(⟨x2, [(.v 0)]⟩ : At)], (⟨x1, [(.v 0)]⟩ : At)⟩ : Sy), [(St.spl 0), (St.use 0), (St.use 1), (St.spl 0), (St.use 1), (St.bck 0 [(0, (.v 2))])]⟩ : Ch) := ⟨⟨AtsOk.mk (by simp) (by intro a ha; simp only [List.mem_cons, List.not_mem_nil, or_false] at ha; subst ha; exact (at_ok (x := x2) (ts := [(.v 0)]) n2 (by decide) (by decide) (by simp [Tm.small, Tm.nums, Tm.size]))), by simp, (at_ok (x := x1) (ts := [(.v 0)]) n1 (by decide) (by decide) (by simp [Tm.small, Tm.nums, Tm.size]))⟩, by intro st hst; simp only [List.mem_cons, List.not_mem_nil, or_false] at hst; rcases hst with rfl | rfl | rfl | rfl | rfl | rfl; exact (show 0 ≤ 9999999999 by decide); exact (show 0 ≤ 9999999999 by decide); exact (show 1 ≤ 9999999999 by decide); exact (show 0 ≤ 9999999999 by decide); exact (show 1 ≤ 9999999999 by decide); exact ⟨by decide, ⟨by simp, by simp [Tm.small, Tm.nums], by simp [Tm.size], by simp, by simp⟩⟩, by simp⟩
  clear h2
  refine ⟨(by show 1 ≤ sizeLine; decide), fun l hl => ?_⟩
  have b2 := same_new hl (.lst [v2])
  have L2 : (upd G2 l (.lst [v2])) l = some (.lst [v2]) := upd_same
  have C2 : ChsAt (upd G2 l (.lst [v2])) [v2] [(⟨(⟨[(⟨x2, [(.v 0)]⟩ : At)], (⟨x1, [(.v 0)]⟩ : At)⟩ : Sy), [(St.spl 0), (St.use 0), (St.use 1), (St.spl 0), (St.use 1), (St.bck 0 [(0, (.v 2))])]⟩ : Ch)] := ⟨D2.same b2, trivial⟩
  have l0 : H l = none := by
    cases e : H l with
    | none => rfl
    | some u => have := g2 _ _ (t1 _ _ e); rw [hl] at this; cases this
  have t2 := t1.trans (g2.trans b2)
  generalize upd G2 l (.lst [v2]) = I2 at b2 L2 C2 t2 ⊢
  refine seq_asg (Lt.runE (.t (.cons (.t (.cons (.s "split") (.cons (.i 0) .nil))) (.cons (.t (.cons (.s "use") (.cons (.i 1) .nil))) (.cons (.t (.cons (.s "split") (.cons (.i 0) .nil))) (.cons (.t (.cons (.s "use") (.cons (.i 0) .nil))) (.cons (.t (.cons (.s "use") (.cons (.i 1) .nil))) (.cons (.t (.cons (.s "back") (.cons (.i 0) (.cons (.t (.cons (.t (.cons (.i 0) (.cons (.i 2) .nil))) .nil)) .nil)))) .nil))))))) (tTup (tCons (tTup (tCons (tC (.str "split")) (tCons (tC (.int 0)) tNil))) (tCons (tTup (tCons (tC (.str "use")) (tCons (tC (.int 1)) tNil))) (tCons (tTup (tCons (tC (.str "split")) (tCons (tC (.int 0)) tNil))) (tCons (tTup (tCons (tC (.str "use")) (tCons (tC (.int 0)) tNil))) (tCons (tTup (tCons (tC (.str "use")) (tCons (tC (.int 1)) tNil))) (tCons (tTup (tCons (tC (.str "back")) (tCons (tC (.int 0)) (tCons (tTup (tCons (tTup (tCons (tC (.int 0)) (tCons (tC (.int 2)) tNil))) tNil)) tNil)))) tNil))))))) (by simp only [Lt.te, Lts.ta]) ⟨by decide, ⟨⟨by decide, ⟨trivial, ⟨trivial, trivial⟩⟩⟩, ⟨⟨by decide, ⟨trivial, ⟨trivial, trivial⟩⟩⟩, ⟨⟨by decide, ⟨trivial, ⟨trivial, trivial⟩⟩⟩, ⟨⟨by decide, ⟨trivial, ⟨trivial, trivial⟩⟩⟩, ⟨⟨by decide, ⟨trivial, ⟨trivial, trivial⟩⟩⟩, ⟨⟨by decide, ⟨trivial, ⟨trivial, ⟨⟨by decide, ⟨⟨by decide, ⟨trivial, ⟨trivial, trivial⟩⟩⟩, trivial⟩⟩, trivial⟩⟩⟩⟩, trivial⟩⟩⟩⟩⟩⟩⟩ fun v3 G3 h3 g3 => ?_)
  have P3 : StPt G3 v3 [(St.spl 0), (St.use 1), (St.spl 0), (St.use 0), (St.use 1), (St.bck 0 [(0, (.v 2))])] := stpt (dsts_cons (d_spl 0) (dsts_cons (d_use 1) (dsts_cons (d_spl 0) (dsts_cons (d_use 0) (dsts_cons (d_use 1) (dsts_cons (d_bck 0 (d_bi (dpr_cons (dt_i 2) dpr_nil))) dsts_nil)))))) h3
  clear h3
  have t3 := t2.trans g3
  have L3 := g3 _ _ L2
  have C3 := C2.mono fun a zs z => g3 _ _ z
  clear L2 C2
  refine ⟨_, rfl, .inl ⟨rfl, _, .inl (.inl L3)⟩, cons1 (Lt.runE (.t (.cons (.t (.cons (.t (.cons (.t (.cons (.v 3) (.cons (.i 0) .nil))) .nil)) (.cons (.t (.cons (.v 1) (.cons (.i 0) .nil))) .nil))) (.cons (.v 5) .nil))) (tTup (tCons (tTup (tCons (tTup (tCons (tTup (tCons (tVar 3) (tCons (tC (.int 0)) tNil))) tNil)) (tCons (tTup (tCons (tVar 1) (tCons (tC (.int 0)) tNil))) tNil))) (tCons (tVar 5) tNil))) (by simp only [Lt.te, Lts.ta]) ⟨by decide, ⟨⟨by decide, ⟨⟨by decide, ⟨⟨by decide, ⟨⟨_, rfl⟩, ⟨trivial, trivial⟩⟩⟩, trivial⟩⟩, ⟨⟨by decide, ⟨⟨_, rfl⟩, ⟨trivial, trivial⟩⟩⟩, trivial⟩⟩⟩, ⟨⟨_, rfl⟩, trivial⟩⟩⟩ fun v4 G4 h4 g4 => ?_)⟩
  have D4 : ChAt G4 v4 (⟨(⟨[(⟨x3, [(.v 0)]⟩ : At)], (⟨x1, [(.v 0)]⟩ : At)⟩ : Sy), [(St.spl 0), (St.use 1), (St.spl 0), (St.use 0), (St.use 1), (St.bck 0 [(0, (.v 2))])]⟩ : Ch) := ch_lit (d_sy (dats_cons (d_at (k := 3) rfl (dts_cons (dt_i 0) dts_nil)) dats_nil) (d_at (k := 1) rfl (dts_cons (dt_i 0) dts_nil))) h4 fun u hu => (by have hu := Option.some.inj (Option.some.inj (show some (some _) = some (some u) from hu)); subst hu; exact P3.mono fun a zs z => g4 _ _ z)
  have o4 : ChOk (⟨(⟨[(⟨x3, [(.v 0)]⟩ : At)], (⟨x1, [(.v 0)]⟩ : At)⟩ : Sy), [(St.spl 0), (St.use 1), (St.spl 0), (St.use 0), (St.use 1), (St.bck 0 [(0, (.v 2))])]⟩ : Ch) := ⟨⟨AtsOk.mk (by simp) (by intro a ha; simp only [List.mem_cons, List.not_mem_nil, or_false] at ha; subst ha; exact (at_ok (x := x3) (ts := [(.v 0)]) n3 (by decide) (by decide) (by simp [Tm.small, Tm.nums, Tm.size]))), by simp, (at_ok (x := x1) (ts := [(.v 0)]) n1 (by decide) (by decide) (by simp [Tm.small, Tm.nums, Tm.size]))⟩, by intro st hst; simp only [List.mem_cons, List.not_mem_nil, or_false] at hst; rcases hst with rfl | rfl | rfl | rfl | rfl | rfl; exact (show 0 ≤ 9999999999 by decide); exact (show 1 ≤ 9999999999 by decide); exact (show 0 ≤ 9999999999 by decide); exact (show 0 ≤ 9999999999 by decide); exact (show 1 ≤ 9999999999 by decide); exact ⟨by decide, ⟨by simp, by simp [Tm.small, Tm.nums], by simp [Tm.size], by simp, by simp⟩⟩, by simp⟩
  clear h4
  have M4 := g4 _ _ L3
  refine ⟨l, _, _, rfl, rfl, M4, (by show 1 < sizeLine; decide), ?_⟩
  have C4 : ChsAt (upd G4 l (.lst ([v2] ++ [v4]))) ([v2] ++ [v4]) ([(⟨(⟨[(⟨x2, [(.v 0)]⟩ : At)], (⟨x1, [(.v 0)]⟩ : At)⟩ : Sy), [(St.spl 0), (St.use 0), (St.use 1), (St.spl 0), (St.use 1), (St.bck 0 [(0, (.v 2))])]⟩ : Ch)] ++ [(⟨(⟨[(⟨x3, [(.v 0)]⟩ : At)], (⟨x1, [(.v 0)]⟩ : At)⟩ : Sy), [(St.spl 0), (St.use 1), (St.spl 0), (St.use 0), (St.use 1), (St.bck 0 [(0, (.v 2))])]⟩ : Ch)]) := (C3.mono fun a zs z => keepU M4 _ _ (g4 _ _ z)).append ⟨chAt_mono (keepU M4) D4, trivial⟩
  have L4 : (upd G4 l (.lst ([v2] ++ [v4]))) l = some (.lst ([v2] ++ [v4])) := upd_same
  have t4 : Same H (upd G4 l (.lst ([v2] ++ [v4]))) := fun a o z => by
    rw [upd_ne (ne_of_none z l0)]
    exact g4 _ _ (t3 _ _ z)
  generalize upd G4 l (.lst ([v2] ++ [v4])) = I4 at C4 L4 t4 ⊢
  clear L3 C3 M4
  refine seq_asg (Lt.runE (.t (.cons (.t (.cons (.s "split") (.cons (.i 0) .nil))) (.cons (.t (.cons (.s "use") (.cons (.i 0) .nil))) (.cons (.t (.cons (.s "use") (.cons (.i 1) .nil))) (.cons (.t (.cons (.s "back") (.cons (.i 0) (.cons (.t (.cons (.t (.cons (.i 0) (.cons (.i 1) .nil))) .nil)) .nil)))) .nil))))) (tTup (tCons (tTup (tCons (tC (.str "split")) (tCons (tC (.int 0)) tNil))) (tCons (tTup (tCons (tC (.str "use")) (tCons (tC (.int 0)) tNil))) (tCons (tTup (tCons (tC (.str "use")) (tCons (tC (.int 1)) tNil))) (tCons (tTup (tCons (tC (.str "back")) (tCons (tC (.int 0)) (tCons (tTup (tCons (tTup (tCons (tC (.int 0)) (tCons (tC (.int 1)) tNil))) tNil)) tNil)))) tNil))))) (by simp only [Lt.te, Lts.ta]) ⟨by decide, ⟨⟨by decide, ⟨trivial, ⟨trivial, trivial⟩⟩⟩, ⟨⟨by decide, ⟨trivial, ⟨trivial, trivial⟩⟩⟩, ⟨⟨by decide, ⟨trivial, ⟨trivial, trivial⟩⟩⟩, ⟨⟨by decide, ⟨trivial, ⟨trivial, ⟨⟨by decide, ⟨⟨by decide, ⟨trivial, ⟨trivial, trivial⟩⟩⟩, trivial⟩⟩, trivial⟩⟩⟩⟩, trivial⟩⟩⟩⟩⟩ fun v5 G5 h5 g5 => ?_)
  have P5 : StPt G5 v5 [(St.spl 0), (St.use 0), (St.use 1), (St.bck 0 [(0, (.v 1))])] := stpt (dsts_cons (d_spl 0) (dsts_cons (d_use 0) (dsts_cons (d_use 1) (dsts_cons (d_bck 0 (d_bi (dpr_cons (dt_i 1) dpr_nil))) dsts_nil)))) h5
  clear h5
  have t5 := t4.trans g5
  have L5 := g5 _ _ L4
  have C5 := C4.mono fun a zs z => g5 _ _ z
  clear L4 C4
  refine ⟨_, rfl, .inl ⟨rfl, _, .inl (.inl L5)⟩, cons1 (Lt.runE (.t (.cons (.t (.cons (.t (.cons (.t (.cons (.v 1) (.cons (.i 0) .nil))) .nil)) (.cons (.t (.cons (.v 4) (.cons (.i 0) (.cons (.t (.cons (.s "s") (.cons (.i 0) .nil))) .nil)))) .nil))) (.cons (.v 5) .nil))) (tTup (tCons (tTup (tCons (tTup (tCons (tTup (tCons (tVar 1) (tCons (tC (.int 0)) tNil))) tNil)) (tCons (tTup (tCons (tVar 4) (tCons (tC (.int 0)) (tCons (tTup (tCons (tC (.str "s")) (tCons (tC (.int 0)) tNil))) tNil)))) tNil))) (tCons (tVar 5) tNil))) (by simp only [Lt.te, Lts.ta]) ⟨by decide, ⟨⟨by decide, ⟨⟨by decide, ⟨⟨by decide, ⟨⟨_, rfl⟩, ⟨trivial, trivial⟩⟩⟩, trivial⟩⟩, ⟨⟨by decide, ⟨⟨_, rfl⟩, ⟨trivial, ⟨⟨by decide, ⟨trivial, ⟨trivial, trivial⟩⟩⟩, trivial⟩⟩⟩⟩, trivial⟩⟩⟩, ⟨⟨_, rfl⟩, trivial⟩⟩⟩ fun v6 G6 h6 g6 => ?_)⟩
  have D6 : ChAt G6 v6 (⟨(⟨[(⟨x1, [(.v 0)]⟩ : At)], (⟨x4, [(.v 0), (.s (.v 0))]⟩ : At)⟩ : Sy), [(St.spl 0), (St.use 0), (St.use 1), (St.bck 0 [(0, (.v 1))])]⟩ : Ch) := ch_lit (d_sy (dats_cons (d_at (k := 1) rfl (dts_cons (dt_i 0) dts_nil)) dats_nil) (d_at (k := 4) rfl (dts_cons (dt_i 0) (dts_cons (dt_s (dt_i 0)) dts_nil)))) h6 fun u hu => (by have hu := Option.some.inj (Option.some.inj (show some (some _) = some (some u) from hu)); subst hu; exact P5.mono fun a zs z => g6 _ _ z)
  have o6 : ChOk (⟨(⟨[(⟨x1, [(.v 0)]⟩ : At)], (⟨x4, [(.v 0), (.s (.v 0))]⟩ : At)⟩ : Sy), [(St.spl 0), (St.use 0), (St.use 1), (St.bck 0 [(0, (.v 1))])]⟩ : Ch) := ⟨⟨AtsOk.mk (by simp) (by intro a ha; simp only [List.mem_cons, List.not_mem_nil, or_false] at ha; subst ha; exact (at_ok (x := x1) (ts := [(.v 0)]) n1 (by decide) (by decide) (by simp [Tm.small, Tm.nums, Tm.size]))), by simp, (at_ok (x := x4) (ts := [(.v 0), (.s (.v 0))]) n4 (by decide) (by decide) (by simp [Tm.small, Tm.nums, Tm.size]))⟩, by intro st hst; simp only [List.mem_cons, List.not_mem_nil, or_false] at hst; rcases hst with rfl | rfl | rfl | rfl; exact (show 0 ≤ 9999999999 by decide); exact (show 0 ≤ 9999999999 by decide); exact (show 1 ≤ 9999999999 by decide); exact ⟨by decide, ⟨by simp, by simp [Tm.small, Tm.nums], by simp [Tm.size], by simp, by simp⟩⟩, by simp⟩
  clear h6
  have M6 := g6 _ _ L5
  refine ⟨l, _, _, rfl, rfl, M6, (by show 2 < sizeLine; decide), ?_⟩
  have C6 : ChsAt (upd G6 l (.lst (([v2] ++ [v4]) ++ [v6]))) (([v2] ++ [v4]) ++ [v6]) (([(⟨(⟨[(⟨x2, [(.v 0)]⟩ : At)], (⟨x1, [(.v 0)]⟩ : At)⟩ : Sy), [(St.spl 0), (St.use 0), (St.use 1), (St.spl 0), (St.use 1), (St.bck 0 [(0, (.v 2))])]⟩ : Ch)] ++ [(⟨(⟨[(⟨x3, [(.v 0)]⟩ : At)], (⟨x1, [(.v 0)]⟩ : At)⟩ : Sy), [(St.spl 0), (St.use 1), (St.spl 0), (St.use 0), (St.use 1), (St.bck 0 [(0, (.v 2))])]⟩ : Ch)]) ++ [(⟨(⟨[(⟨x1, [(.v 0)]⟩ : At)], (⟨x4, [(.v 0), (.s (.v 0))]⟩ : At)⟩ : Sy), [(St.spl 0), (St.use 0), (St.use 1), (St.bck 0 [(0, (.v 1))])]⟩ : Ch)]) := (C5.mono fun a zs z => keepU M6 _ _ (g6 _ _ z)).append ⟨chAt_mono (keepU M6) D6, trivial⟩
  have L6 : (upd G6 l (.lst (([v2] ++ [v4]) ++ [v6]))) l = some (.lst (([v2] ++ [v4]) ++ [v6])) := upd_same
  have t6 : Same H (upd G6 l (.lst (([v2] ++ [v4]) ++ [v6]))) := fun a o z => by
    rw [upd_ne (ne_of_none z l0)]
    exact g6 _ _ (t5 _ _ z)
  generalize upd G6 l (.lst (([v2] ++ [v4]) ++ [v6])) = I6 at C6 L6 t6 ⊢
  clear L5 C5 M6
  refine seq_asg (Lt.runE (.t (.cons (.t (.cons (.s "split") (.cons (.i 0) .nil))) (.cons (.t (.cons (.s "by") .nil)) (.cons (.t (.cons (.s "split") (.cons (.i 1) .nil))) (.cons (.t (.cons (.s "back") (.cons (.i 0) (.cons (.t (.cons (.t (.cons (.i 0) (.cons (.i 1) .nil))) .nil)) .nil)))) .nil))))) (tTup (tCons (tTup (tCons (tC (.str "split")) (tCons (tC (.int 0)) tNil))) (tCons (tTup (tCons (tC (.str "by")) tNil)) (tCons (tTup (tCons (tC (.str "split")) (tCons (tC (.int 1)) tNil))) (tCons (tTup (tCons (tC (.str "back")) (tCons (tC (.int 0)) (tCons (tTup (tCons (tTup (tCons (tC (.int 0)) (tCons (tC (.int 1)) tNil))) tNil)) tNil)))) tNil))))) (by simp only [Lt.te, Lts.ta]) ⟨by decide, ⟨⟨by decide, ⟨trivial, ⟨trivial, trivial⟩⟩⟩, ⟨⟨by decide, ⟨trivial, trivial⟩⟩, ⟨⟨by decide, ⟨trivial, ⟨trivial, trivial⟩⟩⟩, ⟨⟨by decide, ⟨trivial, ⟨trivial, ⟨⟨by decide, ⟨⟨by decide, ⟨trivial, ⟨trivial, trivial⟩⟩⟩, trivial⟩⟩, trivial⟩⟩⟩⟩, trivial⟩⟩⟩⟩⟩ fun v7 G7 h7 g7 => ?_)
  have P7 : StPt G7 v7 [(St.spl 0), St.by_, (St.spl 1), (St.bck 0 [(0, (.v 1))])] := stpt (dsts_cons (d_spl 0) (dsts_cons d_by (dsts_cons (d_spl 1) (dsts_cons (d_bck 0 (d_bi (dpr_cons (dt_i 1) dpr_nil))) dsts_nil)))) h7
  clear h7
  have t7 := t6.trans g7
  have L7 := g7 _ _ L6
  have C7 := C6.mono fun a zs z => g7 _ _ z
  clear L6 C6
  refine ret_cat1 rfl (Lt.runE (.t (.cons (.t (.cons (.t (.cons (.t (.cons (.v 2) (.cons (.i 0) .nil))) (.cons (.t (.cons (.v 3) (.cons (.i 0) .nil))) .nil))) (.cons (.t (.cons (.v 3) (.cons (.t (.cons (.s "0") .nil)) .nil))) .nil))) (.cons (.v 5) .nil))) (tTup (tCons (tTup (tCons (tTup (tCons (tTup (tCons (tVar 2) (tCons (tC (.int 0)) tNil))) (tCons (tTup (tCons (tVar 3) (tCons (tC (.int 0)) tNil))) tNil))) (tCons (tTup (tCons (tVar 3) (tCons (tTup (tCons (tC (.str "0")) tNil)) tNil))) tNil))) (tCons (tVar 5) tNil))) (by simp only [Lt.te, Lts.ta]) ⟨by decide, ⟨⟨by decide, ⟨⟨by decide, ⟨⟨by decide, ⟨⟨_, rfl⟩, ⟨trivial, trivial⟩⟩⟩, ⟨⟨by decide, ⟨⟨_, rfl⟩, ⟨trivial, trivial⟩⟩⟩, trivial⟩⟩⟩, ⟨⟨by decide, ⟨⟨_, rfl⟩, ⟨⟨by decide, ⟨trivial, trivial⟩⟩, trivial⟩⟩⟩, trivial⟩⟩⟩, ⟨⟨_, rfl⟩, trivial⟩⟩⟩ fun v8 G8 h8 g8 => ?_)
  have D8 : ChAt G8 v8 (⟨(⟨[(⟨x2, [(.v 0)]⟩ : At), (⟨x3, [(.v 0)]⟩ : At)], (⟨x3, [.z]⟩ : At)⟩ : Sy), [(St.spl 0), St.by_, (St.spl 1), (St.bck 0 [(0, (.v 1))])]⟩ : Ch) := ch_lit (d_sy (dats_cons (d_at (k := 2) rfl (dts_cons (dt_i 0) dts_nil)) (dats_cons (d_at (k := 3) rfl (dts_cons (dt_i 0) dts_nil)) dats_nil)) (d_at (k := 3) rfl (dts_cons dt_z dts_nil))) h8 fun u hu => (by have hu := Option.some.inj (Option.some.inj (show some (some _) = some (some u) from hu)); subst hu; exact P7.mono fun a zs z => g8 _ _ z)
  have o8 : ChOk (⟨(⟨[(⟨x2, [(.v 0)]⟩ : At), (⟨x3, [(.v 0)]⟩ : At)], (⟨x3, [.z]⟩ : At)⟩ : Sy), [(St.spl 0), St.by_, (St.spl 1), (St.bck 0 [(0, (.v 1))])]⟩ : Ch) := ⟨⟨AtsOk.mk (by simp) (by intro a ha; simp only [List.mem_cons, List.not_mem_nil, or_false] at ha; rcases ha with rfl | rfl; exact (at_ok (x := x2) (ts := [(.v 0)]) n2 (by decide) (by decide) (by simp [Tm.small, Tm.nums, Tm.size])); exact (at_ok (x := x3) (ts := [(.v 0)]) n3 (by decide) (by decide) (by simp [Tm.small, Tm.nums, Tm.size]))), by simp [At.mk.injEq, n23], (at_ok (x := x3) (ts := [.z]) n3 (by decide) (by decide) (by simp [Tm.small, Tm.nums, Tm.size]))⟩, by intro st hst; simp only [List.mem_cons, List.not_mem_nil, or_false] at hst; rcases hst with rfl | rfl | rfl | rfl; exact (show 0 ≤ 9999999999 by decide); exact trivial; exact (show 1 ≤ 9999999999 by decide); exact ⟨by decide, ⟨by simp, by simp [Tm.small, Tm.nums], by simp [Tm.size], by simp, by simp⟩⟩, by simp⟩
  clear h8
  have M8 := g8 _ _ L7
  refine ⟨(by show 1 ≤ sizeLine; decide), fun m hm => ?_⟩
  have b8 := same_new hm (.lst [v8])
  refine ⟨l, m, _, _, rfl, rfl, b8 _ _ M8, upd_same, (by show 4 ≤ sizeLine; decide), fun r hr0 => ?_⟩
  have c8 := same_new hr0 (.lst ((([v2] ++ [v4]) ++ [v6]) ++ [v8]))
  refine q r _ ((([(⟨(⟨[(⟨x2, [(.v 0)]⟩ : At)], (⟨x1, [(.v 0)]⟩ : At)⟩ : Sy), [(St.spl 0), (St.use 0), (St.use 1), (St.spl 0), (St.use 1), (St.bck 0 [(0, (.v 2))])]⟩ : Ch)] ++ [(⟨(⟨[(⟨x3, [(.v 0)]⟩ : At)], (⟨x1, [(.v 0)]⟩ : At)⟩ : Sy), [(St.spl 0), (St.use 1), (St.spl 0), (St.use 0), (St.use 1), (St.bck 0 [(0, (.v 2))])]⟩ : Ch)]) ++ [(⟨(⟨[(⟨x1, [(.v 0)]⟩ : At)], (⟨x4, [(.v 0), (.s (.v 0))]⟩ : At)⟩ : Sy), [(St.spl 0), (St.use 0), (St.use 1), (St.bck 0 [(0, (.v 1))])]⟩ : Ch)]) ++ [(⟨(⟨[(⟨x2, [(.v 0)]⟩ : At), (⟨x3, [(.v 0)]⟩ : At)], (⟨x3, [.z]⟩ : At)⟩ : Sy), [(St.spl 0), St.by_, (St.spl 1), (St.bck 0 [(0, (.v 1))])]⟩ : Ch)]) _ upd_same ?_ ?_ (by simp) (t7.trans (g8.trans (b8.trans c8)))
  · exact (C7.mono fun a zs z => c8 _ _ (b8 _ _ (g8 _ _ z))).append ⟨(D8.same b8).same c8, trivial⟩
  · intro c hc
    simp only [List.cons_append, List.nil_append, List.mem_cons, List.not_mem_nil, or_false] at hc
    rcases hc with rfl | rfl | rfl | rfl
    · exact o2
    · exact o4
    · exact o6
    · exact o8
theorem scsBad : FnScope ["_law_names_here", "_law_nat", "_law_even", "_law_odd", "_law_less", "_law_found", "_law_steps"] ["_law_names_here"] (defScope sBad) := ⟨rfl, rfl, rfl, by decide +kernel, rfl, by decide +kernel, by decide +kernel⟩
theorem ok_bad {f : Addr} {fd : FuncData} (F : Fun K "_law_bad_charts" "_law_bad_charts" sBad f fd) : FnOk P w K mg base CX0 1 f fd ["_law_names_here"] spCharts := by
  refine F.ok scsBad (fun vs H Q E h => ?_) (fun cdv A outer s H vs Q E hr h => ?_)
  · obtain ⟨p, x1, x2, x3, x4, rfl, _⟩ := h
    rfl
  obtain ⟨p, x1, x2, x3, x4, rfl, hp, n1, n2, n3, n4, n23, q⟩ := h
  refine ⟨_, pss_cons (ps_asg (pe_slice sl_list (pv 0) po_none (po_some pe_int)) (pg_unl rfl (pgs_cons (pg_name (i := 1) scsBad.nd rfl (Or.inl rfl)) (pgs_cons (pg_name (i := 2) scsBad.nd rfl (Or.inl rfl)) (pgs_cons (pg_name (i := 3) scsBad.nd rfl (Or.inl rfl)) (pgs_cons (pg_name (i := 4) scsBad.nd rfl (Or.inl rfl)) pgs_nil))))))
    (pss_cons (ps_set (i := 5) scsBad.nd rfl (Or.inl rfl) (pe_lst (pa_cons (pe_tup (pa_cons (pe_tup (pa_cons (pe_tup (pa_cons (pe_tup (pa_cons (pv 1) (pa_cons pe_int pa_nil))) pa_nil)) (pa_cons (pe_tup (pa_cons (pv 2) (pa_cons pe_int pa_nil))) pa_nil))) (pa_cons (pe_tup (pa_cons (pe_tup (pa_cons pe_str (pa_cons pe_int (pa_cons (pe_tup (pa_cons (pe_tup (pa_cons pe_int (pa_cons pe_int pa_nil))) pa_nil)) pa_nil)))) pa_nil)) pa_nil))) pa_nil)))
    (pss_cons (ps_expr (pe_bm PySem.F.plainAttrs_list PySem.F.slot_list_append PySem.F.type_list_append mt_append (pv 5) (pa_cons (pe_tup (pa_cons (pe_tup (pa_cons (pe_tup (pa_cons (pe_tup (pa_cons (pv 1) (pa_cons pe_int pa_nil))) pa_nil)) (pa_cons (pe_tup (pa_cons (pv 4) (pa_cons pe_int (pa_cons pe_int pa_nil)))) pa_nil))) (pa_cons (pe_tup (pa_cons (pe_tup (pa_cons pe_str (pa_cons (pe_tup (pa_cons (pv 4) (pa_cons pe_int (pa_cons pe_int pa_nil)))) pa_nil))) (pa_cons (pe_tup (pa_cons pe_str (pa_cons pe_int (pa_cons (pe_tup (pa_cons (pe_tup (pa_cons pe_int (pa_cons pe_int pa_nil))) pa_nil)) pa_nil)))) (pa_cons (pe_tup (pa_cons pe_str pa_nil)) pa_nil)))) pa_nil))) pa_nil)))
    (pss_cons (ps_set (i := 6) scsBad.nd rfl (Or.inl rfl) (pe_tup (pa_cons (pe_tup (pa_cons pe_str (pa_cons pe_int pa_nil))) (pa_cons (pe_tup (pa_cons pe_str (pa_cons (pe_tup (pa_cons (pe_tup pa_nil) (pa_cons (pe_tup (pa_cons (pv 1) (pa_cons pe_int pa_nil))) pa_nil))) (pa_cons (pe_tup (pa_cons (pe_tup (pa_cons pe_int (pa_cons pe_int pa_nil))) pa_nil)) pa_nil)))) (pa_cons (pe_tup (pa_cons pe_str (pa_cons (pe_tup (pa_cons (pv 1) (pa_cons pe_int pa_nil))) pa_nil))) (pa_cons (pe_tup (pa_cons pe_str (pa_cons pe_int (pa_cons (pe_tup (pa_cons (pe_tup (pa_cons pe_int (pa_cons pe_int pa_nil))) pa_nil)) pa_nil)))) (pa_cons (pe_tup (pa_cons pe_str pa_nil)) pa_nil)))))))
    (pss_one (ps_ret (pe_op op_cat (pv 5) (pe_lst (pa_cons (pe_tup (pa_cons (pe_tup (pa_cons (pe_tup pa_nil) (pa_cons (pe_tup (pa_cons (pv 1) (pa_cons (pe_tup (pa_cons pe_str (pa_cons pe_int pa_nil))) pa_nil))) pa_nil))) (pa_cons (pv 6) pa_nil))) pa_nil)))))))), ?_⟩
  have big : (10000 : Nat) ≤ sizeLine := by decide
  refine ⟨_, rfl, 4, rfl, p, _, rfl, .inl (.inl hp), fun g0 hg0 => ?_⟩
  rw [show (4 : Int) = ((4 : Nat) : Int) from rfl, cut_to]
  refine ⟨g0, _, rfl, .inl (.inl upd_same), rfl, ?_⟩
  have s0 := same_new hg0 (.lst ([V.str x1, .str x2, .str x3, .str x4].take 4))
  generalize upd H g0 (.lst ([V.str x1, .str x2, .str x3, .str x4].take 4)) = G0 at s0 ⊢
  refine ⟨_, _, rfl, _, _, rfl, _, _, rfl, _, _, rfl, rfl, ?_⟩
  refine seq_asg (lst1 (Lt.runE (.t (.cons (.t (.cons (.t (.cons (.t (.cons (.v 1) (.cons (.i 0) .nil))) .nil)) (.cons (.t (.cons (.v 2) (.cons (.i 0) .nil))) .nil))) (.cons (.t (.cons (.t (.cons (.s "back") (.cons (.i 0) (.cons (.t (.cons (.t (.cons (.i 0) (.cons (.i 0) .nil))) .nil)) .nil)))) .nil)) .nil))) (tTup (tCons (tTup (tCons (tTup (tCons (tTup (tCons (tVar 1) (tCons (tC (.int 0)) tNil))) tNil)) (tCons (tTup (tCons (tVar 2) (tCons (tC (.int 0)) tNil))) tNil))) (tCons (tTup (tCons (tTup (tCons (tC (.str "back")) (tCons (tC (.int 0)) (tCons (tTup (tCons (tTup (tCons (tC (.int 0)) (tCons (tC (.int 0)) tNil))) tNil)) tNil)))) tNil)) tNil))) (by simp only [Lt.te, Lts.ta]) ⟨by decide, ⟨⟨by decide, ⟨⟨by decide, ⟨⟨by decide, ⟨⟨_, rfl⟩, ⟨trivial, trivial⟩⟩⟩, trivial⟩⟩, ⟨⟨by decide, ⟨⟨_, rfl⟩, ⟨trivial, trivial⟩⟩⟩, trivial⟩⟩⟩, ⟨⟨by decide, ⟨⟨by decide, ⟨trivial, ⟨trivial, ⟨⟨by decide, ⟨⟨by decide, ⟨trivial, ⟨trivial, trivial⟩⟩⟩, trivial⟩⟩, trivial⟩⟩⟩⟩, trivial⟩⟩, trivial⟩⟩⟩ fun v1 G1 h1 g1 => ?_))
  have D1 : ChAt G1 v1 (⟨(⟨[(⟨x1, [(.v 0)]⟩ : At)], (⟨x2, [(.v 0)]⟩ : At)⟩ : Sy), [(St.bck 0 [(0, (.v 0))])]⟩ : Ch) := ch_lit (d_sy (dats_cons (d_at (k := 1) rfl (dts_cons (dt_i 0) dts_nil)) dats_nil) (d_at (k := 2) rfl (dts_cons (dt_i 0) dts_nil))) h1 fun u hu => stpt (dsts_cons (d_bck 0 (d_bi (dpr_cons (dt_i 0) dpr_nil))) dsts_nil) hu
  have o1 : ChOk (⟨(⟨[(⟨x1, [(.v 0)]⟩ : At)], (⟨x2, [(.v 0)]⟩ : At)⟩ : Sy), [(St.bck 0 [(0, (.v 0))])]⟩ : Ch) := ⟨⟨AtsOk.mk (by simp) (by intro a ha; simp only [List.mem_cons, List.not_mem_nil, or_false] at ha; subst ha; exact (at_ok (x := x1) (ts := [(.v 0)]) n1 (by decide) (by decide) (by simp [Tm.small, Tm.nums, Tm.size]))), by simp, (at_ok (x := x2) (ts := [(.v 0)]) n2 (by decide) (by decide) (by simp [Tm.small, Tm.nums, Tm.size]))⟩, by intro st hst; simp only [List.mem_cons, List.not_mem_nil, or_false] at hst; subst hst; exact ⟨by decide, ⟨by simp, by simp [Tm.small, Tm.nums], by simp [Tm.size], by simp, by simp⟩⟩, by simp⟩
  clear h1
  refine ⟨(by show 1 ≤ sizeLine; decide), fun l hl => ?_⟩
  have b1 := same_new hl (.lst [v1])
  have L1 : (upd G1 l (.lst [v1])) l = some (.lst [v1]) := upd_same
  have C1 : ChsAt (upd G1 l (.lst [v1])) [v1] [(⟨(⟨[(⟨x1, [(.v 0)]⟩ : At)], (⟨x2, [(.v 0)]⟩ : At)⟩ : Sy), [(St.bck 0 [(0, (.v 0))])]⟩ : Ch)] := ⟨D1.same b1, trivial⟩
  have l0 : H l = none := by
    cases e : H l with
    | none => rfl
    | some u => have := g1 _ _ (s0 _ _ e); rw [hl] at this; cases this
  have t1 := s0.trans (g1.trans b1)
  generalize upd G1 l (.lst [v1]) = I1 at b1 L1 C1 t1 ⊢
  refine ⟨_, rfl, .inl ⟨rfl, _, .inl (.inl L1)⟩, cons1 (Lt.runE (.t (.cons (.t (.cons (.t (.cons (.t (.cons (.v 1) (.cons (.i 0) .nil))) .nil)) (.cons (.t (.cons (.v 4) (.cons (.i 0) (.cons (.i 0) .nil)))) .nil))) (.cons (.t (.cons (.t (.cons (.s "cut") (.cons (.t (.cons (.v 4) (.cons (.i 0) (.cons (.i 0) .nil)))) .nil))) (.cons (.t (.cons (.s "back") (.cons (.i 0) (.cons (.t (.cons (.t (.cons (.i 0) (.cons (.i 0) .nil))) .nil)) .nil)))) (.cons (.t (.cons (.s "by") .nil)) .nil)))) .nil))) (tTup (tCons (tTup (tCons (tTup (tCons (tTup (tCons (tVar 1) (tCons (tC (.int 0)) tNil))) tNil)) (tCons (tTup (tCons (tVar 4) (tCons (tC (.int 0)) (tCons (tC (.int 0)) tNil)))) tNil))) (tCons (tTup (tCons (tTup (tCons (tC (.str "cut")) (tCons (tTup (tCons (tVar 4) (tCons (tC (.int 0)) (tCons (tC (.int 0)) tNil)))) tNil))) (tCons (tTup (tCons (tC (.str "back")) (tCons (tC (.int 0)) (tCons (tTup (tCons (tTup (tCons (tC (.int 0)) (tCons (tC (.int 0)) tNil))) tNil)) tNil)))) (tCons (tTup (tCons (tC (.str "by")) tNil)) tNil)))) tNil))) (by simp only [Lt.te, Lts.ta]) ⟨by decide, ⟨⟨by decide, ⟨⟨by decide, ⟨⟨by decide, ⟨⟨_, rfl⟩, ⟨trivial, trivial⟩⟩⟩, trivial⟩⟩, ⟨⟨by decide, ⟨⟨_, rfl⟩, ⟨trivial, ⟨trivial, trivial⟩⟩⟩⟩, trivial⟩⟩⟩, ⟨⟨by decide, ⟨⟨by decide, ⟨trivial, ⟨⟨by decide, ⟨⟨_, rfl⟩, ⟨trivial, ⟨trivial, trivial⟩⟩⟩⟩, trivial⟩⟩⟩, ⟨⟨by decide, ⟨trivial, ⟨trivial, ⟨⟨by decide, ⟨⟨by decide, ⟨trivial, ⟨trivial, trivial⟩⟩⟩, trivial⟩⟩, trivial⟩⟩⟩⟩, ⟨⟨by decide, ⟨trivial, trivial⟩⟩, trivial⟩⟩⟩⟩, trivial⟩⟩⟩ fun v2 G2 h2 g2 => ?_)⟩
  have D2 : ChAt G2 v2 (⟨(⟨[(⟨x1, [(.v 0)]⟩ : At)], (⟨x4, [(.v 0), (.v 0)]⟩ : At)⟩ : Sy), [(St.cut (⟨x4, [(.v 0), (.v 0)]⟩ : At)), (St.bck 0 [(0, (.v 0))]), St.by_]⟩ : Ch) := ch_lit (d_sy (dats_cons (d_at (k := 1) rfl (dts_cons (dt_i 0) dts_nil)) dats_nil) (d_at (k := 4) rfl (dts_cons (dt_i 0) (dts_cons (dt_i 0) dts_nil)))) h2 fun u hu => stpt (dsts_cons (d_cut (d_at (k := 4) rfl (dts_cons (dt_i 0) (dts_cons (dt_i 0) dts_nil)))) (dsts_cons (d_bck 0 (d_bi (dpr_cons (dt_i 0) dpr_nil))) (dsts_cons d_by dsts_nil))) hu
  have o2 : ChOk (⟨(⟨[(⟨x1, [(.v 0)]⟩ : At)], (⟨x4, [(.v 0), (.v 0)]⟩ : At)⟩ : Sy), [(St.cut (⟨x4, [(.v 0), (.v 0)]⟩ : At)), (St.bck 0 [(0, (.v 0))]), St.by_]⟩ : Ch) := ⟨⟨AtsOk.mk (by simp) (by intro a ha; simp only [List.mem_cons, List.not_mem_nil, or_false] at ha; subst ha; exact (at_ok (x := x1) (ts := [(.v 0)]) n1 (by decide) (by decide) (by simp [Tm.small, Tm.nums, Tm.size]))), by simp, (at_ok (x := x4) (ts := [(.v 0), (.v 0)]) n4 (by decide) (by decide) (by simp [Tm.small, Tm.nums, Tm.size]))⟩, by intro st hst; simp only [List.mem_cons, List.not_mem_nil, or_false] at hst; rcases hst with rfl | rfl | rfl; exact (at_ok (x := x4) (ts := [(.v 0), (.v 0)]) n4 (by decide) (by decide) (by simp [Tm.small, Tm.nums, Tm.size])); exact ⟨by decide, ⟨by simp, by simp [Tm.small, Tm.nums], by simp [Tm.size], by simp, by simp⟩⟩; exact trivial, by simp⟩
  clear h2
  have M2 := g2 _ _ L1
  refine ⟨l, _, _, rfl, rfl, M2, (by show 1 < sizeLine; decide), ?_⟩
  have C2 : ChsAt (upd G2 l (.lst ([v1] ++ [v2]))) ([v1] ++ [v2]) ([(⟨(⟨[(⟨x1, [(.v 0)]⟩ : At)], (⟨x2, [(.v 0)]⟩ : At)⟩ : Sy), [(St.bck 0 [(0, (.v 0))])]⟩ : Ch)] ++ [(⟨(⟨[(⟨x1, [(.v 0)]⟩ : At)], (⟨x4, [(.v 0), (.v 0)]⟩ : At)⟩ : Sy), [(St.cut (⟨x4, [(.v 0), (.v 0)]⟩ : At)), (St.bck 0 [(0, (.v 0))]), St.by_]⟩ : Ch)]) := (C1.mono fun a zs z => keepU M2 _ _ (g2 _ _ z)).append ⟨chAt_mono (keepU M2) D2, trivial⟩
  have L2 : (upd G2 l (.lst ([v1] ++ [v2]))) l = some (.lst ([v1] ++ [v2])) := upd_same
  have t2 : Same H (upd G2 l (.lst ([v1] ++ [v2]))) := fun a o z => by
    rw [upd_ne (ne_of_none z l0)]
    exact g2 _ _ (t1 _ _ z)
  generalize upd G2 l (.lst ([v1] ++ [v2])) = I2 at C2 L2 t2 ⊢
  clear L1 C1 M2
  refine seq_asg (Lt.runE (.t (.cons (.t (.cons (.s "use") (.cons (.i 1) .nil))) (.cons (.t (.cons (.s "as") (.cons (.t (.cons (.t .nil) (.cons (.t (.cons (.v 1) (.cons (.i 0) .nil))) .nil))) (.cons (.t (.cons (.t (.cons (.i 0) (.cons (.i 0) .nil))) .nil)) .nil)))) (.cons (.t (.cons (.s "cut") (.cons (.t (.cons (.v 1) (.cons (.i 0) .nil))) .nil))) (.cons (.t (.cons (.s "back") (.cons (.i 2) (.cons (.t (.cons (.t (.cons (.i 0) (.cons (.i 0) .nil))) .nil)) .nil)))) (.cons (.t (.cons (.s "by") .nil)) .nil)))))) (tTup (tCons (tTup (tCons (tC (.str "use")) (tCons (tC (.int 1)) tNil))) (tCons (tTup (tCons (tC (.str "as")) (tCons (tTup (tCons (tTup tNil) (tCons (tTup (tCons (tVar 1) (tCons (tC (.int 0)) tNil))) tNil))) (tCons (tTup (tCons (tTup (tCons (tC (.int 0)) (tCons (tC (.int 0)) tNil))) tNil)) tNil)))) (tCons (tTup (tCons (tC (.str "cut")) (tCons (tTup (tCons (tVar 1) (tCons (tC (.int 0)) tNil))) tNil))) (tCons (tTup (tCons (tC (.str "back")) (tCons (tC (.int 2)) (tCons (tTup (tCons (tTup (tCons (tC (.int 0)) (tCons (tC (.int 0)) tNil))) tNil)) tNil)))) (tCons (tTup (tCons (tC (.str "by")) tNil)) tNil)))))) (by simp only [Lt.te, Lts.ta]) ⟨by decide, ⟨⟨by decide, ⟨trivial, ⟨trivial, trivial⟩⟩⟩, ⟨⟨by decide, ⟨trivial, ⟨⟨by decide, ⟨⟨by decide, trivial⟩, ⟨⟨by decide, ⟨⟨_, rfl⟩, ⟨trivial, trivial⟩⟩⟩, trivial⟩⟩⟩, ⟨⟨by decide, ⟨⟨by decide, ⟨trivial, ⟨trivial, trivial⟩⟩⟩, trivial⟩⟩, trivial⟩⟩⟩⟩, ⟨⟨by decide, ⟨trivial, ⟨⟨by decide, ⟨⟨_, rfl⟩, ⟨trivial, trivial⟩⟩⟩, trivial⟩⟩⟩, ⟨⟨by decide, ⟨trivial, ⟨trivial, ⟨⟨by decide, ⟨⟨by decide, ⟨trivial, ⟨trivial, trivial⟩⟩⟩, trivial⟩⟩, trivial⟩⟩⟩⟩, ⟨⟨by decide, ⟨trivial, trivial⟩⟩, trivial⟩⟩⟩⟩⟩⟩ fun v3 G3 h3 g3 => ?_)
  have P3 : StPt G3 v3 [(St.use 1), (St.asy (⟨[], (⟨x1, [(.v 0)]⟩ : At)⟩ : Sy) [(0, (.v 0))]), (St.cut (⟨x1, [(.v 0)]⟩ : At)), (St.bck 2 [(0, (.v 0))]), St.by_] := stpt (dsts_cons (d_use 1) (dsts_cons (d_as (d_sy dats_nil (d_at (k := 1) rfl (dts_cons (dt_i 0) dts_nil))) (d_bi (dpr_cons (dt_i 0) dpr_nil))) (dsts_cons (d_cut (d_at (k := 1) rfl (dts_cons (dt_i 0) dts_nil))) (dsts_cons (d_bck 2 (d_bi (dpr_cons (dt_i 0) dpr_nil))) (dsts_cons d_by dsts_nil))))) h3
  clear h3
  have t3 := t2.trans g3
  have L3 := g3 _ _ L2
  have C3 := C2.mono fun a zs z => g3 _ _ z
  clear L2 C2
  refine ret_cat1 rfl (Lt.runE (.t (.cons (.t (.cons (.t .nil) (.cons (.t (.cons (.v 1) (.cons (.t (.cons (.s "s") (.cons (.i 0) .nil))) .nil))) .nil))) (.cons (.v 6) .nil))) (tTup (tCons (tTup (tCons (tTup tNil) (tCons (tTup (tCons (tVar 1) (tCons (tTup (tCons (tC (.str "s")) (tCons (tC (.int 0)) tNil))) tNil))) tNil))) (tCons (tVar 6) tNil))) (by simp only [Lt.te, Lts.ta]) ⟨by decide, ⟨⟨by decide, ⟨⟨by decide, trivial⟩, ⟨⟨by decide, ⟨⟨_, rfl⟩, ⟨⟨by decide, ⟨trivial, ⟨trivial, trivial⟩⟩⟩, trivial⟩⟩⟩, trivial⟩⟩⟩, ⟨⟨_, rfl⟩, trivial⟩⟩⟩ fun v4 G4 h4 g4 => ?_)
  have D4 : ChAt G4 v4 (⟨(⟨[], (⟨x1, [(.s (.v 0))]⟩ : At)⟩ : Sy), [(St.use 1), (St.asy (⟨[], (⟨x1, [(.v 0)]⟩ : At)⟩ : Sy) [(0, (.v 0))]), (St.cut (⟨x1, [(.v 0)]⟩ : At)), (St.bck 2 [(0, (.v 0))]), St.by_]⟩ : Ch) := ch_lit (d_sy dats_nil (d_at (k := 1) rfl (dts_cons (dt_s (dt_i 0)) dts_nil))) h4 fun u hu => (by have hu := Option.some.inj (Option.some.inj (show some (some _) = some (some u) from hu)); subst hu; exact P3.mono fun a zs z => g4 _ _ z)
  have o4 : ChOk (⟨(⟨[], (⟨x1, [(.s (.v 0))]⟩ : At)⟩ : Sy), [(St.use 1), (St.asy (⟨[], (⟨x1, [(.v 0)]⟩ : At)⟩ : Sy) [(0, (.v 0))]), (St.cut (⟨x1, [(.v 0)]⟩ : At)), (St.bck 2 [(0, (.v 0))]), St.by_]⟩ : Ch) := ⟨⟨AtsOk.mk (by simp) (by intro a ha; cases ha), by simp, (at_ok (x := x1) (ts := [(.s (.v 0))]) n1 (by decide) (by decide) (by simp [Tm.small, Tm.nums, Tm.size]))⟩, by intro st hst; simp only [List.mem_cons, List.not_mem_nil, or_false] at hst; rcases hst with rfl | rfl | rfl | rfl | rfl; exact (show 1 ≤ 9999999999 by decide); exact ⟨⟨AtsOk.mk (by simp) (by intro a ha; cases ha), by simp, (at_ok (x := x1) (ts := [(.v 0)]) n1 (by decide) (by decide) (by simp [Tm.small, Tm.nums, Tm.size]))⟩, ⟨by simp, by simp [Tm.small, Tm.nums], by simp [Tm.size], by simp, by simp⟩⟩; exact (at_ok (x := x1) (ts := [(.v 0)]) n1 (by decide) (by decide) (by simp [Tm.small, Tm.nums, Tm.size])); exact ⟨by decide, ⟨by simp, by simp [Tm.small, Tm.nums], by simp [Tm.size], by simp, by simp⟩⟩; exact trivial, by simp⟩
  clear h4
  have M4 := g4 _ _ L3
  refine ⟨(by show 1 ≤ sizeLine; decide), fun m hm => ?_⟩
  have b4 := same_new hm (.lst [v4])
  refine ⟨l, m, _, _, rfl, rfl, b4 _ _ M4, upd_same, (by show 3 ≤ sizeLine; decide), fun r hr0 => ?_⟩
  have c4 := same_new hr0 (.lst (([v1] ++ [v2]) ++ [v4]))
  refine q r _ (([(⟨(⟨[(⟨x1, [(.v 0)]⟩ : At)], (⟨x2, [(.v 0)]⟩ : At)⟩ : Sy), [(St.bck 0 [(0, (.v 0))])]⟩ : Ch)] ++ [(⟨(⟨[(⟨x1, [(.v 0)]⟩ : At)], (⟨x4, [(.v 0), (.v 0)]⟩ : At)⟩ : Sy), [(St.cut (⟨x4, [(.v 0), (.v 0)]⟩ : At)), (St.bck 0 [(0, (.v 0))]), St.by_]⟩ : Ch)]) ++ [(⟨(⟨[], (⟨x1, [(.s (.v 0))]⟩ : At)⟩ : Sy), [(St.use 1), (St.asy (⟨[], (⟨x1, [(.v 0)]⟩ : At)⟩ : Sy) [(0, (.v 0))]), (St.cut (⟨x1, [(.v 0)]⟩ : At)), (St.bck 2 [(0, (.v 0))]), St.by_]⟩ : Ch)]) _ upd_same ?_ ?_ (by simp) (t3.trans (g4.trans (b4.trans c4)))
  · exact (C3.mono fun a zs z => c4 _ _ (b4 _ _ (g4 _ _ z))).append ⟨(D4.same b4).same c4, trivial⟩
  · intro c hc
    simp only [List.cons_append, List.nil_append, List.mem_cons, List.not_mem_nil, or_false] at hc
    rcases hc with rfl | rfl | rfl
    · exact o1
    · exact o2
    · exact o4
end
end Rp

set_option maxHeartbeats 8000000
/-! A CHART's data: what is shown of it; what is alike. -/
namespace Rp
open PySem PySem.Spec PyProof.Rows L2 TL StX
structure Gd (n k : Nat) (d : PyData) : Prop where
  lay : d.canLay0 = true
  sh : d.showable = true
  is : d.intsShort 13 = true
  nd : d.hasDict = false
  wt : d.weight + 1 ≤ n
  dp : d.depth ≤ k
structure GdA (n k : Nat) (d : List PyData) : Prop where
  lay : PyData.canLayAll0 d = true
  sh : PyData.showableAll d = true
  is : PyData.intsShortAll 13 d = true
  nd : PyData.hasDictAll d = false
  wt : PyData.weightAll d ≤ n
  dp : PyData.depthAll d ≤ k
theorem Gd.more {n k n' k' : Nat} {d : PyData} (h : Gd n k d) (hn : n ≤ n') (hk : k ≤ k') : Gd n' k' d := ⟨h.lay, h.sh, h.is, h.nd, Nat.le_trans h.wt hn, Nat.le_trans h.dp hk⟩
theorem GdA.more {n k n' k' : Nat} {d : List PyData} (h : GdA n k d) (hn : n ≤ n') (hk : k ≤ k') : GdA n' k' d := ⟨h.lay, h.sh, h.is, h.nd, Nat.le_trans h.wt hn, Nat.le_trans h.dp hk⟩
theorem gda_nil (k : Nat) : GdA 0 k [] := ⟨rfl, rfl, rfl, rfl, by decide, by simp [PyData.depthAll]⟩
theorem GdA.cons {n m k : Nat} {d : PyData} {ds : List PyData} (h : Gd n k d) (h' : GdA m k ds) : GdA (n + m) k (d :: ds) := by
  refine ⟨?_, ?_, ?_, ?_, ?_, ?_⟩
  · simp only [PyData.canLayAll0, h.lay, h'.lay]; rfl
  · simp only [PyData.showableAll, h.sh, h'.sh]; rfl
  · simp only [PyData.intsShortAll, h.is, h'.is]; rfl
  · simp only [PyData.hasDictAll, h.nd, h'.nd]; rfl
  · have := h.wt; have := h'.wt; simp only [PyData.weightAll]; omega
  · have := h.dp; have := h'.dp; simp only [PyData.depthAll]; omega
theorem GdA.tup {n k : Nat} {ds : List PyData} (h : GdA n k ds) : Gd (n + 1) (k + 1) (.tuple ds) := by
  refine ⟨?_, ?_, ?_, ?_, ?_, ?_⟩
  · simp only [PyData.canLay0, h.lay]
  · simp only [PyData.showable, h.sh]
  · simp only [PyData.intsShort, h.is]
  · simp only [PyData.hasDict, h.nd]
  · have := h.wt; simp only [PyData.weight]; omega
  · have := h.dp; simp only [PyData.depth]; omega
theorem gda_map {α : Type} {f : α → PyData} {n k : Nat} : ∀ {l : List α}, (∀ x ∈ l, Gd n k (f x)) → GdA (n * l.length) k (l.map f)
  | [], _ => gda_nil k
  | x :: l, h => by
    have ih := gda_map (l := l) fun y hy => h y (by simp [hy])
    refine ((h x (by simp)).more (Nat.le_refl _) (Nat.le_refl _) |> fun a => GdA.cons a ih).more ?_ (Nat.le_refl _)
    rw [List.length_cons, Nat.mul_add]; omega
theorem gd_int {i : Int} (h : i.natAbs ≤ 9999999999) : Gd 36 1 (.int i) := by
  have lg : i.natAbs.log2 ≤ 34 := by
    by_cases h0 : i.natAbs = 0
    · rw [h0]; decide
    · exact Nat.le_of_lt_succ ((Nat.log2_lt h0).mpr (by omega))
  refine ⟨rfl, ?_, ?_, rfl, ?_, by simp [PyData.depth]⟩
  · simp only [PyData.showable, decide_eq_true_eq]; omega
  · simp only [PyData.intsShort, decide_eq_true_eq]; exact PyData.shown_int_le (by omega)
  · simp only [PyData.weight]; split <;> omega
theorem gd_str {x : Str} (h : PyData.canLay0 (.str x) = true) (l : x.length ≤ 6) : Gd 7 1 (.str x) :=
  ⟨h, rfl, rfl, rfl, by simp only [PyData.weight]; show x.length + 1 ≤ 7; omega, by simp [PyData.depth]⟩
theorem gd_tm : ∀ t : Tm, t.small → Gd (8 * t.size) (t.deep + 1) (tmD t)
  | .v n, h => by
    have h := h n (by simp [Tm.nums])
    have g := gd_int (i := n) (by omega)
    have lg : n.natAbs.log2 ≤ 6 := by
      by_cases h0 : n.natAbs = 0
      · rw [h0]; decide
      · exact Nat.le_of_lt_succ ((Nat.log2_lt h0).mpr (by show n.natAbs < 2 ^ 7; omega))
    exact ⟨g.lay, g.sh, g.is, g.nd, by simp only [tmD, PyData.weight, Tm.size]; split <;> omega, by simp [tmD, PyData.depth]⟩
  | .z, _ => (((GdA.cons (gd_str (x := "0") (by decide +kernel) (by decide +kernel)) (gda_nil 1)).tup).more (by decide) (by decide) : Gd 8 2 _) |> fun g => ⟨g.lay, g.sh, g.is, g.nd, g.wt, by simp [tmD, PyData.depth, PyData.depthAll]⟩
  | .s t, h => by
    have ih := gd_tm t h
    have a : PyData.canLay0 (.str "s") = true := by decide +kernel
    have l : ("s" : Str).cps.size = 1 := by decide +kernel
    have w := ih.wt
    have dp := ih.dp
    refine ⟨?_, ?_, ?_, ?_, ?_, ?_⟩
    · simp only [tmD, PyData.canLay0, PyData.canLayAll0, Bool.and_true, Bool.and_eq_true]; exact ⟨by simpa [PyData.canLay0] using a, ih.lay⟩
    · simp only [tmD, PyData.showable, PyData.showableAll, ih.sh]; rfl
    · simp only [tmD, PyData.intsShort, PyData.intsShortAll, ih.is]; rfl
    · simp only [tmD, PyData.hasDict, PyData.hasDictAll, ih.nd]; rfl
    · simp only [tmD, PyData.weight, PyData.weightAll, Tm.size, l]; omega
    · simp only [tmD, PyData.depth, PyData.depthAll, Tm.deep]; omega
  | .f t u, h => by
    have ih := gd_tm t fun n hn => h n (by simp [Tm.nums, hn])
    have ih2 := gd_tm u fun n hn => h n (by simp [Tm.nums, hn])
    have a : PyData.canLay0 (.str "f") = true := by decide +kernel
    have l : ("f" : Str).cps.size = 1 := by decide +kernel
    have w := ih.wt
    have dp := ih.dp
    have w2 := ih2.wt
    have dp2 := ih2.dp
    refine ⟨?_, ?_, ?_, ?_, ?_, ?_⟩
    · simp only [tmD, PyData.canLay0, PyData.canLayAll0, Bool.and_true, Bool.and_eq_true]; exact ⟨by simpa [PyData.canLay0] using a, ih.lay, ih2.lay⟩
    · simp only [tmD, PyData.showable, PyData.showableAll, ih.sh, ih2.sh]; rfl
    · simp only [tmD, PyData.intsShort, PyData.intsShortAll, ih.is, ih2.is]; rfl
    · simp only [tmD, PyData.hasDict, PyData.hasDictAll, ih.nd, ih2.nd]; rfl
    · simp only [tmD, PyData.weight, PyData.weightAll, Tm.size, l]; omega
    · simp only [tmD, PyData.depth, PyData.depthAll, Tm.deep]; omega
theorem gd_at {a : At} (ok : AtOk 50 a) : Gd 808 51 (atD a) := by
  have t2 := ok.two
  have h : GdA (400 * a.ts.length) 50 (a.ts.map tmD) := gda_map fun t ht => by
    have := Tm.deep_lt t
    have z := ok.sm t ht
    exact (gd_tm t z.1).more (by omega) (by omega)
  refine (((gd_str (name_lay ok.nm) ok.nm.few).more (Nat.le_refl _) (by decide : 1 ≤ 50) |> fun g => GdA.cons g h).tup).more (by omega) (by omega)
def syD (s : Sy) : PyData := .tuple [.tuple (s.hs.map atD), atD s.gl]
theorem gd_sy {s : Sy} (ok : SyOk s) : Gd 5658 53 (syD s) := by
  have f := ok.hs.few
  have h : GdA (808 * s.hs.length) 51 (s.hs.map atD) := gda_map fun a ha => gd_at (ok.hs.ok a ha)
  exact (GdA.cons h.tup (GdA.cons ((gd_at ok.gl).more (Nat.le_refl _) (by decide)) (gda_nil 52))).tup.more (by omega) (by decide)
theorem gd_bi {b : Prs} (ok : PrOk b) : Gd 3700 44 (biD b) := by
  have f := ok.few
  have h : GdA (360 * b.length) 43 (b.map prD) := gda_map fun p hp => by
    have := Tm.deep_lt p.2
    have z := ok.sz p hp
    have np := ok.num p hp
    have g1 := (gd_int (i := p.1) (by omega)).more (Nat.le_refl _) (by decide : 1 ≤ 42)
    have g2 := (gd_tm p.2 (ok.sm p hp)).more (by omega : 8 * p.2.size ≤ 320) (by omega : p.2.deep + 1 ≤ 42)
    exact (GdA.cons g1 (GdA.cons g2 (gda_nil 42))).tup.more (by decide) (by decide)
  exact h.tup.more (by omega) (by decide)
def ptD : St → List PyData
  | .by_ => []
  | .spl k => [.int k]
  | .use k => [.int k]
  | .bck l b => [.int l, biD b]
  | .cut a => [atD a]
  | .asy s b => [syD s, biD b]
  | .len x b => [.str x, biD b]
def stD (st : St) : PyData := .tuple (.str st.word :: ptD st)
theorem word_lay (st : St) : PyData.canLay0 (.str st.word) = true := by
  have all : ∀ w ∈ words7, PyData.canLay0 (.str w) = true := by decide +kernel
  exact all _ (word_mem st)
theorem gd_st {st : St} (ok : StOk st) : Gd 9400 54 (stD st) := by
  have w := (gd_str (word_lay st) (by have := word_len st; omega)).more (Nat.le_refl _) (by decide : 1 ≤ 53)
  have n := gda_nil 53
  unfold stD
  cases st with
  | by_ => exact (GdA.cons w n).tup.more (by decide) (by decide)
  | spl k => exact (GdA.cons w (GdA.cons ((gd_int (i := k) (show ((k : Nat) : Int).natAbs ≤ 9999999999 from ok)).more (Nat.le_refl _) (by decide)) n)).tup.more (by decide) (by decide)
  | use k => exact (GdA.cons w (GdA.cons ((gd_int (i := k) (show ((k : Nat) : Int).natAbs ≤ 9999999999 from ok)).more (Nat.le_refl _) (by decide)) n)).tup.more (by decide) (by decide)
  | bck k b => exact (GdA.cons w (GdA.cons ((gd_int (i := k) (show ((k : Nat) : Int).natAbs ≤ 9999999999 from ok.1)).more (Nat.le_refl _) (by decide)) (GdA.cons ((gd_bi ok.2).more (Nat.le_refl _) (by decide)) n))).tup.more (by decide) (by decide)
  | cut a => exact (GdA.cons w (GdA.cons ((gd_at ok).more (Nat.le_refl _) (by decide)) n)).tup.more (by decide) (by decide)
  | asy s b => exact (GdA.cons w (GdA.cons (gd_sy ok.1) (GdA.cons ((gd_bi ok.2).more (Nat.le_refl _) (by decide)) n))).tup.more (by decide) (by decide)
  | len x b => exact (GdA.cons w (GdA.cons ((gd_str (name_lay ok.1) ok.1.few).more (Nat.le_refl _) (by decide)) (GdA.cons ((gd_bi ok.2).more (Nat.le_refl _) (by decide)) n))).tup.more (by decide) (by decide)
def chD (c : Ch) : PyData := .tuple [syD c.sy, .tuple (c.sts.map stD)]
theorem gd_ch {c : Ch} (ok : ChOk c) : Gd 400000 56 (chD c) := by
  have f := ok.few
  have h : GdA (9400 * c.sts.length) 54 (c.sts.map stD) := gda_map fun st hst => gd_st (ok.ok st hst)
  exact (GdA.cons ((gd_sy ok.sy).more (Nat.le_refl _) (by decide : 53 ≤ 55)) (GdA.cons h.tup (gda_nil 55))).tup.more (by omega) (by decide)
theorem ch_shown {c : Ch} (ok : ChOk c) : (chD c).showable = true ∧ (chD c).hasDict = false ∧ (chD c).depth ≤ 64 ∧ (chD c).shown.length ≤ sizeLine := by
  have g := gd_ch ok
  have w := g.wt
  have k := g.dp
  refine ⟨g.sh, g.nd, by omega, Nat.le_trans (shown_le13 ?_ g.is) (by decide)⟩
  unfold PyData.layable0
  rw [g.lay, decide_eq_true (by omega : (chD c).depth ≤ 64), decide_eq_true (by omega : (chD c).weight ≤ 2 ^ 20)]
  rfl
theorem sy_dp {K : PySem.W.Frag} {H : Hp} {v : V} {s : Sy} (h : SyAt H v s) : Dp K H v (syD s) := by
  obtain ⟨p, q, vg, xs, rfl, h1, h2, h3, h4⟩ := h
  exact .tup (.inl (.inl h1)) (.cons (.tup (.inl (.inl h2)) (ats_dp h3)) (.cons (at_dp h4) .nil))
theorem st_dp {K : PySem.W.Frag} {H : Hp} {v : V} {st : St} (h : StAt H v st) : Dp K H v (stD st) := by
  obtain ⟨p, ys, rfl, h1, Pt⟩ := h
  refine .tup (.inl (.inl h1)) (.cons (.str _) ?_)
  cases st with
  | by_ => rw [show ys = [] from Pt]; exact .nil
  | spl k => rw [show ys = [.int k] from Pt]; exact .cons (.int _) .nil
  | use k => rw [show ys = [.int k] from Pt]; exact .cons (.int _) .nil
  | bck l b => obtain ⟨vb, e, B⟩ := Pt; rw [e]; exact .cons (.int _) (.cons (bi_dp B) .nil)
  | cut a => obtain ⟨va, e, A⟩ := Pt; rw [e]; exact .cons (at_dp A) .nil
  | asy s b => obtain ⟨v, vb, e, S, B⟩ := Pt; rw [e]; exact .cons (sy_dp S) (.cons (bi_dp B) .nil)
  | len x b => obtain ⟨vb, e, B⟩ := Pt; rw [e]; exact .cons (.str _) (.cons (bi_dp B) .nil)
theorem sts_dp {K : PySem.W.Frag} {H : Hp} : ∀ {xs : List V} {sts : List St}, StsAt H xs sts → DpAll K H xs (sts.map stD)
  | [], [], _ => .nil
  | _ :: _, _ :: _, h => .cons (st_dp h.1) (sts_dp h.2)
theorem ch_dp {K : PySem.W.Frag} {H : Hp} {v : V} {c : Ch} (h : ChAt H v c) : Dp K H v (chD c) := by
  obtain ⟨p, q, vs, xs, rfl, h1, h2, h3, h4⟩ := h
  exact .tup (.inl (.inl h1)) (.cons (sy_dp h2) (.cons (.tup (.inl (.inl h3)) (sts_dp h4)) .nil))
theorem alike_t {H : Hp} {n : Nat} {p q : Addr} {xs ys : List V} (hp : H p = some (.tup xs)) (hq : H q = some (.tup ys)) (l : xs.length = ys.length) (few : xs.length ≤ 40) (h : ∀ (i : Nat) (u v : V), xs[i]? = some u → ys[i]? = some v → Alike H n u v) : Alike H (n + 1) (.ref p) (.ref q) := by
  unfold Alike
  exact .inr ⟨p, q, _, _, rfl, rfl, .inr ⟨hp, hq⟩, l, by omega, h⟩
theorem at2 {xs : V} {P : V → V → Prop} {a b c d : V} (h1 : P a c) (h2 : P b d) : ∀ (i : Nat) (u v : V), [a, b][i]? = some u → [c, d][i]? = some v → P u v := by
  intro i u v e1 e2
  match i with
  | 0 => simp at e1 e2; subst e1 e2; exact h1
  | 1 => simp at e1 e2; subst e1 e2; exact h2
  | i + 2 => simp at e1
theorem atC {P : V → V → Prop} {a c : V} {xs ys : List V} (h1 : P a c) (h2 : ∀ (i : Nat) (u v : V), xs[i]? = some u → ys[i]? = some v → P u v) : ∀ (i : Nat) (u v : V), (a :: xs)[i]? = some u → (c :: ys)[i]? = some v → P u v := by
  intro i u v e1 e2
  match i with
  | 0 => simp at e1 e2; subst e1 e2; exact h1
  | i + 1 => exact h2 i u v (by simpa using e1) (by simpa using e2)
theorem at0 {P : V → V → Prop} : ∀ (i : Nat) (u v : V), ([] : List V)[i]? = some u → ([] : List V)[i]? = some v → P u v := by
  intro i u v e1; simp at e1
theorem alike_sy {H : Hp} {s : Sy} (ok : SyOk s) {x y : V} (hx : SyAt H x s) (hy : SyAt H y s) : Alike H 54 x y := by
  obtain ⟨p, q, vg, xs, rfl, h1, h2, h3, h4⟩ := hx
  obtain ⟨p', q', vg', ys, rfl, g1, g2, g3, g4⟩ := hy
  have lx := h3.len
  have ly := g3.len
  have f := ok.hs.few
  exact alike_t h1 g1 rfl (by simp) (atC (alike_t h2 g2 (by omega) (by omega) (alike_ats ok.hs.ok h3 g3)) (atC (alike_at ok.gl h4 g4).up at0))
theorem alike_prs {H : Hp} : ∀ {ps : Prs} {xs ys : List V}, (∀ p ∈ ps, p.2.size ≤ 40) → PrAt H xs ps → PrAt H ys ps → ∀ (i : Nat) (u v : V), xs[i]? = some u → ys[i]? = some v → Alike H 52 u v
  | [], [], [], _, _, _ => at0
  | p :: ps, x :: xs, y :: ys, ok, ⟨⟨b, z, e1, hb, T⟩, r⟩, ⟨⟨b', z', e1', hb', T'⟩, r'⟩ => by
    subst e1 e1'
    have dl := Tm.deep_lt p.2
    have z := ok p (by simp)
    exact atC (alike_t hb hb' rfl (by simp) (atC (alike_plain trivial) (atC (alike_tm T T' (by omega)) at0))) (alike_prs (fun q hq => ok q (by simp [hq])) r r')
theorem alike_bi {H : Hp} {b : Prs} (ok : PrOk b) {x y : V} (hx : BiAt H x b) (hy : BiAt H y b) : Alike H 53 x y := by
  obtain ⟨p, xs, rfl, h1, h2⟩ := hx
  obtain ⟨q, ys, rfl, g1, g2⟩ := hy
  have lx := h2.len
  have ly := g2.len
  have f := ok.few
  exact alike_t h1 g1 (by omega) (by omega) (alike_prs ok.sz h2 g2)
theorem alike_st {H : Hp} {st : St} (ok : StOk st) {x y : V} (hx : StAt H x st) (hy : StAt H y st) : Alike H 55 x y := by
  obtain ⟨p, xs, rfl, h1, h2⟩ := hx
  obtain ⟨q, ys, rfl, g1, g2⟩ := hy
  have pl : ∀ {v : V}, Plain v → Alike H 54 v v := fun h => alike_plain h
  cases st with
  | by_ =>
    obtain rfl : xs = [] := h2
    obtain rfl : ys = [] := g2
    exact alike_t h1 g1 rfl (by simp) (atC (pl trivial) at0)
  | spl k =>
    obtain rfl : xs = [.int k] := h2
    obtain rfl : ys = [.int k] := g2
    exact alike_t h1 g1 rfl (by simp) (atC (pl trivial) (atC (pl trivial) at0))
  | use k =>
    obtain rfl : xs = [.int k] := h2
    obtain rfl : ys = [.int k] := g2
    exact alike_t h1 g1 rfl (by simp) (atC (pl trivial) (atC (pl trivial) at0))
  | bck k b =>
    obtain ⟨vb, rfl, B⟩ := h2
    obtain ⟨vb', rfl, B'⟩ := g2
    exact alike_t h1 g1 rfl (by simp) (atC (pl trivial) (atC (pl trivial) (atC (alike_bi ok.2 B B').up at0)))
  | cut a =>
    obtain ⟨va, rfl, A⟩ := h2
    obtain ⟨va', rfl, A'⟩ := g2
    exact alike_t h1 g1 rfl (by simp) (atC (pl trivial) (atC ((alike_at ok A A').ups (by decide)) at0))
  | asy s b =>
    obtain ⟨v, vb, rfl, S, B⟩ := h2
    obtain ⟨v', vb', rfl, S', B'⟩ := g2
    exact alike_t h1 g1 rfl (by simp) (atC (pl trivial) (atC (alike_sy ok.1 S S') (atC (alike_bi ok.2 B B').up at0)))
  | len z b =>
    obtain ⟨vb, rfl, B⟩ := h2
    obtain ⟨vb', rfl, B'⟩ := g2
    exact alike_t h1 g1 rfl (by simp) (atC (pl trivial) (atC (pl trivial) (atC (alike_bi ok.2 B B').up at0)))
theorem alike_sts {H : Hp} : ∀ {sts : List St} {xs ys : List V}, (∀ st ∈ sts, StOk st) → StsAt H xs sts → StsAt H ys sts → ∀ (i : Nat) (u v : V), xs[i]? = some u → ys[i]? = some v → Alike H 55 u v
  | [], [], [], _, _, _ => at0
  | st :: sts, x :: xs, y :: ys, ok, h, g => atC (alike_st (ok st (by simp)) h.1 g.1) (alike_sts (fun s hs => ok s (by simp [hs])) h.2 g.2)
theorem alike_ch {H : Hp} {c : Ch} (ok : ChOk c) {x y : V} (hx : ChAt H x c) (hy : ChAt H y c) : Alike H 57 x y := by
  obtain ⟨p, q, vs, xs, rfl, h1, h2, h3, h4⟩ := hx
  obtain ⟨p', q', vs', ys, rfl, g1, g2, g3, g4⟩ := hy
  have lx := h4.len
  have ly := g4.len
  have f := ok.few
  exact alike_t h1 g1 rfl (by simp) (atC ((alike_sy ok.sy h2 g2).ups (by decide)) (atC (alike_t h3 g3 (by omega) (by omega) (alike_sts ok.ok h4 g4)) at0))
end Rp

set_option maxHeartbeats 16000000
/-! The law's words for a chart; right. -/
namespace Rp
open PySem PySem.Spec PyProof.Rows L2 TL StX
def spLChart : Sp := fun vs H Q _ => ∃ (v : V) (c : Ch), vs = [v] ∧ ChAt H v c ∧ ChOk c ∧ ∀ H', Same H H' → Q (.str (chtxt c)) H'
def spRight : Sp := fun vs H Q _ => ∃ (v : V) (c : Ch), vs = [v] ∧ ChAt H v c ∧ ChOk c ∧ ∀ H', Same H H' → Q (.bl true) H'
theorem hu66 {A : Around} {k : Nat} (hr : Room k A) : A.units + 66 < cLine := by have := hr.un; omega
section
variable {P : Program} {w : World} {K : PySem.W.Frag} {mg : Str → Option Value} {base : Heap}
theorem scLChart : FnScope ["_law_chart", "_law_step"] ["_law_chart"] (defScope sChartW) := ⟨rfl, rfl, rfl, by decide +kernel, rfl, by decide +kernel, by decide +kernel⟩
theorem ok_lchart {f fS fT : Addr} {fd dS dT : FuncData} (F : Fun K "_law_chart_words" "_law_chart_words" sChartW f fd)
    (GS : FnOk P w K mg base CX0 62 fS dS ["_law_saying_here"] spLSay) (kS : PySem.W.keepIn K (.ref fS) = true) (bS : Binds K dS ["_law_saying_here"] []) (mS : mg "_law_saying_words" = some (.ref fS))
    (GT : FnOk P w K mg base CX0 63 fT dT ["_law_step"] spLStep) (kT : PySem.W.keepIn K (.ref fT) = true) (bT : Binds K dT ["_law_step"] []) (mT : mg "_law_step_words" = some (.ref fT)) : FnOk P w K mg base CX0 64 f fd ["_law_chart"] spLChart := by
  refine F.ok scLChart (fun vs H Q E h => ?_) (fun cdv A outer s H vs Q E hr h => ?_)
  · obtain ⟨v, c, rfl, _⟩ := h
    rfl
  obtain ⟨v, c, rfl, ⟨p, q, vs, xs, rfl, hp, S, hq, A1⟩, ok, fin⟩ := h
  have r62 : Room 62 _ := hr.mono (by decide)
  refine ⟨_, pss_one (ps_ret (pe_bm PySem.F.plainAttrs_str PySem.F.slot_str_join PySem.F.type_str_join mt_join pe_str (pa_cons (pe_op op_cat (pe_lst (pa_cons (pe_call GS r62 (by rfl) mS kS bS .nil pass0 (pa_cons (pe_ix ix_tup (pv 0) pe_int (fun _ _ => rfl)) pa_nil)) pa_nil))
      (pe_lc (own := [("_law_step", 1)]) (g := gName 1) (tt := tYes) (te := tCall spLStep [] E0 (tCons (tVar 1) tNil)) rfl scLChart.nd (pi_tup (pe_ix ix_tup (pv 0) pe_int (fun _ _ => rfl))) (blkOk_by (N := ["_law_chart", "_law_step"]) (sc := defScope sChartW) (by decide +kernel)) (fun _ _ _ _ _ => pg_name (i := 1) scLChart.nd rfl (Or.inl rfl))
        (fun _ _ _ _ _ => pts_nil) (fun _ _ _ _ _ => pe_call GT hr (by rfl) mT kT bT .nil pass0 (pa_cons (pv 1) pa_nil)))) pa_nil))), ?_⟩
  have big : (400010 : Nat) ≤ sizeLine := by decide
  have xl := A1.len
  have o40 := ok.few
  refine ⟨rfl, _, rfl, p, _, _, _, rfl, rfl, .inl (.inl hp), at_of (j := 0) rfl rfl, vs, c.sy, rfl, S, ok.sy, fun H1 s1 => ⟨(by show 1 ≤ sizeLine; decide), fun c1 hc1 => ?_⟩⟩
  have s2 := s1.trans (same_new hc1 (.lst [V.str (sytxt c.sy)]))
  have hc2 : (upd H1 c1 (.lst [V.str (sytxt c.sy)])) c1 = some (.lst [V.str (sytxt c.sy)]) := upd_same
  generalize upd H1 c1 (.lst [V.str (sytxt c.sy)]) = H2 at s2 hc2 ⊢
  have hq2 := s2 _ _ hq
  have A2 := A1.same s2
  refine ⟨_, rfl, p, _, _, _, rfl, rfl, .inl (.inl (s2 _ _ hp)), at_of (j := 1) rfl rfl, q, rfl, ⟨_, .inl (.inl hq2)⟩, fun D hD => lc_tup (K := K) (a := q) (xs := xs) (fun i H3 => H3 D = some (.lst (((c.sts.take i).map stxt).map V.str)) ∧ Same H2 H3) ⟨upd_same, same_new hD _⟩ (fun i H3 _ h => .inl (.inl (h.2 _ _ hq2))) ?_ ?_⟩
  · rintro i x H3 hi ⟨h3, s3⟩
    obtain ⟨t, ht, T⟩ := A2.get hi
    refine ⟨rfl, ?_⟩
    refine ⟨_, rfl, x, t, rfl, T.same s3, ok.ok t (List.mem_of_getElem? ht), fun H4 s4 => ⟨_, s4 _ _ h3, ?_, ?_, ?_⟩⟩
    · rw [List.length_map, List.length_map, List.length_take]; omega
    · have tk : c.sts.take (i + 1) = c.sts.take i ++ [t] := by rw [List.take_add_one, ht]; rfl
      rw [upd_same, tk, List.map_append, List.map_append]; rfl
    · intro c o z
      rw [upd_ne (ne_of_none z hD)]
      exact s4 _ _ (s3 _ _ z)
  · rintro H3 ⟨h3, s3⟩
    rw [xl, List.take_length] at h3
    have ps := chrows_sum ok
    refine ⟨c1, D, _, _, rfl, rfl, s3 _ _ hc2, h3, by simp; omega, fun l hl => ?_⟩
    have e : [V.str (sytxt c.sy)] ++ (c.sts.map stxt).map V.str = (chrows c).map V.str := by simp [chrows]
    rw [e]
    exact ⟨"\n", l, chrows c, rfl, rfl, .inl (.inl (.inl upd_same)), by rw [l_nl]; exact Nat.le_trans ps (by decide), fin _ (s2.trans (s3.trans (same_new hl _)))⟩
theorem scRight : FnScope ["_law_chart", "_law_before", "_law_text"] ["_law_chart"] (defScope sRight) := ⟨rfl, rfl, rfl, by decide +kernel, rfl, by decide +kernel, by decide +kernel⟩
theorem ok_right {f fW fT fI fS : Addr} {fd dW dT dI dS : FuncData} (F : Fun K "_law_right" "_law_right" sRight f fd)
    (GW : FnOk P w K mg base CX0 64 fW dW ["_law_chart"] spLChart) (kW : PySem.W.keepIn K (.ref fW) = true) (bW : Binds K dW ["_law_chart"] []) (mW : mg "_law_chart_words" = some (.ref fW))
    (GT : FnOk P w K mg base CX0 9 fT dT ["chart"] spChartText) (kT : PySem.W.keepIn K (.ref fT) = true) (bT : Binds K dT ["chart"] []) (mT : mg "chart_text" = some (.ref fT))
    (GI : FnOk P w K mg base CX0 11 fI dI ["text"] spChartIn) (kI : PySem.W.keepIn K (.ref fI) = true) (bI : Binds K dI ["text"] []) (mI : mg "chart_in" = some (.ref fI))
    (GS : FnOk P w K mg base CX0 59 fS dS ["_law_found", "_law_due"] (spSame 59)) (kS : PySem.W.keepIn K (.ref fS) = true) (bS : Binds K dS ["_law_found", "_law_due"] []) (mS : mg "_law_same" = some (.ref fS))
    (mRepr : mg "repr" = none) (mLen : mg "len" = none) : GnOk P w K mg base 65 f fd ["_law_chart"] spRight := by
  refine gok F scRight (fun vs H Q E h => ?_) (fun cdv A outer s H vs Q E hg hr h => ?_)
  · obtain ⟨v, c, rfl, _⟩ := h
    rfl
  obtain ⟨v, c, rfl, C, ok, q⟩ := h
  have r9 : Room 9 _ := hr.mono (by decide)
  have r11 : Room 11 _ := hr.mono (by decide)
  have r59 : Room 59 _ := hr.mono (by decide)
  refine ⟨_, pss_cons (ps_par (i := 1) (j := 2) rfl scRight.nd rfl rfl (by decide) rfl rfl (pa_cons (pe_callB (cr_reprD hg (hu66 hr)) (by rfl) mRepr (by decide +kernel) (pa_cons (pv 0) pa_nil)) (pa_cons (pe_call GW hr rfl mW kW bW .nil pass0 (pa_cons (pv 0) pa_nil)) pa_nil)) (by rfl))
    (pss_cons (ps_if (pt_cmpR op_gt (pe_callB call_len_str (by rfl) mLen PySem.boot_len (pa_cons (pv 2) pa_nil)) pe_int (nomark _)) (pss_one (ps_ret pe_bl)) pss_nil)
    (pss_cons (ps_if (PW.pt (pw_or (pt_cmpR op_ne (pe_call GT r9 rfl mT kT bT .nil pass0 (pa_cons (pv 0) pa_nil)) (pv 2) (nomark _))
        (pw_or1 (pt_not (pt_val (pe_call GS r59 rfl mS kS bS .nil pass0 (pa_cons (pe_lst (pa_cons (pe_call GI r11 rfl mI kI bI .nil pass0 (pa_cons (pv 2) pa_nil)) (pa_cons (pe_call GI r11 rfl mI kI bI .nil pass0 (pa_cons (pv 2) pa_nil)) pa_nil)))
          (pa_cons (pe_lst (pa_cons (pv 0) (pa_cons (pv 0) pa_nil))) pa_nil)))))))) (pss_one (ps_ret pe_bl)) pss_nil)
    (pss_one (ps_ret (pe_and (pe_cmpR op_eq (pe_callB (cr_reprD hg (hu66 hr)) (by rfl) mRepr (by decide +kernel) (pa_cons (pv 0) pa_nil)) (pv 1) (nomark _))
      (pe_one (pe_cmpR op_eq (pe_call GT r9 rfl mT kT bT .nil pass0 (pa_cons (pe_call GI r11 rfl mI kI bI .nil pass0 (pa_cons (pe_call GT r9 rfl mT kT bT .nil pass0 (pa_cons (pv 0) pa_nil)) pa_nil)) pa_nil)) (pv 2) (nomark _)))))))), ?_⟩
  obtain ⟨sh1, sh2, sh3, sh4⟩ := ch_shown ok
  refine ⟨_, rfl, v, chD c, rfl, ch_dp C, sh1, sh2, sh3, sh4, ?_⟩
  refine ⟨_, rfl, v, c, rfl, C, ok, fun H1 s1 => ⟨_, _, rfl, ?_⟩⟩
  have C1 := C.same s1
  refine ⟨_, rfl, chtxt c, rfl, ?_⟩
  refine ⟨Nat.le_trans (chtxt_len ok) (by decide), ?_⟩
  refine ⟨_, _, rfl, rfl, decide ((6000 : Int) < ((chtxt c).length : Nat)), rfl, ?_⟩
  by_cases h6 : (6000 : Int) < ((chtxt c).length : Nat)
  · rw [decide_eq_true h6]
    exact iteT (q _ s1)
  rw [decide_eq_false h6]
  refine iteF ?_
  refine ⟨_, rfl, v, c, rfl, C1, ok, fun H2 s2 => ⟨_, rfl, rfl, false, eq_strD rfl, iteF ?_⟩⟩
  have C2 := C1.same s2
  refine ⟨_, rfl, c, rfl, ok, fun v3 H3 C3 s3 => ⟨_, rfl, c, rfl, ok, fun v4 H4 C4 s4 => ⟨(by show 2 ≤ sizeLine; decide), fun l hl => ?_⟩⟩⟩
  have s5 := same_new hl (.lst [v3, v4])
  refine ⟨_, rfl, _, rfl, (by show 2 ≤ sizeLine; decide), fun m hm => ?_⟩
  have s6 := same_new hm (.lst [v, v])
  have C3' := ((C3.same s4).same s5).same s6
  have C4' := (C4.same s5).same s6
  have C5 := (((C2.same s3).same s4).same s5).same s6
  have s16 := s1.trans (s2.trans (s3.trans (s4.trans (s5.trans s6))))
  have hl6 := s6 _ _ (upd_same : (upd H4 l (.lst [v3, v4])) l = _)
  have hm6 : (upd (upd H4 l (.lst [v3, v4])) m (.lst [v, v])) m = some (.lst [v, v]) := upd_same
  generalize upd (upd H4 l (.lst [v3, v4])) m (.lst [v, v]) = H6 at C3' C4' C5 s16 hl6 hm6 ⊢
  have al : Alike H6 58 (.ref l) (.ref m) := by
    unfold Alike
    exact .inr ⟨l, m, _, _, rfl, rfl, .inl ⟨hl6, hm6⟩, rfl, by simp, atC (alike_ch ok C3' C5) (atC (alike_ch ok C4' C5) at0)⟩
  refine ⟨_, _, 58, rfl, rfl, al, fun H7 s7 => ⟨true, rfl, iteF ?_⟩⟩
  have C7 := C5.same s7
  have s17 := s16.trans s7
  refine ⟨_, rfl, v, chD c, rfl, ch_dp C7, sh1, sh2, sh3, sh4, _, rfl, rfl, true, str_eqD rfl, iteT ?_⟩
  refine ⟨_, rfl, v, c, rfl, C7, ok, fun H8 s8 => ⟨c, rfl, ok, fun v9 H9 C9 s9 => ⟨v9, c, rfl, C9, ok, fun H10 s10 => ⟨_, rfl, rfl, ?_⟩⟩⟩⟩
  have e : decide (V.str (chtxt c) = V.str (chtxt c)) = true := decide_eq_true rfl
  rw [e]
  exact q _ (s17.trans (s8.trans (s9.trans s10)))
end
end Rp

set_option maxHeartbeats 32000000
/-! The law. -/
namespace Rp
open PySem PySem.Spec PyProof.Rows L2 TL StX
def spLaw (K : PySem.W.Frag) : Sp := fun vs H Q _ => ∃ (a : Addr) (ns : List Int), vs = [.ref a] ∧ SqL K H a (ns.map V.int) ∧ ns.length ≤ 63 ∧ ∀ H', Q (.bl true) H'
theorem catE_ok {K : PySem.W.Frag} {H : Hp} {a b : Addr} {xs ys : List V} {Q : VK} (ha : H a = some (.tup xs)) (hb : H b = some (.tup ys)) (ny : ys ≠ []) (len : xs.length + ys.length ≤ sizeLine)
    (q : ∀ (p : Addr) (H' : Hp), H' p = some (.tup (xs ++ ys)) → Same H H' → Q (.ref p) H') : rCatE K (.ref a) (.ref b) H Q := by
  refine ⟨a, b, xs, ys, rfl, rfl, .inl (.inl ha), .inl (.inl hb), len, fun e => ?_, fun _ e => absurd e ny, fun _ _ p hp => q p _ upd_same (same_new hp _)⟩
  subst e
  exact q b H hb (Same.refl H)
def teCount : TE := tIf (tAnd (tTest (tOp rEq (tVar 1) (tC (.int 0)))) (tTest (tOp rEq (tCall spTake [] E0 (tCons (tVar 2) (tCons (tC (.int 4)) tNil))) (tC (.int 0)))))
  (tC (.int 29)) (tCall spTake [] E0 (tCons (tVar 2) (tCons (tC (.int 13)) tNil)))
theorem count_ok {H : Hp} {b : Addr} {j : Nat} {k : Int} {x0 : Option V} {r : List (Option V)} {Q : VK} (B : BoxAt H b j) (hj : j + 2 ≤ 1000000)
    (q : ∀ (n : Nat) (H' : Hp), n ≤ 29 → BoxAt H' b (j + 2) → But b H H' → Q (.int (n : Nat)) H') : teCount (x0 :: some (.int k) :: some (.ref b) :: r) H Q := by
  unfold teCount
  have thirteen : ∀ (H2 : Hp) (j2 : Nat), BoxAt H2 b j2 → j2 ≤ j + 1 → But b H H2 → tCall spTake [] E0 (tCons (tVar 2) (tCons (tC (.int 13)) tNil)) (x0 :: some (.int k) :: some (.ref b) :: r) H2 Q := by
    intro H2 j2 B2 le o2
    refine ⟨_, rfl, b, _, j2, rfl, B2, by omega, by decide, by decide, fun z H3 z0 z1 B3 o3 => ?_⟩
    obtain ⟨n, rfl⟩ := Int.eq_ofNat_of_zero_le z0
    exact q n H3 (by omega) (B3.more (by omega)) (o2.trans o3)
  refine ⟨_, rfl, rfl, decide (V.int k = V.int 0), rfl, ?_⟩
  by_cases h0 : V.int k = V.int 0
  · rw [decide_eq_true h0]
    refine iteT ⟨_, rfl, b, _, j, rfl, B, by omega, by decide, by decide, fun z H3 z0 z1 B3 o3 => ⟨rfl, decide (V.int z = V.int 0), rfl, ?_⟩⟩
    by_cases h1 : V.int z = V.int 0
    · rw [decide_eq_true h1]
      exact iteT (q 29 H3 (by decide) (B3.more (by omega)) o3)
    · rw [decide_eq_false h1]
      exact iteF (thirteen H3 _ B3 (by omega) o3)
  · rw [decide_eq_false h0]
    exact iteF (iteF (thirteen H j B (by omega) fun a o h _ => h))
section
variable {P : Program} {w : World} {K : PySem.W.Frag} {mg : Str → Option Value} {base : Heap}
abbrev NLw : List Str := ["_law_script", "_law_k", "_law_box_here", "_law_words", "_law_shapes_here", "_law_count", "_law_steps", "_law_charts", "_law_chart"]
theorem scLaw : FnScope NLw ["_law_script"] (defScope sLaw) := ⟨rfl, rfl, rfl, by decide +kernel, rfl, by decide +kernel, by decide +kernel⟩
theorem ok_law {f fB fN fSh fT fWi fSy fK fBd fR : Addr} {fd dB dN dSh dT dWi dSy dK dBd dR : FuncData} (F : Fun K "law" "law" sLaw f fd)
    (GB : FnOk P w K mg base CX0 1 fB dB ["_law_script", "_law_k"] (spBox K)) (kB : PySem.W.keepIn K (.ref fB) = true) (bB : Binds K dB ["_law_script", "_law_k"] []) (mB : mg "_law_box" = some (.ref fB))
    (GN : FnOk P w K mg base CX0 2 fN dN ["_law_box_here", "_law_count"] spWords) (kN : PySem.W.keepIn K (.ref fN) = true) (bN : Binds K dN ["_law_box_here", "_law_count"] []) (mN : mg "_law_names" = some (.ref fN))
    (GSh : FnOk P w K mg base CX0 2 fSh dSh ["_law_box_here", "_law_names_here"] spShapes) (kSh : PySem.W.keepIn K (.ref fSh) = true) (bSh : Binds K dSh ["_law_box_here", "_law_names_here"] []) (mSh : mg "_law_shapes" = some (.ref fSh))
    (GT : FnOk P w K mg base CX0 1 fT dT ["_law_box_here", "_law_reach"] spTake) (kT : PySem.W.keepIn K (.ref fT) = true) (bT : Binds K dT ["_law_box_here", "_law_reach"] []) (mT : mg "_law_take" = some (.ref fT))
    (GWi : FnOk P w K mg base CX0 8 fWi dWi ["_law_box_here", "_law_words", "_law_shapes_here", "_law_count"] spWild) (kWi : PySem.W.keepIn K (.ref fWi) = true) (bWi : Binds K dWi ["_law_box_here", "_law_words", "_law_shapes_here", "_law_count"] []) (mWi : mg "_law_wild_steps" = some (.ref fWi))
    (GSy : FnOk P w K mg base CX0 7 fSy dSy ["_law_box_here", "_law_shapes_here", "_law_names_here", "_law_pool", "_law_count"] spSayingL) (kSy : PySem.W.keepIn K (.ref fSy) = true) (bSy : Binds K dSy ["_law_box_here", "_law_shapes_here", "_law_names_here", "_law_pool", "_law_count"] []) (mSy : mg "_law_saying" = some (.ref fSy))
    (GK : FnOk P w K mg base CX0 1 fK dK ["_law_names_here"] spCharts) (kK : PySem.W.keepIn K (.ref fK) = true) (bK : Binds K dK ["_law_names_here"] []) (mK : mg "_law_known_charts" = some (.ref fK))
    (GBd : FnOk P w K mg base CX0 1 fBd dBd ["_law_names_here"] spCharts) (kBd : PySem.W.keepIn K (.ref fBd) = true) (bBd : Binds K dBd ["_law_names_here"] []) (mBd : mg "_law_bad_charts" = some (.ref fBd))
    (GR : GnOk P w K mg base 65 fR dR ["_law_chart"] spRight) (kR : PySem.W.keepIn K (.ref fR) = true) (bR : Binds K dR ["_law_chart"] []) (mR : mg "_law_right" = some (.ref fR))
    (mRange : mg "range" = none) (mMax : mg "max" = none) (mMin : mg "min" = none) (mLen : mg "len" = none) : GnOk P w K mg base 66 f fd ["_law_script"] (spLaw K) := by
  refine gok F scLaw (fun vs H Q E h => ?_) (fun cdv A outer s H vs Q E hg hr h => ?_)
  · obtain ⟨a, ns, rfl, _⟩ := h
    rfl
  obtain ⟨a, ns, rfl, hS, hl, q⟩ := h
  have r1 : Room 1 _ := hr.mono (by decide)
  have r2 : Room 2 _ := hr.mono (by decide)
  have r7 : Room 7 _ := hr.mono (by decide)
  have r8 : Room 8 _ := hr.mono (by decide)
  refine ⟨_, pss_cons (ps_for PassesOwn.never rfl (pi_range1 rfl mRange (pa_cons (pe_callB (call_max2 rfl) (by rfl) mMax (by decide +kernel) (pa_cons pe_int (pa_cons (pe_callB (call_min2 rfl) (by rfl) mMin (by decide +kernel) (pa_cons pe_int (pa_cons (pe_callB call_len_seq (by rfl) mLen PySem.boot_len (pa_cons (pv 0) pa_nil)) pa_nil))) pa_nil))) pa_nil)) (pg_name (i := 1) scLaw.nd rfl (Or.inl rfl))
      (pss_cons (ps_set (i := 2) scLaw.nd rfl (Or.inl rfl) (pe_call GB r1 rfl mB kB bB .nil pass0 (pa_cons (pv 0) (pa_cons (pv 1) pa_nil))))
      (pss_cons (ps_set (i := 3) scLaw.nd rfl (Or.inl rfl) (pe_call GN r2 rfl mN kN bN .nil pass0 (pa_cons (pv 2) (pa_cons pe_int pa_nil))))
      (pss_cons (ps_set (i := 4) scLaw.nd rfl (Or.inl rfl) (pe_call GSh r2 rfl mSh kSh bSh .nil pass0 (pa_cons (pv 2) (pa_cons (pv 3) pa_nil))))
      (pss_cons (ps_set (i := 5) scLaw.nd rfl (Or.inl rfl) (pe_ifExp (PW.pt (pw_and (pt_cmpR op_eq (pv 1) pe_int (nomark _)) (pw_and1 (pt_cmpR op_eq (pe_call GT r1 rfl mT kT bT .nil pass0 (pa_cons (pv 2) (pa_cons pe_int pa_nil))) pe_int (nomark _)))))
        pe_int (pe_call GT r1 rfl mT kT bT .nil pass0 (pa_cons (pv 2) (pa_cons pe_int pa_nil)))))
      (pss_cons (ps_set (i := 6) scLaw.nd rfl (Or.inl rfl) (pe_op op_catE (pe_call GWi r8 rfl mWi kWi bWi .nil pass0 (pa_cons (pv 2) (pa_cons (pv 3) (pa_cons (pv 4) (pa_cons (pv 5) pa_nil)))))
        (pe_tup (pa_cons (pe_tup (pa_cons pe_str (pa_cons (pe_call GT r1 rfl mT kT bT .nil pass0 (pa_cons (pv 2) (pa_cons (pe_op op_pow pe_int pe_int) pa_nil))) pa_nil))) pa_nil))))
      (pss_cons (ps_set (i := 7) scLaw.nd rfl (Or.inl rfl) (pe_lst (pa_cons (pe_tup (pa_cons (pe_call GSy r7 rfl mSy kSy bSy .nil pass0 (pa_cons (pv 2) (pa_cons (pv 4) (pa_cons (pv 3) (pa_cons (pe_lst (pa_cons pe_int (pa_cons pe_int (pa_cons pe_int pa_nil)))) (pa_cons pe_int pa_nil)))))) (pa_cons (pv 6) pa_nil)))
        (pa_cons (pe_tup (pa_cons (pe_tup (pa_cons (pe_tup pa_nil) (pa_cons (pe_tup (pa_cons (pe_ix ix_list (pv 3) pe_int (fun _ _ => rfl)) (pa_cons pe_int pa_nil))) pa_nil))) (pa_cons (pe_tup pa_nil) pa_nil))) pa_nil))))
      (pss_one (ps_for PassesOwn.never rfl (pi_list (pe_op op_cat (pe_op op_cat (pv 7) (pe_call GK r1 rfl mK kK bK .nil pass0 (pa_cons (pv 3) pa_nil))) (pe_call GBd r1 rfl mBd kBd bBd .nil pass0 (pa_cons (pv 3) pa_nil)))) (pg_name (i := 8) scLaw.nd rfl (Or.inl rfl))
        (pss_one (ps_if (pt_not (pt_val (pe_callG GR hg hr rfl mR kR bR (pa_cons (pv 8) pa_nil)))) (pss_one (ps_ret pe_bl)) pss_nil)))))))))))
    (pss_one (ps_ret pe_bl)), ?_⟩
  have big : (10000 : Nat) ≤ sizeLine := by decide
  have lim : ∀ n : Int, 0 ≤ n → 0 ≤ (if (if n < 5 then n else 5) > (1 : Int) then (if n < 5 then n else 5) else 1) ∧ (if (if n < 5 then n else 5) > (1 : Int) then (if n < 5 then n else 5) else 1) ≤ 5 := by
    intro n hn
    split <;> split <;> omega
  have lim2 := lim (((ns.map V.int).length : Nat) : Int) (by omega)
  refine ⟨_, rfl, a, _, rfl, .inl hS, _, _, rfl, _, _, rfl, _, rfl, by omega, by omega, for_range (lo := 0) (fun i σ H2 => ∃ (x1 x2 x3 x4 x5 x6 x7 x8 : Option V), σ = [some (.ref a), x1, x2, x3, x4, x5, x6, x7, x8] ∧ Same H H2)
    ⟨_, _, _, _, _, _, _, _, rfl, Same.refl H⟩ ?_ (fun σ H2 ⟨_, _, _, _, _, _, _, _, e, _⟩ => q H2)⟩
  rintro i σ H2 hi ⟨x1, x2, x3, x4, x5, x6, x7, x8, rfl, s2⟩
  have i5 : (i : Int) < 5 := by omega
  clear lim lim2
  -- the box, the names, the shapes
  refine ⟨_, rfl, _, rfl, a, ns, _, rfl, s2.seq hS, hl, by omega, by omega, fun b H3 hb B3 s3 => ?_⟩
  have fresh : ∀ {H' : Hp}, But b H3 H' → Same H H' := fun o x u z => o _ _ (s3 _ _ (s2 _ _ z)) (ne_of_none (s2 _ _ z) hb)
  refine ⟨_, rfl, b, _, rfl, B3, by decide, fun pw ws H4 hpw0 hpw wl wo wnd B4 o4 => ?_⟩
  have pwb : pw ≠ b := ne_box B3 hpw0
  refine ⟨_, rfl, _, rfl, b, pw, ws, _, rfl, B4, hpw, pwb, wl, by decide, fun d kvs H5 hd0 hd5 sh B5 o5 => ?_⟩
  have hpw5 := o5 _ _ hpw pwb
  have o35 := o4.trans o5
  obtain ⟨w1, w2, w3, w4, rfl⟩ : ∃ w1 w2 w3 w4, ws = [w1, w2, w3, w4] := by
    match ws, wl with
    | [w1, w2, w3, w4], _ => exact ⟨w1, w2, w3, w4, rfl⟩
  have n23 : w2 ≠ w3 := by
    intro e
    rw [e] at wnd
    simp at wnd
  have n1 := wo w1 (by simp)
  have n2 := wo w2 (by simp)
  have n3 := wo w3 (by simp)
  have n4 := wo w4 (by simp)
  -- the count
  refine seq_asg (count_ok B5 (by decide) fun n H6 n29 B6 o6 => ?_)
  have db : d ≠ b := ne_boxT B5 hd5 (by intro xs e; cases e)
  have hd6 := o6 _ _ hd5 db
  have hpw6 := o6 _ _ hpw5 pwb
  have o36 := o35.trans o6
  clear o4 o5 o6 o35
  -- the steps
  refine ⟨_, rfl, _, rfl, _, rfl, _, rfl, b, d, pw, _, kvs, _, n, rfl, B6, hd6, sh, hpw6, pwb, wo, wl, n29, by decide, fun gw xs sts H7 hg7 A7 so7 sl7 B7 o7 => ?_⟩
  refine ⟨_, rfl, _, _, rfl, rfl, ⟨by decide, by decide, by decide⟩, b, _, _, rfl, B7, by decide, by decide, by decide, fun r H8 r0 r1' B8 o8 => ⟨(by show 2 ≤ sizeLine; decide), fun t ht => ⟨(by show 1 ≤ sizeLine; decide), fun u hu => ?_⟩⟩⟩
  obtain ⟨rn, rfl⟩ := Int.eq_ofNat_of_zero_le r0
  have rn9 : rn ≤ 9999999999 := by
    have : ((10 : Int) ^ (9 : Int).toNat) = 1000000000 := by decide
    omega
  have gwb : gw ≠ b := ne_boxT B7 hg7 (by intro xs e; cases e)
  have s9 := same_new ht (.tup [V.str "use", .int (rn : Nat)])
  have s10 := same_new hu (.tup [V.ref t])
  have xl7 := A7.len
  have hd10 := s10 _ _ (s9 _ _ (o8 _ _ (o7 _ _ hd6 db) db))
  have hpw10 := s10 _ _ (s9 _ _ (o8 _ _ (o7 _ _ hpw6 pwb) pwb))
  have B10 := (B8.same s9).same s10
  have o10 := o36.trans (o7.trans (o8.trans ((but_of s9).trans (but_of s10))))
  have hg10 := s10 _ _ (s9 _ _ (keepB B7 o8 _ _ hg7))
  have A10 : StsAt (upd (upd H8 t (.tup [V.str "use", .int (rn : Nat)])) u (.tup [V.ref t])) xs sts := ((A7.mono (keepB B7 o8)).same s9).same s10
  have T10 : StAt (upd (upd H8 t (.tup [V.str "use", .int (rn : Nat)])) u (.tup [V.ref t])) (.ref t) (.use rn) := ⟨t, _, rfl, s10 _ _ upd_same, rfl⟩
  have hu10 : (upd (upd H8 t (.tup [V.str "use", .int (rn : Nat)])) u (.tup [V.ref t])) u = some (.tup [V.ref t]) := upd_same
  generalize upd (upd H8 t (.tup [V.str "use", .int (rn : Nat)])) u (.tup [V.ref t]) = H10 at hd10 hpw10 B10 o10 hg10 A10 T10 hu10 ⊢
  refine catE_ok hg10 hu10 (by simp) (by simp; omega) fun vq H11 hq11 s11 => ?_
  have SP : StsAt H11 (xs ++ [V.ref t]) (sts ++ [.use rn]) := (A10.append (ys := [V.ref t]) (bs := [.use rn]) ⟨T10, trivial⟩).same s11
  have sok : ∀ st ∈ sts ++ [St.use rn], StOk st := by
    intro st hst
    rcases List.mem_append.mp hst with hst | hst
    · exact so7 st hst
    · obtain rfl : st = .use rn := by simpa using hst
      exact rn9
  have B11 := B10.same s11
  have hd11 := s11 _ _ hd10
  have hpw11 := s11 _ _ hpw10
  have o11 := o10.trans (but_of s11)
  clear o36 o7 o8 s9 s10 A7 B6 B7 B8 hg10 hu10 A10 T10 B10 hd10 hpw10 o10 hd6 hpw6 hd5 hpw5 hpw B5 B4
  -- the charts
  refine ⟨_, rfl, _, rfl, _, rfl, (by show 3 ≤ sizeLine; decide), fun pp hpp => ?_⟩
  have s12 := same_new hpp (.lst poolV)
  have B12 := B11.same s12
  have W12 : Wrd (upd H11 pp (.lst poolV)) b d pw pp [w1, w2, w3, w4] kvs := ⟨s12 _ _ hd11, sh, s12 _ _ hpw11, upd_same, pwb, ne_box B11 hpp, wo, rfl⟩
  refine ⟨b, d, pw, pp, _, kvs, _, 3, rfl, B12, W12, by decide, by decide, fun vS sy H13 S13 ok13 B13 o13 => ?_⟩
  have hpw13 := o13 _ _ W12.hp pwb
  have SP13 : StPt H13 (.ref vq) (sts ++ [.use rn]) := ⟨vq, _, rfl, keepB B12 o13 _ _ (s12 _ _ hq11), SP.mono fun a zs z => keepB B12 o13 _ _ (s12 _ _ z)⟩
  have s13 : Same H H13 := fresh (o11.trans ((but_of s12).trans o13))
  refine ⟨_, rfl, (by show 2 ≤ sizeLine; decide), fun c1 hc1 => ?_⟩
  have t1 := same_new hc1 (.tup [vS, V.ref vq])
  have C1 : ChAt (upd H13 c1 (.tup [vS, V.ref vq])) (.ref c1) ⟨sy, sts ++ [.use rn]⟩ := by
    obtain ⟨q', zs, e, h1, h2⟩ := SP13
    cases e
    exact ⟨c1, vq, vS, zs, rfl, upd_same, S13.same t1, t1 _ _ h1, h2.same t1⟩
  have ok1 : ChOk ⟨sy, sts ++ [.use rn]⟩ := ⟨ok13, sok, by simp; omega⟩
  have hpw14 := t1 _ _ hpw13
  have s14 := s13.trans t1
  generalize upd H13 c1 (.tup [vS, V.ref vq]) = H14 at C1 hpw14 s14 ⊢
  refine ⟨(by show 0 ≤ sizeLine; decide), fun e1 he1 => ?_⟩
  have t2 := same_new he1 (.tup ([] : List V))
  refine ⟨_, rfl, pw, _, _, _, rfl, rfl, .inl (.inl (t2 _ _ hpw14)), at_of (j := 0) rfl rfl, (by show 2 ≤ sizeLine; decide), fun e2 he2 => ?_⟩
  have t3 := same_new he2 (.tup [V.str w1, .int 0])
  refine ⟨(by show 2 ≤ sizeLine; decide), fun e3 he3 => ?_⟩
  have t4 := same_new he3 (.tup [V.ref e1, .ref e2])
  refine ⟨(by show 0 ≤ sizeLine; decide), fun e4 he4 => ?_⟩
  have t5 := same_new he4 (.tup ([] : List V))
  refine ⟨(by show 2 ≤ sizeLine; decide), fun c2 hc2 => ?_⟩
  have t6 := same_new hc2 (.tup [V.ref e3, .ref e4])
  refine ⟨(by show 2 ≤ sizeLine; decide), fun l hl0 => ?_⟩
  have t7 := same_new hl0 (.lst [V.ref c1, .ref c2])
  have t56 := t5.trans (t6.trans t7)
  have t46 := t4.trans t56
  have t36 := t3.trans t46
  have t26 := t2.trans t36
  have C2 : ChAt (upd (upd (upd (upd (upd (upd H14 e1 (.tup [])) e2 (.tup [V.str w1, .int 0])) e3 (.tup [V.ref e1, .ref e2])) e4 (.tup [])) c2 (.tup [V.ref e3, .ref e4])) l (.lst [V.ref c1, .ref c2])) (.ref c2) ⟨⟨[], ⟨w1, [.v 0]⟩⟩, []⟩ :=
    ⟨c2, e4, .ref e3, [], rfl, t7 _ _ upd_same, ⟨e3, e1, .ref e2, [], rfl, t56 _ _ upd_same, t36 _ _ upd_same, trivial, ⟨e2, [.int 0], rfl, t46 _ _ upd_same, ⟨.v 0, trivial⟩⟩⟩, (t6.trans t7) _ _ upd_same, trivial⟩
  have ok2 : ChOk ⟨⟨[], ⟨w1, [.v 0]⟩⟩, []⟩ := ⟨⟨AtsOk.mk (by simp) (by intro a ha; cases ha), by simp, at_ok n1 (by decide) (by decide) (by simp [Tm.small, Tm.nums, Tm.size])⟩, (fun st h => by cases h), by simp⟩
  have C1' := C1.same t26
  have hpw15 := t26 _ _ hpw14
  have s15 := s14.trans t26
  have hl15 : (upd (upd (upd (upd (upd (upd H14 e1 (.tup [])) e2 (.tup [V.str w1, .int 0])) e3 (.tup [V.ref e1, .ref e2])) e4 (.tup [])) c2 (.tup [V.ref e3, .ref e4])) l (.lst [V.ref c1, .ref c2])) l = some (.lst [V.ref c1, .ref c2]) := upd_same
  generalize upd (upd (upd (upd (upd (upd H14 e1 (.tup [])) e2 (.tup [V.str w1, .int 0])) e3 (.tup [V.ref e1, .ref e2])) e4 (.tup [])) c2 (.tup [V.ref e3, .ref e4])) l (.lst [V.ref c1, .ref c2]) = H15 at C1' C2 hpw15 s15 hl15 ⊢
  clear t1 t2 t3 t4 t5 t6 t7 t56 t46 t36 t26 C1 hpw14 s14 SP13 s13 hpw13 W12 B12 s12 SP
  generalize hc1' : (⟨sy, sts ++ [.use rn]⟩ : Ch) = ch1 at C1' ok1
  generalize hc2' : (⟨⟨[], ⟨w1, [.v 0]⟩⟩, []⟩ : Ch) = ch2 at C2 ok2
  -- all of them
  refine ⟨_, rfl, _, rfl, pw, w1, w2, w3, w4, rfl, hpw15, n1, n2, n3, n4, n23, fun lk xk ck H16 hk16 Ck okk fewk s16 => ?_⟩
  have lk4 := Ck.len
  refine ⟨l, lk, _, _, rfl, rfl, s16 _ _ hl15, hk16, by simp; omega, fun m hm => ?_⟩
  have s17 := same_new hm (.lst ([V.ref c1, .ref c2] ++ xk))
  have hm17 : (upd H16 m (.lst ([V.ref c1, .ref c2] ++ xk))) m = some (.lst ([V.ref c1, .ref c2] ++ xk)) := upd_same
  generalize upd H16 m (.lst ([V.ref c1, .ref c2] ++ xk)) = H17 at s17 hm17 ⊢
  have s1517 := s16.trans s17
  refine ⟨_, rfl, pw, w1, w2, w3, w4, rfl, s1517 _ _ hpw15, n1, n2, n3, n4, n23, fun lb xb cb H18 hb18 Cb okb fewb s18 => ?_⟩
  have lb4 := Cb.len
  refine ⟨m, lb, _, _, rfl, rfl, s18 _ _ hm17, hb18, by simp; omega, fun m2 hm2 => ?_⟩
  have s19 := same_new hm2 (.lst ([V.ref c1, .ref c2] ++ xk ++ xb))
  have hm19 : (upd H18 m2 (.lst ([V.ref c1, .ref c2] ++ xk ++ xb))) m2 = some (.lst ([V.ref c1, .ref c2] ++ xk ++ xb)) := upd_same
  have s1519 := s1517.trans (s18.trans s19)
  have CS : ChsAt (upd H18 m2 (.lst ([V.ref c1, .ref c2] ++ xk ++ xb))) ([V.ref c1, .ref c2] ++ xk ++ xb) ([ch1, ch2] ++ ck ++ cb) :=
    ChsAt.append (ChsAt.append ⟨C1'.same s1519, C2.same s1519, trivial⟩ (Ck.mono fun a zs z => (s17.trans (s18.trans s19)) _ _ z)) (Cb.mono fun a zs z => s19 _ _ z)
  have OKS : ∀ c ∈ [ch1, ch2] ++ ck ++ cb, ChOk c := by
    intro c hc
    rcases List.mem_append.mp hc with hc | hc
    · rcases List.mem_append.mp hc with hc | hc
      · simp only [List.mem_cons, List.not_mem_nil, or_false] at hc
        rcases hc with rfl | rfl
        · exact ok1
        · exact ok2
      · exact okk c hc
    · exact okb c hc
  have s0 := s15.trans s1519
  generalize upd H18 m2 (.lst ([V.ref c1, .ref c2] ++ xk ++ xb)) = H19 at hm19 CS s0 ⊢
  refine ⟨m2, rfl, ⟨_, .inl (.inl hm19)⟩, for_list (K := K) (a := m2) (xs := [V.ref c1, .ref c2] ++ xk ++ xb) (fun e σ H20 => ∃ (y1 y2 y3 y4 y5 y6 y7 y8 : Option V), σ = [some (.ref a), y1, y2, y3, y4, y5, y6, y7, y8] ∧ Same H19 H20)
    ⟨_, _, _, _, _, _, _, _, rfl, Same.refl _⟩ (fun e σ H20 _ ⟨_, _, _, _, _, _, _, _, _, h⟩ => .inl (.inl (h _ _ hm19))) ?_ (fun σ H20 ⟨_, _, _, _, _, _, _, _, e, h⟩ => ⟨_, _, _, _, _, _, _, _, e, s0.trans h⟩)⟩
  rintro e x σ H20 he ⟨y1, y2, y3, y4, y5, y6, y7, y8, rfl, s20⟩
  obtain ⟨c, hc, C⟩ := CS.get he
  exact ⟨_, rfl, x, c, rfl, C.same s20, OKS c (List.mem_of_getElem? hc), fun H21 s21 => ⟨true, rfl, iteF ⟨_, _, _, _, _, _, _, _, rfl, s20.trans s21⟩⟩⟩
end
end Rp

namespace Rp
open PySem L2
theorem all_mk {l : PySem.W.OpenLaw} {w : World} {K : PySem.W.Frag} {h : Heap} {mg : Str → Option Value} {fa f1 f2 f3 f4 f5 f6 f7 f8 f9 f10 f11 f12 f13 f14 f15 f16 f17 f18 f19 f20 f21 f22 f23 f24 f25 f26 f27 f28 f29 f30 f31 f32 f33 f34 f35 f36 f37 f38 f39 f40 f41 f42 f43 f44 f45 f46 f47 f48 f49 f50 f51 f52 f53 f54 f55 f56 f57 : Addr} (X : K.In h) (G : h.Ns mainGlobals mg) (hfa : mg "law" = some (.ref fa))
    {od1 an1 od2 an2 od3 an3 od4 an4 od5 an5 od6 an6 od7 an7 od8 an8 od9 an9 od10 an10 od11 an11 od12 an12 od13 an13 od14 an14 od15 an15 od16 an16 od17 an17 od18 an18 od19 an19 od20 an20 od21 an21 od22 an22 od23 an23 od24 an24 od25 an25 od26 an26 od27 an27 od28 an28 od29 an29 od30 an30 od31 an31 od32 an32 od33 an33 od34 an34 od35 an35 od36 an36 od37 an37 od38 an38 od39 an39 od40 an40 od41 an41 od42 an42 od43 an43 od44 an44 od45 an45 od46 an46 od47 an47 od48 an48 od49 an49 od50 an50 od51 an51 od52 an52 od53 an53 od54 an54 od55 an55 od56 an56 od57 an57 : Option Addr} {sl1 sl2 sl3 sl4 sl5 sl6 sl7 sl8 sl9 sl10 sl11 sl12 sl13 sl14 sl15 sl16 sl17 sl18 sl19 sl20 sl21 sl22 sl23 sl24 sl25 sl26 sl27 sl28 sl29 sl30 sl31 sl32 sl33 sl34 sl35 sl36 sl37 sl38 sl39 sl40 sl41 sl42 sl43 sl44 sl45 sl46 sl47 sl48 sl49 sl50 sl51 sl52 sl53 sl54 sl55 sl56 sl57 : Array (Option Value)} {oc1 kV1 dc1 pm1 cd1 ct1 oc2 kV2 dc2 pm2 cd2 ct2 oc3 kV3 dc3 pm3 cd3 ct3 oc4 kV4 dc4 pm4 cd4 ct4 oc5 kV5 dc5 pm5 cd5 ct5 oc6 kV6 dc6 pm6 cd6 ct6 oc7 kV7 dc7 pm7 cd7 ct7 oc8 kV8 dc8 pm8 cd8 ct8 oc9 kV9 dc9 pm9 cd9 ct9 oc10 kV10 dc10 pm10 cd10 ct10 oc11 kV11 dc11 pm11 cd11 ct11 oc12 kV12 dc12 pm12 cd12 ct12 oc13 kV13 dc13 pm13 cd13 ct13 oc14 kV14 dc14 pm14 cd14 ct14 oc15 kV15 dc15 pm15 cd15 ct15 oc16 kV16 dc16 pm16 cd16 ct16 oc17 kV17 dc17 pm17 cd17 ct17 oc18 kV18 dc18 pm18 cd18 ct18 oc19 kV19 dc19 pm19 cd19 ct19 oc20 kV20 dc20 pm20 cd20 ct20 oc21 kV21 dc21 pm21 cd21 ct21 oc22 kV22 dc22 pm22 cd22 ct22 oc23 kV23 dc23 pm23 cd23 ct23 oc24 kV24 dc24 pm24 cd24 ct24 oc25 kV25 dc25 pm25 cd25 ct25 oc26 kV26 dc26 pm26 cd26 ct26 oc27 kV27 dc27 pm27 cd27 ct27 oc28 kV28 dc28 pm28 cd28 ct28 oc29 kV29 dc29 pm29 cd29 ct29 oc30 kV30 dc30 pm30 cd30 ct30 oc31 kV31 dc31 pm31 cd31 ct31 oc32 kV32 dc32 pm32 cd32 ct32 oc33 kV33 dc33 pm33 cd33 ct33 oc34 kV34 dc34 pm34 cd34 ct34 oc35 kV35 dc35 pm35 cd35 ct35 oc36 kV36 dc36 pm36 cd36 ct36 oc37 kV37 dc37 pm37 cd37 ct37 oc38 kV38 dc38 pm38 cd38 ct38 oc39 kV39 dc39 pm39 cd39 ct39 oc40 kV40 dc40 pm40 cd40 ct40 oc41 kV41 dc41 pm41 cd41 ct41 oc42 kV42 dc42 pm42 cd42 ct42 oc43 kV43 dc43 pm43 cd43 ct43 oc44 kV44 dc44 pm44 cd44 ct44 oc45 kV45 dc45 pm45 cd45 ct45 oc46 kV46 dc46 pm46 cd46 ct46 oc47 kV47 dc47 pm47 cd47 ct47 oc48 kV48 dc48 pm48 cd48 ct48 oc49 kV49 dc49 pm49 cd49 ct49 oc50 kV50 dc50 pm50 cd50 ct50 oc51 kV51 dc51 pm51 cd51 ct51 oc52 kV52 dc52 pm52 cd52 ct52 oc53 kV53 dc53 pm53 cd53 ct53 oc54 kV54 dc54 pm54 cd54 ct54 oc55 kV55 dc55 pm55 cd55 ct55 oc56 kV56 dc56 pm56 cd56 ct56 oc57 kV57 dc57 pm57 cd57 ct57 : Value}
    {fS s1 s2 s3 : Addr} {tk tk2 tk3 tk4 tk5 tk6 tk7 tk8 : Tok} {odS od1_ od2_ od3_ : Option Addr} {nS n1_ n2_ n3_ : Nat} {slS sl1_ sl2_ sl3_ : Array (Option Value)} {t1 t2 t3 t4 t5 t6 : Tok}
    (a1 : PySem.W.nsIn K mainGlobals "is_number" = some (some (.ref f1))) (l1 : K.lookup f1 = some ⟨oc1, od1, .func (PySem.W.fnOf "is_number" "is_number" (defArgs sNumber) (defBody sNumber) (defScope sNumber) .none kV1 dc1 pm1 an1 cd1 ct1), sl1⟩) (c1 : PySem.W.codeIn K cd1 "is_number" = true) (k1 : PySem.W.keepIn K (.ref f1) = true)
    (a2 : PySem.W.nsIn K mainGlobals "is_place" = some (some (.ref f2))) (l2 : K.lookup f2 = some ⟨oc2, od2, .func (PySem.W.fnOf "is_place" "is_place" (defArgs sPlace) (defBody sPlace) (defScope sPlace) .none kV2 dc2 pm2 an2 cd2 ct2), sl2⟩) (c2 : PySem.W.codeIn K cd2 "is_place" = true) (k2 : PySem.W.keepIn K (.ref f2) = true)
    (a3 : PySem.W.nsIn K mainGlobals "is_variable" = some (some (.ref f3))) (l3 : K.lookup f3 = some ⟨oc3, od3, .func (PySem.W.fnOf "is_variable" "is_variable" (defArgs sVariable) (defBody sVariable) (defScope sVariable) .none kV3 dc3 pm3 an3 cd3 ct3), sl3⟩) (c3 : PySem.W.codeIn K cd3 "is_variable" = true) (k3 : PySem.W.keepIn K (.ref f3) = true)
    (a4 : PySem.W.nsIn K mainGlobals "_has_shape" = some (some (.ref f4))) (l4 : K.lookup f4 = some ⟨oc4, od4, .func (PySem.W.fnOf "_has_shape" "_has_shape" (defArgs sShape) (defBody sShape) (defScope sShape) .none kV4 dc4 pm4 an4 cd4 ct4), sl4⟩) (c4 : PySem.W.codeIn K cd4 "_has_shape" = true) (k4 : PySem.W.keepIn K (.ref f4) = true)
    (a5 : PySem.W.nsIn K mainGlobals "is_term" = some (some (.ref f5))) (l5 : K.lookup f5 = some ⟨oc5, od5, .func (PySem.W.fnOf "is_term" "is_term" (defArgs sTerm) (defBody sTerm) (defScope sTerm) .none kV5 dc5 pm5 an5 cd5 ct5), sl5⟩) (c5 : PySem.W.codeIn K cd5 "is_term" = true) (k5 : PySem.W.keepIn K (.ref f5) = true)
    (a6 : PySem.W.nsIn K mainGlobals "parts_terms" = some (some (.ref f6))) (l6 : K.lookup f6 = some ⟨oc6, od6, .func (PySem.W.fnOf "_parts" "_parts" (defArgs sParts) (defBody sParts) (defScope sParts) .none kV6 dc6 pm6 an6 cd6 ct6), sl6⟩) (c6 : PySem.W.codeIn K cd6 "_parts" = true) (k6 : PySem.W.keepIn K (.ref f6) = true)
    (a7 : PySem.W.nsIn K mainGlobals "inside_out" = some (some (.ref f7))) (l7 : K.lookup f7 = some ⟨oc7, od7, .func (PySem.W.fnOf "inside_out" "inside_out" (defArgs sInside) (defBody sInside) (defScope sInside) .none kV7 dc7 pm7 an7 cd7 ct7), sl7⟩) (c7 : PySem.W.codeIn K cd7 "inside_out" = true) (k7 : PySem.W.keepIn K (.ref f7) = true)
    (a8 : PySem.W.nsIn K mainGlobals "fold" = some (some (.ref f8))) (l8 : K.lookup f8 = some ⟨oc8, od8, .func (PySem.W.fnOf "fold" "fold" (defArgs sFold) (defBody sFold) (defScope sFold) .none kV8 dc8 pm8 an8 cd8 ct8), sl8⟩) (c8 : PySem.W.codeIn K cd8 "fold" = true) (k8 : PySem.W.keepIn K (.ref f8) = true)
    (a9 : PySem.W.nsIn K mainGlobals "_is_pair" = some (some (.ref f9))) (l9 : K.lookup f9 = some ⟨oc9, od9, .func (PySem.W.fnOf "_is_pair" "_is_pair" (defArgs sIsPair) (defBody sIsPair) (defScope sIsPair) .none kV9 dc9 pm9 an9 cd9 ct9), sl9⟩) (c9 : PySem.W.codeIn K cd9 "_is_pair" = true) (k9 : PySem.W.keepIn K (.ref f9) = true)
    (a10 : PySem.W.nsIn K mainGlobals "is_binding" = some (some (.ref f10))) (l10 : K.lookup f10 = some ⟨oc10, od10, .func (PySem.W.fnOf "is_binding" "is_binding" (defArgs sIsBinding) (defBody sIsBinding) (defScope sIsBinding) .none kV10 dc10 pm10 an10 cd10 ct10), sl10⟩) (c10 : PySem.W.codeIn K cd10 "is_binding" = true) (k10 : PySem.W.keepIn K (.ref f10) = true)
    (a11 : PySem.W.nsIn K mainGlobals "is_name" = some (some (.ref f11))) (l11 : K.lookup f11 = some ⟨oc11, od11, .func (PySem.W.fnOf "is_name" "is_name" (defArgs sIsName) (defBody sIsName) (defScope sIsName) .none kV11 dc11 pm11 an11 cd11 ct11), sl11⟩) (c11 : PySem.W.codeIn K cd11 "is_name" = true) (k11 : PySem.W.keepIn K (.ref f11) = true)
    (a12 : PySem.W.nsIn K mainGlobals "is_atom" = some (some (.ref f12))) (l12 : K.lookup f12 = some ⟨oc12, od12, .func (PySem.W.fnOf "is_atom" "is_atom" (defArgs sIsAtom) (defBody sIsAtom) (defScope sIsAtom) .none kV12 dc12 pm12 an12 cd12 ct12), sl12⟩) (c12 : PySem.W.codeIn K cd12 "is_atom" = true) (k12 : PySem.W.keepIn K (.ref f12) = true)
    (a13 : PySem.W.nsIn K mainGlobals "_text_of" = some (some (.ref f13))) (l13 : K.lookup f13 = some ⟨oc13, od13, .func (PySem.W.fnOf "_text_of" "_text_of" (defArgs sTextOf) (defBody sTextOf) (defScope sTextOf) .none kV13 dc13 pm13 an13 cd13 ct13), sl13⟩) (c13 : PySem.W.codeIn K cd13 "_text_of" = true) (k13 : PySem.W.keepIn K (.ref f13) = true)
    (a14 : PySem.W.nsIn K mainGlobals "term_text" = some (some (.ref f14))) (l14 : K.lookup f14 = some ⟨oc14, od14, .func (PySem.W.fnOf "term_text" "term_text" (defArgs sTermText) (defBody sTermText) (defScope sTermText) .none kV14 dc14 pm14 an14 cd14 ct14), sl14⟩) (c14 : PySem.W.codeIn K cd14 "term_text" = true) (k14 : PySem.W.keepIn K (.ref f14) = true)
    (a15 : PySem.W.nsIn K mainGlobals "_number_of" = some (some (.ref f15))) (l15 : K.lookup f15 = some ⟨oc15, od15, .func (PySem.W.fnOf "_number_of" "_number_of" (defArgs sNumberOf) (defBody sNumberOf) (defScope sNumberOf) .none kV15 dc15 pm15 an15 cd15 ct15), sl15⟩) (c15 : PySem.W.codeIn K cd15 "_number_of" = true) (k15 : PySem.W.keepIn K (.ref f15) = true)
    (a16 : PySem.W.nsIn K mainGlobals "_from_signs" = some (some (.ref f16))) (l16 : K.lookup f16 = some ⟨oc16, od16, .func (PySem.W.fnOf "_from_signs" "_from_signs" (defArgs sFromSigns) (defBody sFromSigns) (defScope sFromSigns) .none kV16 dc16 pm16 an16 cd16 ct16), sl16⟩) (c16 : PySem.W.codeIn K cd16 "_from_signs" = true) (k16 : PySem.W.keepIn K (.ref f16) = true)
    (a17 : PySem.W.nsIn K mainGlobals "term_or_none" = some (some (.ref f17))) (l17 : K.lookup f17 = some ⟨oc17, od17, .func (PySem.W.fnOf "term_or_none" "term_or_none" (defArgs sTermOrNone) (defBody sTermOrNone) (defScope sTermOrNone) .none kV17 dc17 pm17 an17 cd17 ct17), sl17⟩) (c17 : PySem.W.codeIn K cd17 "term_or_none" = true) (k17 : PySem.W.keepIn K (.ref f17) = true)
    (a18 : PySem.W.nsIn K mainGlobals "binding_text" = some (some (.ref f18))) (l18 : K.lookup f18 = some ⟨oc18, od18, .func (PySem.W.fnOf "binding_text" "binding_text" (defArgs sBindingText) (defBody sBindingText) (defScope sBindingText) .none kV18 dc18 pm18 an18 cd18 ct18), sl18⟩) (c18 : PySem.W.codeIn K cd18 "binding_text" = true) (k18 : PySem.W.keepIn K (.ref f18) = true)
    (a19 : PySem.W.nsIn K mainGlobals "_pair_in" = some (some (.ref f19))) (l19 : K.lookup f19 = some ⟨oc19, od19, .func (PySem.W.fnOf "_pair_in" "_pair_in" (defArgs sPairIn) (defBody sPairIn) (defScope sPairIn) .none kV19 dc19 pm19 an19 cd19 ct19), sl19⟩) (c19 : PySem.W.codeIn K cd19 "_pair_in" = true) (k19 : PySem.W.keepIn K (.ref f19) = true)
    (a20 : PySem.W.nsIn K mainGlobals "binding_or_none" = some (some (.ref f20))) (l20 : K.lookup f20 = some ⟨oc20, od20, .func (PySem.W.fnOf "binding_or_none" "binding_or_none" (defArgs sBindingOrNone) (defBody sBindingOrNone) (defScope sBindingOrNone) .none kV20 dc20 pm20 an20 cd20 ct20), sl20⟩) (c20 : PySem.W.codeIn K cd20 "binding_or_none" = true) (k20 : PySem.W.keepIn K (.ref f20) = true)
    (a21 : PySem.W.nsIn K mainGlobals "atom_text" = some (some (.ref f21))) (l21 : K.lookup f21 = some ⟨oc21, od21, .func (PySem.W.fnOf "atom_text" "atom_text" (defArgs sAtomText) (defBody sAtomText) (defScope sAtomText) .none kV21 dc21 pm21 an21 cd21 ct21), sl21⟩) (c21 : PySem.W.codeIn K cd21 "atom_text" = true) (k21 : PySem.W.keepIn K (.ref f21) = true)
    (a22 : PySem.W.nsIn K mainGlobals "atom_or_none" = some (some (.ref f22))) (l22 : K.lookup f22 = some ⟨oc22, od22, .func (PySem.W.fnOf "atom_or_none" "atom_or_none" (defArgs sAtomOr) (defBody sAtomOr) (defScope sAtomOr) .none kV22 dc22 pm22 an22 cd22 ct22), sl22⟩) (c22 : PySem.W.codeIn K cd22 "atom_or_none" = true) (k22 : PySem.W.keepIn K (.ref f22) = true)
    (a23 : PySem.W.nsIn K mainGlobals "atoms_text" = some (some (.ref f23))) (l23 : K.lookup f23 = some ⟨oc23, od23, .func (PySem.W.fnOf "atoms_text" "atoms_text" (defArgs sAtomsText) (defBody sAtomsText) (defScope sAtomsText) .none kV23 dc23 pm23 an23 cd23 ct23), sl23⟩) (c23 : PySem.W.codeIn K cd23 "atoms_text" = true) (k23 : PySem.W.keepIn K (.ref f23) = true)
    (a24 : PySem.W.nsIn K mainGlobals "atoms_or_nones" = some (some (.ref f24))) (l24 : K.lookup f24 = some ⟨oc24, od24, .func (PySem.W.fnOf "atoms_or_nones" "atoms_or_nones" (defArgs sAtomsOr) (defBody sAtomsOr) (defScope sAtomsOr) .none kV24 dc24 pm24 an24 cd24 ct24), sl24⟩) (c24 : PySem.W.codeIn K cd24 "atoms_or_nones" = true) (k24 : PySem.W.keepIn K (.ref f24) = true)
    (a25 : PySem.W.nsIn K mainGlobals "unlike" = some (some (.ref f25))) (l25 : K.lookup f25 = some ⟨oc25, od25, .func (PySem.W.fnOf "unlike" "unlike" (defArgs sUnlike) (defBody sUnlike) (defScope sUnlike) .none kV25 dc25 pm25 an25 cd25 ct25), sl25⟩) (c25 : PySem.W.codeIn K cd25 "unlike" = true) (k25 : PySem.W.keepIn K (.ref f25) = true)
    (a26 : PySem.W.nsIn K mainGlobals "is_saying" = some (some (.ref f26))) (l26 : K.lookup f26 = some ⟨oc26, od26, .func (PySem.W.fnOf "is_saying" "is_saying" (defArgs sIsSaying) (defBody sIsSaying) (defScope sIsSaying) .none kV26 dc26 pm26 an26 cd26 ct26), sl26⟩) (c26 : PySem.W.codeIn K cd26 "is_saying" = true) (k26 : PySem.W.keepIn K (.ref f26) = true)
    (a27 : PySem.W.nsIn K mainGlobals "saying_text" = some (some (.ref f27))) (l27 : K.lookup f27 = some ⟨oc27, od27, .func (PySem.W.fnOf "saying_text" "saying_text" (defArgs sSayingText) (defBody sSayingText) (defScope sSayingText) .none kV27 dc27 pm27 an27 cd27 ct27), sl27⟩) (c27 : PySem.W.codeIn K cd27 "saying_text" = true) (k27 : PySem.W.keepIn K (.ref f27) = true)
    (a28 : PySem.W.nsIn K mainGlobals "saying_or_none" = some (some (.ref f28))) (l28 : K.lookup f28 = some ⟨oc28, od28, .func (PySem.W.fnOf "saying_or_none" "saying_or_none" (defArgs sSayingOr) (defBody sSayingOr) (defScope sSayingOr) .none kV28 dc28 pm28 an28 cd28 ct28), sl28⟩) (c28 : PySem.W.codeIn K cd28 "saying_or_none" = true) (k28 : PySem.W.keepIn K (.ref f28) = true)
    (a29 : PySem.W.nsIn K mainGlobals "is_step" = some (some (.ref f29))) (l29 : K.lookup f29 = some ⟨oc29, od29, .func (PySem.W.fnOf "is_step" "is_step" (defArgs sIsStep) (defBody sIsStep) (defScope sIsStep) .none kV29 dc29 pm29 an29 cd29 ct29), sl29⟩) (c29 : PySem.W.codeIn K cd29 "is_step" = true) (k29 : PySem.W.keepIn K (.ref f29) = true)
    (a30 : PySem.W.nsIn K mainGlobals "step_text" = some (some (.ref f30))) (l30 : K.lookup f30 = some ⟨oc30, od30, .func (PySem.W.fnOf "step_text" "step_text" (defArgs sStepText) (defBody sStepText) (defScope sStepText) .none kV30 dc30 pm30 an30 cd30 ct30), sl30⟩) (c30 : PySem.W.codeIn K cd30 "step_text" = true) (k30 : PySem.W.keepIn K (.ref f30) = true)
    (a31 : PySem.W.nsIn K mainGlobals "number_or_none" = some (some (.ref f31))) (l31 : K.lookup f31 = some ⟨oc31, od31, .func (PySem.W.fnOf "number_or_none" "number_or_none" (defArgs sNumberOr) (defBody sNumberOr) (defScope sNumberOr) .none kV31 dc31 pm31 an31 cd31 ct31), sl31⟩) (c31 : PySem.W.codeIn K cd31 "number_or_none" = true) (k31 : PySem.W.keepIn K (.ref f31) = true)
    (a32 : PySem.W.nsIn K mainGlobals "parts_charttexts" = some (some (.ref f32))) (l32 : K.lookup f32 = some ⟨oc32, od32, .func (PySem.W.fnOf "_parts" "_parts" (defArgs sPartsC) (defBody sPartsC) (defScope sPartsC) .none kV32 dc32 pm32 an32 cd32 ct32), sl32⟩) (c32 : PySem.W.codeIn K cd32 "_parts" = true) (k32 : PySem.W.keepIn K (.ref f32) = true)
    (a33 : PySem.W.nsIn K mainGlobals "step_or_none" = some (some (.ref f33))) (l33 : K.lookup f33 = some ⟨oc33, od33, .func (PySem.W.fnOf "step_or_none" "step_or_none" (defArgs sStepOr) (defBody sStepOr) (defScope sStepOr) .none kV33 dc33 pm33 an33 cd33 ct33), sl33⟩) (c33 : PySem.W.codeIn K cd33 "step_or_none" = true) (k33 : PySem.W.keepIn K (.ref f33) = true)
    (a34 : PySem.W.nsIn K mainGlobals "chart_text" = some (some (.ref f34))) (l34 : K.lookup f34 = some ⟨oc34, od34, .func (PySem.W.fnOf "chart_text" "chart_text" (defArgs sChartText) (defBody sChartText) (defScope sChartText) .none kV34 dc34 pm34 an34 cd34 ct34), sl34⟩) (c34 : PySem.W.codeIn K cd34 "chart_text" = true) (k34 : PySem.W.keepIn K (.ref f34) = true)
    (a35 : PySem.W.nsIn K mainGlobals "chart_in" = some (some (.ref f35))) (l35 : K.lookup f35 = some ⟨oc35, od35, .func (PySem.W.fnOf "chart_in" "chart_in" (defArgs sChartIn) (defBody sChartIn) (defScope sChartIn) .none kV35 dc35 pm35 an35 cd35 ct35), sl35⟩) (c35 : PySem.W.codeIn K cd35 "chart_in" = true) (k35 : PySem.W.keepIn K (.ref f35) = true)
    (a36 : PySem.W.nsIn K mainGlobals "_law_box" = some (some (.ref f36))) (l36 : K.lookup f36 = some ⟨oc36, od36, .func (PySem.W.fnOf "_law_box" "_law_box" (defArgs sBox) (defBody sBox) (defScope sBox) .none kV36 dc36 pm36 an36 cd36 ct36), sl36⟩) (c36 : PySem.W.codeIn K cd36 "_law_box" = true) (k36 : PySem.W.keepIn K (.ref f36) = true)
    (a37 : PySem.W.nsIn K mainGlobals "_law_take" = some (some (.ref f37))) (l37 : K.lookup f37 = some ⟨oc37, od37, .func (PySem.W.fnOf "_law_take" "_law_take" (defArgs sTake) (defBody sTake) (defScope sTake) .none kV37 dc37 pm37 an37 cd37 ct37), sl37⟩) (c37 : PySem.W.codeIn K cd37 "_law_take" = true) (k37 : PySem.W.keepIn K (.ref f37) = true)
    (a38 : PySem.W.nsIn K mainGlobals "_law_pick" = some (some (.ref f38))) (l38 : K.lookup f38 = some ⟨oc38, od38, .func (PySem.W.fnOf "_law_pick" "_law_pick" (defArgs sPick) (defBody sPick) (defScope sPick) .none kV38 dc38 pm38 an38 cd38 ct38), sl38⟩) (c38 : PySem.W.codeIn K cd38 "_law_pick" = true) (k38 : PySem.W.keepIn K (.ref f38) = true)
    (a39 : PySem.W.nsIn K mainGlobals "_law_same" = some (some (.ref f39))) (l39 : K.lookup f39 = some ⟨oc39, od39, .func (PySem.W.fnOf "_law_same" "_law_same" (defArgs sSame) (defBody sSame) (defScope sSame) .none kV39 dc39 pm39 an39 cd39 ct39), sl39⟩) (c39 : PySem.W.codeIn K cd39 "_law_same" = true) (k39 : PySem.W.keepIn K (.ref f39) = true)
    (a40 : PySem.W.nsIn K mainGlobals "_law_names" = some (some (.ref f40))) (l40 : K.lookup f40 = some ⟨oc40, od40, .func (PySem.W.fnOf "_law_names" "_law_names" (defArgs sNames) (defBody sNames) (defScope sNames) .none kV40 dc40 pm40 an40 cd40 ct40), sl40⟩) (c40 : PySem.W.codeIn K cd40 "_law_names" = true) (k40 : PySem.W.keepIn K (.ref f40) = true)
    (a41 : PySem.W.nsIn K mainGlobals "_law_term" = some (some (.ref f41))) (l41 : K.lookup f41 = some ⟨oc41, od41, .func (PySem.W.fnOf "_law_term" "_law_term" (defArgs sTermL) (defBody sTermL) (defScope sTermL) .none kV41 dc41 pm41 an41 cd41 ct41), sl41⟩) (c41 : PySem.W.codeIn K cd41 "_law_term" = true) (k41 : PySem.W.keepIn K (.ref f41) = true)
    (a42 : PySem.W.nsIn K mainGlobals "_law_unlike" = some (some (.ref f42))) (l42 : K.lookup f42 = some ⟨oc42, od42, .func (PySem.W.fnOf "_law_unlike" "_law_unlike" (defArgs sUnlikeL) (defBody sUnlikeL) (defScope sUnlikeL) .none kV42 dc42 pm42 an42 cd42 ct42), sl42⟩) (c42 : PySem.W.codeIn K cd42 "_law_unlike" = true) (k42 : PySem.W.keepIn K (.ref f42) = true)
    (a43 : PySem.W.nsIn K mainGlobals "_law_term_words" = some (some (.ref f43))) (l43 : K.lookup f43 = some ⟨oc43, od43, .func (PySem.W.fnOf "_law_term_words" "_law_term_words" (defArgs sText) (defBody sText) (defScope sText) .none kV43 dc43 pm43 an43 cd43 ct43), sl43⟩) (c43 : PySem.W.codeIn K cd43 "_law_term_words" = true) (k43 : PySem.W.keepIn K (.ref f43) = true)
    (a44 : PySem.W.nsIn K mainGlobals "_law_atom_words" = some (some (.ref f44))) (l44 : K.lookup f44 = some ⟨oc44, od44, .func (PySem.W.fnOf "_law_atom_words" "_law_atom_words" (defArgs sLawAT) (defBody sLawAT) (defScope sLawAT) .none kV44 dc44 pm44 an44 cd44 ct44), sl44⟩) (c44 : PySem.W.codeIn K cd44 "_law_atom_words" = true) (k44 : PySem.W.keepIn K (.ref f44) = true)
    (a45 : PySem.W.nsIn K mainGlobals "_law_shapes" = some (some (.ref f45))) (l45 : K.lookup f45 = some ⟨oc45, od45, .func (PySem.W.fnOf "_law_shapes" "_law_shapes" (defArgs sShapes) (defBody sShapes) (defScope sShapes) .none kV45 dc45 pm45 an45 cd45 ct45), sl45⟩) (c45 : PySem.W.codeIn K cd45 "_law_shapes" = true) (k45 : PySem.W.keepIn K (.ref f45) = true)
    (a46 : PySem.W.nsIn K mainGlobals "_law_atom" = some (some (.ref f46))) (l46 : K.lookup f46 = some ⟨oc46, od46, .func (PySem.W.fnOf "_law_atom" "_law_atom" (defArgs sAtomL) (defBody sAtomL) (defScope sAtomL) .none kV46 dc46 pm46 an46 cd46 ct46), sl46⟩) (c46 : PySem.W.codeIn K cd46 "_law_atom" = true) (k46 : PySem.W.keepIn K (.ref f46) = true)
    (a47 : PySem.W.nsIn K mainGlobals "_law_saying" = some (some (.ref f47))) (l47 : K.lookup f47 = some ⟨oc47, od47, .func (PySem.W.fnOf "_law_saying" "_law_saying" (defArgs sSayingL) (defBody sSayingL) (defScope sSayingL) .none kV47 dc47 pm47 an47 cd47 ct47), sl47⟩) (c47 : PySem.W.codeIn K cd47 "_law_saying" = true) (k47 : PySem.W.keepIn K (.ref f47) = true)
    (a48 : PySem.W.nsIn K mainGlobals "_law_binding_words" = some (some (.ref f48))) (l48 : K.lookup f48 = some ⟨oc48, od48, .func (PySem.W.fnOf "_law_binding_words" "_law_binding_words" (defArgs sLawBT) (defBody sLawBT) (defScope sLawBT) .none kV48 dc48 pm48 an48 cd48 ct48), sl48⟩) (c48 : PySem.W.codeIn K cd48 "_law_binding_words" = true) (k48 : PySem.W.keepIn K (.ref f48) = true)
    (a49 : PySem.W.nsIn K mainGlobals "_law_puts" = some (some (.ref f49))) (l49 : K.lookup f49 = some ⟨oc49, od49, .func (PySem.W.fnOf "_law_puts" "_law_puts" (defArgs sPuts) (defBody sPuts) (defScope sPuts) .none kV49 dc49 pm49 an49 cd49 ct49), sl49⟩) (c49 : PySem.W.codeIn K cd49 "_law_puts" = true) (k49 : PySem.W.keepIn K (.ref f49) = true)
    (a50 : PySem.W.nsIn K mainGlobals "_law_saying_words" = some (some (.ref f50))) (l50 : K.lookup f50 = some ⟨oc50, od50, .func (PySem.W.fnOf "_law_saying_words" "_law_saying_words" (defArgs sSayingW) (defBody sSayingW) (defScope sSayingW) .none kV50 dc50 pm50 an50 cd50 ct50), sl50⟩) (c50 : PySem.W.codeIn K cd50 "_law_saying_words" = true) (k50 : PySem.W.keepIn K (.ref f50) = true)
    (a51 : PySem.W.nsIn K mainGlobals "_law_step_words" = some (some (.ref f51))) (l51 : K.lookup f51 = some ⟨oc51, od51, .func (PySem.W.fnOf "_law_step_words" "_law_step_words" (defArgs sStepW) (defBody sStepW) (defScope sStepW) .none kV51 dc51 pm51 an51 cd51 ct51), sl51⟩) (c51 : PySem.W.codeIn K cd51 "_law_step_words" = true) (k51 : PySem.W.keepIn K (.ref f51) = true)
    (a52 : PySem.W.nsIn K mainGlobals "_law_wild_steps" = some (some (.ref f52))) (l52 : K.lookup f52 = some ⟨oc52, od52, .func (PySem.W.fnOf "_law_wild_steps" "_law_wild_steps" (defArgs sWild) (defBody sWild) (defScope sWild) .none kV52 dc52 pm52 an52 cd52 ct52), sl52⟩) (c52 : PySem.W.codeIn K cd52 "_law_wild_steps" = true) (k52 : PySem.W.keepIn K (.ref f52) = true)
    (a53 : PySem.W.nsIn K mainGlobals "_law_known_charts" = some (some (.ref f53))) (l53 : K.lookup f53 = some ⟨oc53, od53, .func (PySem.W.fnOf "_law_known_charts" "_law_known_charts" (defArgs sKnown) (defBody sKnown) (defScope sKnown) .none kV53 dc53 pm53 an53 cd53 ct53), sl53⟩) (c53 : PySem.W.codeIn K cd53 "_law_known_charts" = true) (k53 : PySem.W.keepIn K (.ref f53) = true)
    (a54 : PySem.W.nsIn K mainGlobals "_law_bad_charts" = some (some (.ref f54))) (l54 : K.lookup f54 = some ⟨oc54, od54, .func (PySem.W.fnOf "_law_bad_charts" "_law_bad_charts" (defArgs sBad) (defBody sBad) (defScope sBad) .none kV54 dc54 pm54 an54 cd54 ct54), sl54⟩) (c54 : PySem.W.codeIn K cd54 "_law_bad_charts" = true) (k54 : PySem.W.keepIn K (.ref f54) = true)
    (a55 : PySem.W.nsIn K mainGlobals "_law_chart_words" = some (some (.ref f55))) (l55 : K.lookup f55 = some ⟨oc55, od55, .func (PySem.W.fnOf "_law_chart_words" "_law_chart_words" (defArgs sChartW) (defBody sChartW) (defScope sChartW) .none kV55 dc55 pm55 an55 cd55 ct55), sl55⟩) (c55 : PySem.W.codeIn K cd55 "_law_chart_words" = true) (k55 : PySem.W.keepIn K (.ref f55) = true)
    (a56 : PySem.W.nsIn K mainGlobals "_law_right" = some (some (.ref f56))) (l56 : K.lookup f56 = some ⟨oc56, od56, .func (PySem.W.fnOf "_law_right" "_law_right" (defArgs sRight) (defBody sRight) (defScope sRight) .none kV56 dc56 pm56 an56 cd56 ct56), sl56⟩) (c56 : PySem.W.codeIn K cd56 "_law_right" = true) (k56 : PySem.W.keepIn K (.ref f56) = true)
    (a57 : PySem.W.nsIn K mainGlobals "law" = some (some (.ref f57))) (l57 : K.lookup f57 = some ⟨oc57, od57, .func (PySem.W.fnOf "law" "law" (defArgs sLaw) (defBody sLaw) (defScope sLaw) .none kV57 dc57 pm57 an57 cd57 ct57), sl57⟩) (c57 : PySem.W.codeIn K cd57 "law" = true) (k57 : PySem.W.keepIn K (.ref f57) = true)
    (z1 : PySem.W.nsIn K mainGlobals "isinstance" = some none)
    (z2 : PySem.W.nsIn K mainGlobals "int" = some none)
    (z3 : PySem.W.nsIn K mainGlobals "len" = some none)
    (z4 : PySem.W.nsIn K mainGlobals "list" = some none)
    (z5 : PySem.W.nsIn K mainGlobals "tuple" = some none)
    (z6 : PySem.W.nsIn K mainGlobals "all" = some none)
    (z7 : PySem.W.nsIn K mainGlobals "zip" = some none)
    (z8 : PySem.W.nsIn K mainGlobals "str" = some none)
    (z9 : PySem.W.nsIn K mainGlobals "bool" = some none)
    (z10 : PySem.W.nsIn K mainGlobals "range" = some none)
    (z11 : PySem.W.nsIn K mainGlobals "dict" = some none)
    (z12 : PySem.W.nsIn K mainGlobals "abs" = some none)
    (z13 : PySem.W.nsIn K mainGlobals "enumerate" = some none)
    (z14 : PySem.W.nsIn K mainGlobals "reversed" = some none)
    (z15 : PySem.W.nsIn K mainGlobals "min" = some none)
    (z16 : PySem.W.nsIn K mainGlobals "max" = some none)
    (z17 : PySem.W.nsIn K mainGlobals "repr" = some none)
    (xV : PySem.W.nsIn K mainGlobals "LAST_VARIABLE" = some (some (.int 99 tk)))
    (xM : PySem.W.nsIn K mainGlobals "MOST_SIGNS" = some (some (.int 200 tk2)))
    (xS : PySem.W.nsIn K mainGlobals "SHAPES" = some (some (.ref fS)))
    (xL : K.lookup fS = some ⟨.type "tuple", odS, .seq #[.ref s1, .ref s2, .ref s3] nS, slS⟩)
    (x1 : K.lookup s1 = some ⟨.type "tuple", od1_, .seq #[.str "0" t1, .int 1 t2] n1_, sl1_⟩)
    (x2 : K.lookup s2 = some ⟨.type "tuple", od2_, .seq #[.str "s" t3, .int 2 t4] n2_, sl2_⟩)
    (x3 : K.lookup s3 = some ⟨.type "tuple", od3_, .seq #[.str "f" t5, .int 3 t6] n3_, sl3_⟩)
    (xLe : PySem.W.nsIn K mainGlobals "LETTERS" = some (some (.str "abcdefghijklmnopqrstuvwxyz" tk3)))
    (xML : PySem.W.nsIn K mainGlobals "MOST_LETTERS" = some (some (.int 6 tk4)))
    (xMH : PySem.W.nsIn K mainGlobals "MOST_HYPS" = some (some (.int 6 tk5)))
    (xBa : PySem.W.nsIn K mainGlobals "BARE" = some (some (.str "|- " tk6)))
    (xPa : PySem.W.nsIn K mainGlobals "PARTING" = some (some (.str " |- " tk7)))
    (xMF : PySem.W.nsIn K mainGlobals "MOST_FIGURES" = some (some (.int 100 tk8)))
    : ∃ fd : FuncData, (∀ (s : Shared) (v : Value), BindsTo s fd ⟨[v], []⟩ [("_law_script", v)]) ∧ ∀ base : Heap, K.In base → base.Ns mainGlobals mg → GnOk l.prog w K mg base 66 fa fd ["_law_script"] (spLaw K) := by
  have e := hfa.symm.trans (PySem.W.mg_of X G a57)
  cases e
  have F1 := fun_mk (st := sNumber) l1 c1 k1
  have b1 := F1.binds (ps := ["thing"]) fun _ _ _ _ _ _ us hl => match us, hl with | [_], _ => rfl
  have m1 := PySem.W.mg_of X G a1
  have F2 := fun_mk (st := sPlace) l2 c2 k2
  have b2 := F2.binds (ps := ["thing"]) fun _ _ _ _ _ _ us hl => match us, hl with | [_], _ => rfl
  have m2 := PySem.W.mg_of X G a2
  have F3 := fun_mk (st := sVariable) l3 c3 k3
  have b3 := F3.binds (ps := ["thing"]) fun _ _ _ _ _ _ us hl => match us, hl with | [_], _ => rfl
  have m3 := PySem.W.mg_of X G a3
  have F4 := fun_mk (st := sShape) l4 c4 k4
  have b4 := F4.binds (ps := ["thing"]) fun _ _ _ _ _ _ us hl => match us, hl with | [_], _ => rfl
  have m4 := PySem.W.mg_of X G a4
  have F5 := fun_mk (st := sTerm) l5 c5 k5
  have b5 := F5.binds (ps := ["thing"]) fun _ _ _ _ _ _ us hl => match us, hl with | [_], _ => rfl
  have m5 := PySem.W.mg_of X G a5
  have F6 := fun_mk (st := sParts) l6 c6 k6
  have b6 := F6.binds (ps := ["term"]) fun _ _ _ _ _ _ us hl => match us, hl with | [_], _ => rfl
  have m6 := PySem.W.mg_of X G a6
  have F7 := fun_mk (st := sInside) l7 c7 k7
  have b7 := F7.binds (ps := ["term"]) fun _ _ _ _ _ _ us hl => match us, hl with | [_], _ => rfl
  have m7 := PySem.W.mg_of X G a7
  have F8 := fun_mk (st := sFold) l8 c8 k8
  have b8 := F8.binds (ps := ["term", "made_of"]) fun _ _ _ _ _ _ us hl => match us, hl with | [_, _], _ => rfl
  have m8 := PySem.W.mg_of X G a8
  have F9 := fun_mk (st := sIsPair) l9 c9 k9
  have b9 := F9.binds (ps := ["thing"]) fun _ _ _ _ _ _ us hl => match us, hl with | [_], _ => rfl
  have m9 := PySem.W.mg_of X G a9
  have F10 := fun_mk (st := sIsBinding) l10 c10 k10
  have b10 := F10.binds (ps := ["thing"]) fun _ _ _ _ _ _ us hl => match us, hl with | [_], _ => rfl
  have m10 := PySem.W.mg_of X G a10
  have F11 := fun_mk (st := sIsName) l11 c11 k11
  have b11 := F11.binds (ps := ["thing"]) fun _ _ _ _ _ _ us hl => match us, hl with | [_], _ => rfl
  have m11 := PySem.W.mg_of X G a11
  have F12 := fun_mk (st := sIsAtom) l12 c12 k12
  have b12 := F12.binds (ps := ["thing"]) fun _ _ _ _ _ _ us hl => match us, hl with | [_], _ => rfl
  have m12 := PySem.W.mg_of X G a12
  have F13 := fun_mk (st := sTextOf) l13 c13 k13
  have b13 := F13.binds (ps := ["part", "texts"]) fun _ _ _ _ _ _ us hl => match us, hl with | [_, _], _ => rfl
  have m13 := PySem.W.mg_of X G a13
  have F14 := fun_mk (st := sTermText) l14 c14 k14
  have b14 := F14.binds (ps := ["term"]) fun _ _ _ _ _ _ us hl => match us, hl with | [_], _ => rfl
  have m14 := PySem.W.mg_of X G a14
  have F15 := fun_mk (st := sNumberOf) l15 c15 k15
  have b15 := F15.binds (ps := ["sign"]) fun _ _ _ _ _ _ us hl => match us, hl with | [_], _ => rfl
  have m15 := PySem.W.mg_of X G a15
  have F16 := fun_mk (st := sFromSigns) l16 c16 k16
  have b16 := F16.binds (ps := ["signs"]) fun _ _ _ _ _ _ us hl => match us, hl with | [_], _ => rfl
  have m16 := PySem.W.mg_of X G a16
  have F17 := fun_mk (st := sTermOrNone) l17 c17 k17
  have b17 := F17.binds (ps := ["text"]) fun _ _ _ _ _ _ us hl => match us, hl with | [_], _ => rfl
  have m17 := PySem.W.mg_of X G a17
  have F18 := fun_mk (st := sBindingText) l18 c18 k18
  have b18 := F18.binds (ps := ["binding"]) fun _ _ _ _ _ _ us hl => match us, hl with | [_], _ => rfl
  have m18 := PySem.W.mg_of X G a18
  have F19 := fun_mk (st := sPairIn) l19 c19 k19
  have b19 := F19.binds (ps := ["text"]) fun _ _ _ _ _ _ us hl => match us, hl with | [_], _ => rfl
  have m19 := PySem.W.mg_of X G a19
  have F20 := fun_mk (st := sBindingOrNone) l20 c20 k20
  have b20 := F20.binds (ps := ["text"]) fun _ _ _ _ _ _ us hl => match us, hl with | [_], _ => rfl
  have m20 := PySem.W.mg_of X G a20
  have F21 := fun_mk (st := sAtomText) l21 c21 k21
  have b21 := F21.binds (ps := ["atom"]) fun _ _ _ _ _ _ us hl => match us, hl with | [_], _ => rfl
  have m21 := PySem.W.mg_of X G a21
  have F22 := fun_mk (st := sAtomOr) l22 c22 k22
  have b22 := F22.binds (ps := ["text"]) fun _ _ _ _ _ _ us hl => match us, hl with | [_], _ => rfl
  have m22 := PySem.W.mg_of X G a22
  have F23 := fun_mk (st := sAtomsText) l23 c23 k23
  have b23 := F23.binds (ps := ["atoms"]) fun _ _ _ _ _ _ us hl => match us, hl with | [_], _ => rfl
  have m23 := PySem.W.mg_of X G a23
  have F24 := fun_mk (st := sAtomsOr) l24 c24 k24
  have b24 := F24.binds (ps := ["text"]) fun _ _ _ _ _ _ us hl => match us, hl with | [_], _ => rfl
  have m24 := PySem.W.mg_of X G a24
  have F25 := fun_mk (st := sUnlike) l25 c25 k25
  have b25 := F25.binds (ps := ["atoms"]) fun _ _ _ _ _ _ us hl => match us, hl with | [_], _ => rfl
  have m25 := PySem.W.mg_of X G a25
  have F26 := fun_mk (st := sIsSaying) l26 c26 k26
  have b26 := F26.binds (ps := ["thing"]) fun _ _ _ _ _ _ us hl => match us, hl with | [_], _ => rfl
  have m26 := PySem.W.mg_of X G a26
  have F27 := fun_mk (st := sSayingText) l27 c27 k27
  have b27 := F27.binds (ps := ["saying"]) fun _ _ _ _ _ _ us hl => match us, hl with | [_], _ => rfl
  have m27 := PySem.W.mg_of X G a27
  have F28 := fun_mk (st := sSayingOr) l28 c28 k28
  have b28 := F28.binds (ps := ["text"]) fun _ _ _ _ _ _ us hl => match us, hl with | [_], _ => rfl
  have m28 := PySem.W.mg_of X G a28
  have F29 := fun_mk (st := sIsStep) l29 c29 k29
  have b29 := F29.binds (ps := ["thing"]) fun _ _ _ _ _ _ us hl => match us, hl with | [_], _ => rfl
  have m29 := PySem.W.mg_of X G a29
  have F30 := fun_mk (st := sStepText) l30 c30 k30
  have b30 := F30.binds (ps := ["step"]) fun _ _ _ _ _ _ us hl => match us, hl with | [_], _ => rfl
  have m30 := PySem.W.mg_of X G a30
  have F31 := fun_mk (st := sNumberOr) l31 c31 k31
  have b31 := F31.binds (ps := ["text"]) fun _ _ _ _ _ _ us hl => match us, hl with | [_], _ => rfl
  have m31 := PySem.W.mg_of X G a31
  have F32 := fun_mk (st := sPartsC) l32 c32 k32
  have b32 := F32.binds (ps := ["word", "text"]) fun _ _ _ _ _ _ us hl => match us, hl with | [_, _], _ => rfl
  have m32 := PySem.W.mg_of X G a32
  have F33 := fun_mk (st := sStepOr) l33 c33 k33
  have b33 := F33.binds (ps := ["text"]) fun _ _ _ _ _ _ us hl => match us, hl with | [_], _ => rfl
  have m33 := PySem.W.mg_of X G a33
  have F34 := fun_mk (st := sChartText) l34 c34 k34
  have b34 := F34.binds (ps := ["chart"]) fun _ _ _ _ _ _ us hl => match us, hl with | [_], _ => rfl
  have m34 := PySem.W.mg_of X G a34
  have F35 := fun_mk (st := sChartIn) l35 c35 k35
  have b35 := F35.binds (ps := ["text"]) fun _ _ _ _ _ _ us hl => match us, hl with | [_], _ => rfl
  have m35 := PySem.W.mg_of X G a35
  have F36 := fun_mk (st := sBox) l36 c36 k36
  have b36 := F36.binds (ps := ["_law_script", "_law_k"]) fun _ _ _ _ _ _ us hl => match us, hl with | [_, _], _ => rfl
  have m36 := PySem.W.mg_of X G a36
  have F37 := fun_mk (st := sTake) l37 c37 k37
  have b37 := F37.binds (ps := ["_law_box_here", "_law_reach"]) fun _ _ _ _ _ _ us hl => match us, hl with | [_, _], _ => rfl
  have m37 := PySem.W.mg_of X G a37
  have F38 := fun_mk (st := sPick) l38 c38 k38
  have b38 := F38.binds (ps := ["_law_box_here", "_law_things"]) fun _ _ _ _ _ _ us hl => match us, hl with | [_, _], _ => rfl
  have m38 := PySem.W.mg_of X G a38
  have F39 := fun_mk (st := sSame) l39 c39 k39
  have b39 := F39.binds (ps := ["_law_found", "_law_due"]) fun _ _ _ _ _ _ us hl => match us, hl with | [_, _], _ => rfl
  have m39 := PySem.W.mg_of X G a39
  have F40 := fun_mk (st := sNames) l40 c40 k40
  have b40 := F40.binds (ps := ["_law_box_here", "_law_count"]) fun _ _ _ _ _ _ us hl => match us, hl with | [_, _], _ => rfl
  have m40 := PySem.W.mg_of X G a40
  have F41 := fun_mk (st := sTermL) l41 c41 k41
  have b41 := F41.binds (ps := ["_law_box_here", "_law_pool", "_law_deep"]) fun _ _ _ _ _ _ us hl => match us, hl with | [_, _, _], _ => rfl
  have m41 := PySem.W.mg_of X G a41
  have F42 := fun_mk (st := sUnlikeL) l42 c42 k42
  have b42 := F42.binds (ps := ["_law_atoms"]) fun _ _ _ _ _ _ us hl => match us, hl with | [_], _ => rfl
  have m42 := PySem.W.mg_of X G a42
  have F43 := fun_mk (st := sText) l43 c43 k43
  have b43 := F43.binds (ps := ["_law_term_here"]) fun _ _ _ _ _ _ us hl => match us, hl with | [_], _ => rfl
  have m43 := PySem.W.mg_of X G a43
  have F44 := fun_mk (st := sLawAT) l44 c44 k44
  have b44 := F44.binds (ps := ["_law_atom_here"]) fun _ _ _ _ _ _ us hl => match us, hl with | [_], _ => rfl
  have m44 := PySem.W.mg_of X G a44
  have F45 := fun_mk (st := sShapes) l45 c45 k45
  have b45 := F45.binds (ps := ["_law_box_here", "_law_names_here"]) fun _ _ _ _ _ _ us hl => match us, hl with | [_, _], _ => rfl
  have m45 := PySem.W.mg_of X G a45
  have F46 := fun_mk (st := sAtomL) l46 c46 k46
  have b46 := F46.binds (ps := ["_law_box_here", "_law_shapes_here", "_law_names_here", "_law_pool", "_law_deep"]) fun _ _ _ _ _ _ us hl => match us, hl with | [_, _, _, _, _], _ => rfl
  have m46 := PySem.W.mg_of X G a46
  have F47 := fun_mk (st := sSayingL) l47 c47 k47
  have b47 := F47.binds (ps := ["_law_box_here", "_law_shapes_here", "_law_names_here", "_law_pool", "_law_count"]) fun _ _ _ _ _ _ us hl => match us, hl with | [_, _, _, _, _], _ => rfl
  have m47 := PySem.W.mg_of X G a47
  have F48 := fun_mk (st := sLawBT) l48 c48 k48
  have b48 := F48.binds (ps := ["_law_binding"]) fun _ _ _ _ _ _ us hl => match us, hl with | [_], _ => rfl
  have m48 := PySem.W.mg_of X G a48
  have F49 := fun_mk (st := sPuts) l49 c49 k49
  have b49 := F49.binds (ps := ["_law_box_here", "_law_spots", "_law_pool"]) fun _ _ _ _ _ _ us hl => match us, hl with | [_, _, _], _ => rfl
  have m49 := PySem.W.mg_of X G a49
  have F50 := fun_mk (st := sSayingW) l50 c50 k50
  have b50 := F50.binds (ps := ["_law_saying_here"]) fun _ _ _ _ _ _ us hl => match us, hl with | [_], _ => rfl
  have m50 := PySem.W.mg_of X G a50
  have F51 := fun_mk (st := sStepW) l51 c51 k51
  have b51 := F51.binds (ps := ["_law_step"]) fun _ _ _ _ _ _ us hl => match us, hl with | [_], _ => rfl
  have m51 := PySem.W.mg_of X G a51
  have F52 := fun_mk (st := sWild) l52 c52 k52
  have b52 := F52.binds (ps := ["_law_box_here", "_law_words", "_law_shapes_here", "_law_count"]) fun _ _ _ _ _ _ us hl => match us, hl with | [_, _, _, _], _ => rfl
  have m52 := PySem.W.mg_of X G a52
  have F53 := fun_mk (st := sKnown) l53 c53 k53
  have b53 := F53.binds (ps := ["_law_names_here"]) fun _ _ _ _ _ _ us hl => match us, hl with | [_], _ => rfl
  have m53 := PySem.W.mg_of X G a53
  have F54 := fun_mk (st := sBad) l54 c54 k54
  have b54 := F54.binds (ps := ["_law_names_here"]) fun _ _ _ _ _ _ us hl => match us, hl with | [_], _ => rfl
  have m54 := PySem.W.mg_of X G a54
  have F55 := fun_mk (st := sChartW) l55 c55 k55
  have b55 := F55.binds (ps := ["_law_chart"]) fun _ _ _ _ _ _ us hl => match us, hl with | [_], _ => rfl
  have m55 := PySem.W.mg_of X G a55
  have F56 := fun_mk (st := sRight) l56 c56 k56
  have b56 := F56.binds (ps := ["_law_chart"]) fun _ _ _ _ _ _ us hl => match us, hl with | [_], _ => rfl
  have m56 := PySem.W.mg_of X G a56
  have F57 := fun_mk (st := sLaw) l57 c57 k57
  have y1 := PySem.W.mg_none_of X G z1
  have y2 := PySem.W.mg_none_of X G z2
  have y3 := PySem.W.mg_none_of X G z3
  have y4 := PySem.W.mg_none_of X G z4
  have y5 := PySem.W.mg_none_of X G z5
  have y6 := PySem.W.mg_none_of X G z6
  have y7 := PySem.W.mg_none_of X G z7
  have y8 := PySem.W.mg_none_of X G z8
  have y9 := PySem.W.mg_none_of X G z9
  have y10 := PySem.W.mg_none_of X G z10
  have y11 := PySem.W.mg_none_of X G z11
  have y12 := PySem.W.mg_none_of X G z12
  have y13 := PySem.W.mg_none_of X G z13
  have y14 := PySem.W.mg_none_of X G z14
  have y15 := PySem.W.mg_none_of X G z15
  have y16 := PySem.W.mg_none_of X G z16
  have y17 := PySem.W.mg_none_of X G z17
  refine ⟨PySem.W.fnOf "law" "law" (defArgs sLaw) (defBody sLaw) (defScope sLaw) .none kV57 dc57 pm57 an57 cd57 ct57, fun s v => .of_eq rfl, fun base _ _ => ?_⟩
  have c0 : ∀ H, SqT K H fS [V.ref s1, .ref s2, .ref s3] := fun H => .inr ⟨_, _, _, xL, rfl, rfl, (by show 3 ≤ sizeLine; decide), .cons rfl (.cons rfl (.cons rfl .nil))⟩
  have c1 : ∀ H, SqT K H s1 [V.str "0", .int 1] := fun H => .inr ⟨_, _, _, x1, rfl, rfl, (by show 2 ≤ sizeLine; decide), .cons ⟨_, rfl⟩ (.cons ⟨_, rfl⟩ .nil)⟩
  have c2 : ∀ H, SqT K H s2 [V.str "s", .int 2] := fun H => .inr ⟨_, _, _, x2, rfl, rfl, (by show 2 ≤ sizeLine; decide), .cons ⟨_, rfl⟩ (.cons ⟨_, rfl⟩ .nil)⟩
  have c3 : ∀ H, SqT K H s3 [V.str "f", .int 3] := fun H => .inr ⟨_, _, _, x3, rfl, rfl, (by show 2 ≤ sizeLine; decide), .cons ⟨_, rfl⟩ (.cons ⟨_, rfl⟩ .nil)⟩
  have hS : ∀ H, Dp K H (.ref fS) shapesD := fun H =>
    .tup (c0 H) (.cons (.tup (c1 H) (.cons (.str _) (.cons (.int _) .nil))) (.cons (.tup (c2 H) (.cons (.str _) (.cons (.int _) .nil))) (.cons (.tup (c3 H) (.cons (.str _) (.cons (.int _) .nil))) .nil)))
  have M : SameG mg := ⟨y1, y4, y5, y3, y6, y7, y8, y2, y9⟩
  have GN := ok_number (P := l.prog) (w := w) (base := base) F1 M
  have GPl := ok_place F2 GN k1 b1 m1
  have GVa := ok_variable F3 GN k1 b1 m1 (PySem.W.mg_of X G xV)
  have GSh := ok_shape (P := l.prog) (w := w) (base := base) F4 M (PySem.W.mg_of X G xS) hS
  have GTm := ok_term F5 GSh k4 b4 m4 GVa k3 b3 m3
  have GPa := ok_parts (P := l.prog) (w := w) (base := base) F6 y1 y2
  have GI := ok_inside (P := l.prog) (w := w) (base := base) F7 F6 b6 m6 y1 y2
  have GTO := ok_textof (P := l.prog) (w := w) (base := base) F13 y1 y2
  have GFo := ok_fold F8 GI k7 b7 m7 GPa k6 b6 m6 GTO k13 b13 y3
  have GTx := ok_termtext F14 GFo k8 b8 m8 m13
  have GNo := ok_numberof (P := l.prog) (w := w) (base := base) F15 y3 y2
  have GFs := ok_fromsigns F16 GNo k15 b15 m15 y3 y14
  have GOr := ok_termor F17 GFs k16 b16 m16 GTx k14 b14 m14 y3 (PySem.W.mg_of X G xM)
  have GIp := ok_ispair F9 GVa k3 b3 m3 GTm k5 b5 m5 M
  have GIb := ok_isbi F10 GIp k9 b9 m9 M
  have GBt := ok_btext F18 GTx k14 b14 m14
  have GPi := ok_pairin F19 GOr k17 b17 m17
  have GBo := ok_bor F20 GPi k19 b19 m19 GIb k10 b10 m10 y5
  have GNm := ok_isname (P := l.prog) (w := w) (base := base) F11 M (PySem.W.mg_of X G xLe) (PySem.W.mg_of X G xML)
  have GIa := ok_isatom F12 GNm k11 b11 m11 GTm k5 b5 m5 M
  have GAt := ok_atomtext F21 GTx k14 b14 m14
  have GAo := ok_atomor F22 GOr k17 b17 m17 GIa k12 b12 m12
  have GAs := ok_atomstext F23 GAt k21 b21 m21
  have GAn := ok_atomsor F24 GAo k22 b22 m22 y5
  have GUn := ok_unlike (P := l.prog) (w := w) (base := base) F25 y5
  have GIs := ok_issaying F26 GIa k12 b12 m12 GUn k25 b25 m25 (PySem.W.mg_of X G xMH) M
  have GSt := ok_sayingtext F27 GAt k21 b21 m21 GAs k23 b23 m23 (PySem.W.mg_of X G xBa) (PySem.W.mg_of X G xPa)
  have GSo := ok_sayingor F28 GAo k22 b22 m22 GAn k24 b24 m24 GIs k26 b26 m26 (PySem.W.mg_of X G xBa) (PySem.W.mg_of X G xPa) y3
  have GIt := ok_isstep F29 GIa k12 b12 m12 GPl k2 b2 m2 GIb k10 b10 m10 GIs k26 b26 m26 GNm k11 b11 m11 M
  have GTt := ok_steptext F30 GAt k21 b21 m21 GSt k27 b27 m27 GBt k18 b18 m18
  have GNr := ok_numberor (P := l.prog) (w := w) (base := base) F31 (PySem.W.mg_of X G xMF) M
  have GPc := ok_partsC F32 GAo k22 b22 m22 GSo k28 b28 m28 GBo k20 b20 m20 GNr k31 b31 m31
  have GTr := ok_stepor F33 GPc k32 b32 m32 GIt k29 b29 m29
  have GCt := ok_charttext F34 GSt k27 b27 m27 GTt k30 b30 m30
  have GCi := ok_chartin F35 GSo k28 b28 m28 GTr k33 b33 m33 y13 y5
  have GS := same_ok (P := l.prog) (w := w) (base := base) F39 b39 m39 M 59
  have GTk := ok_take (P := l.prog) (w := w) (mg := mg) (base := base) F37
  have GPk := ok_pick (P := l.prog) (w := w) (base := base) F38 F37 b37 m37 y3
  have GBx := ok_box (P := l.prog) (w := w) (base := base) F36 y3 y12 y2
  have GNa := ok_words (P := l.prog) (w := w) (base := base) F40 F37 b37 m37 y10 y3
  have GLt := lterm_ok F41 b41 m41 GTk k37 b37 m37 GPk k38 b38 m38 3
  have GUl := ok_unlikel (P := l.prog) (w := w) (base := base) F42 y5
  have GLx := ltext5 (P := l.prog) (w := w) (base := base) F43 b43 m43 M
  have GLa := ok_latom F44 GLx k43 b43 m43
  have GSs := ok_shapes F45 GTk k37 b37 m37 y11
  have GAl := ok_atoml F46 GPk k38 b38 m38 GLt k41 b41 m41 y10 y5
  have GSl := ok_sayingl F47 GTk k37 b37 m37 GAl k46 b46 m46 GUl k42 b42 m42 y10
  have GLb := ok_lbind F48 GLx k43 b43 m43 y8
  have GPu := ok_puts F49 GTk k37 b37 m37 GLt k41 b41 m41 y5
  have GLs := ok_lsay F50 GLa k44 b44 m44
  have GLp := ok_lstep F51 GLa k44 b44 m44 GLs k50 b50 m50 GLb k48 b48 m48 y8 y3
  have GWi := ok_wild F52 GTk k37 b37 m37 GPk k38 b38 m38 GPu k49 b49 m49 GSl k47 b47 m47 GAl k46 b46 m46 y10 y5
  have GKn := ok_known (P := l.prog) (w := w) (base := base) F53 (mg := mg)
  have GBd := ok_bad (P := l.prog) (w := w) (base := base) F54 (mg := mg)
  have GCw := ok_lchart F55 GLs k50 b50 m50 GLp k51 b51 m51
  have GRi := ok_right F56 GCw k55 b55 m55 GCt k34 b34 m34 GCi k35 b35 m35 GS k39 b39 m39 y17 y3
  exact ok_law F57 GBx k36 b36 m36 GNa k40 b40 m40 GSs k45 b45 m45 GTk k37 b37 m37 GWi k52 b52 m52 GSl k47 b47 m47 GKn k53 b53 m53 GBd k54 b54 m54 GRi k56 b56 m56 y10 y16 y15 y3
theorem walk {l : PySem.W.OpenLaw} {q : Program} {loose : List Str} {XP : (Str → Option Value) → Heap → Prop} {YP : World → Heap → Prop} {d : DefRec} {K : Params → PySem.W.Frag} (hn : l.most = some 63) (hdf : d.params.defaults = [])
    (hY : ∀ (w : World) (h : Heap), YP w h → (K w.params).In h)
    (F : ∀ (w : World) (mg : Str → Option Value) (fa : Addr) (h : Heap), (K w.params).In h → h.Ns mainGlobals mg → mg d.name = some (.ref fa) →
      ∃ fd : FuncData, (∀ (s : Shared) (u : Value), BindsTo s fd ⟨[u], []⟩ [("_law_script", u)]) ∧ ∀ base : Heap, (K w.params).In base → base.Ns mainGlobals mg → GnOk l.prog w (K w.params) mg base 66 fa fd ["_law_script"] (spLaw (K w.params))) :
    PySem.W.WalkO q loose XP YP l.row.toRowW d [] (fun f vs => PySem.call f vs) :=
  walk_ofG (n := 63) (k := 66) (x := "_law_script") (sp := spLaw) hn (by decide) hdf ⟨rfl, by decide, by decide⟩ hY F (fun _ _ a ns hl _ hS => ⟨a, ns, rfl, hS, hl, fun _ => rfl⟩)
end Rp
open PySem PySem.W PyProof.Rows
set_option maxRecDepth 100000 in
set_option maxHeartbeats 0 in
theorem PySem.Challenge.cw_ringproofs_k36_charts_as_texts_holds : PySem.Challenge.rw_ringproofs_k36_charts_as_texts.Holds := by
  w_on; o_law; k_head; (case hw => w_witness2)
  k_fill
  refine Rp.walk (l := PySem.Challenge.rw_ringproofs_k36_charts_as_texts) rfl rfl (fun w h Y => PySem.W.kIn_of Y) ?F
  case F =>
    intro w mg fa h KX G hmg
    refine' Rp.all_mk KX G hmg ?a1 ?l1 ?c1 ?k1 ?a2 ?l2 ?c2 ?k2 ?a3 ?l3 ?c3 ?k3 ?a4 ?l4 ?c4 ?k4 ?a5 ?l5 ?c5 ?k5 ?a6 ?l6 ?c6 ?k6 ?a7 ?l7 ?c7 ?k7 ?a8 ?l8 ?c8 ?k8 ?a9 ?l9 ?c9 ?k9 ?a10 ?l10 ?c10 ?k10 ?a11 ?l11 ?c11 ?k11 ?a12 ?l12 ?c12 ?k12 ?a13 ?l13 ?c13 ?k13 ?a14 ?l14 ?c14 ?k14 ?a15 ?l15 ?c15 ?k15 ?a16 ?l16 ?c16 ?k16 ?a17 ?l17 ?c17 ?k17 ?a18 ?l18 ?c18 ?k18 ?a19 ?l19 ?c19 ?k19 ?a20 ?l20 ?c20 ?k20 ?a21 ?l21 ?c21 ?k21 ?a22 ?l22 ?c22 ?k22 ?a23 ?l23 ?c23 ?k23 ?a24 ?l24 ?c24 ?k24 ?a25 ?l25 ?c25 ?k25 ?a26 ?l26 ?c26 ?k26 ?a27 ?l27 ?c27 ?k27 ?a28 ?l28 ?c28 ?k28 ?a29 ?l29 ?c29 ?k29 ?a30 ?l30 ?c30 ?k30 ?a31 ?l31 ?c31 ?k31 ?a32 ?l32 ?c32 ?k32 ?a33 ?l33 ?c33 ?k33 ?a34 ?l34 ?c34 ?k34 ?a35 ?l35 ?c35 ?k35 ?a36 ?l36 ?c36 ?k36 ?a37 ?l37 ?c37 ?k37 ?a38 ?l38 ?c38 ?k38 ?a39 ?l39 ?c39 ?k39 ?a40 ?l40 ?c40 ?k40 ?a41 ?l41 ?c41 ?k41 ?a42 ?l42 ?c42 ?k42 ?a43 ?l43 ?c43 ?k43 ?a44 ?l44 ?c44 ?k44 ?a45 ?l45 ?c45 ?k45 ?a46 ?l46 ?c46 ?k46 ?a47 ?l47 ?c47 ?k47 ?a48 ?l48 ?c48 ?k48 ?a49 ?l49 ?c49 ?k49 ?a50 ?l50 ?c50 ?k50 ?a51 ?l51 ?c51 ?k51 ?a52 ?l52 ?c52 ?k52 ?a53 ?l53 ?c53 ?k53 ?a54 ?l54 ?c54 ?k54 ?a55 ?l55 ?c55 ?k55 ?a56 ?l56 ?c56 ?k56 ?a57 ?l57 ?c57 ?k57 ?z1 ?z2 ?z3 ?z4 ?z5 ?z6 ?z7 ?z8 ?z9 ?z10 ?z11 ?z12 ?z13 ?z14 ?z15 ?z16 ?z17 ?xV ?xM ?xS ?xL ?x1 ?x2 ?x3 ?xLe ?xML ?xMH ?xBa ?xPa ?xMF
    (case a1 => k_is); (case l1 => k_is); (case c1 => k_is); (case k1 => k_is)
    (case a2 => k_is); (case l2 => k_is); (case c2 => k_is); (case k2 => k_is)
    (case a3 => k_is); (case l3 => k_is); (case c3 => k_is); (case k3 => k_is)
    (case a4 => k_is); (case l4 => k_is); (case c4 => k_is); (case k4 => k_is)
    (case a5 => k_is); (case l5 => k_is); (case c5 => k_is); (case k5 => k_is)
    (case a6 => k_is); (case l6 => k_is); (case c6 => k_is); (case k6 => k_is)
    (case a7 => k_is); (case l7 => k_is); (case c7 => k_is); (case k7 => k_is)
    (case a8 => k_is); (case l8 => k_is); (case c8 => k_is); (case k8 => k_is)
    (case a9 => k_is); (case l9 => k_is); (case c9 => k_is); (case k9 => k_is)
    (case a10 => k_is); (case l10 => k_is); (case c10 => k_is); (case k10 => k_is)
    (case a11 => k_is); (case l11 => k_is); (case c11 => k_is); (case k11 => k_is)
    (case a12 => k_is); (case l12 => k_is); (case c12 => k_is); (case k12 => k_is)
    (case a13 => k_is); (case l13 => k_is); (case c13 => k_is); (case k13 => k_is)
    (case a14 => k_is); (case l14 => k_is); (case c14 => k_is); (case k14 => k_is)
    (case a15 => k_is); (case l15 => k_is); (case c15 => k_is); (case k15 => k_is)
    (case a16 => k_is); (case l16 => k_is); (case c16 => k_is); (case k16 => k_is)
    (case a17 => k_is); (case l17 => k_is); (case c17 => k_is); (case k17 => k_is)
    (case a18 => k_is); (case l18 => k_is); (case c18 => k_is); (case k18 => k_is)
    (case a19 => k_is); (case l19 => k_is); (case c19 => k_is); (case k19 => k_is)
    (case a20 => k_is); (case l20 => k_is); (case c20 => k_is); (case k20 => k_is)
    (case a21 => k_is); (case l21 => k_is); (case c21 => k_is); (case k21 => k_is)
    (case a22 => k_is); (case l22 => k_is); (case c22 => k_is); (case k22 => k_is)
    (case a23 => k_is); (case l23 => k_is); (case c23 => k_is); (case k23 => k_is)
    (case a24 => k_is); (case l24 => k_is); (case c24 => k_is); (case k24 => k_is)
    (case a25 => k_is); (case l25 => k_is); (case c25 => k_is); (case k25 => k_is)
    (case a26 => k_is); (case l26 => k_is); (case c26 => k_is); (case k26 => k_is)
    (case a27 => k_is); (case l27 => k_is); (case c27 => k_is); (case k27 => k_is)
    (case a28 => k_is); (case l28 => k_is); (case c28 => k_is); (case k28 => k_is)
    (case a29 => k_is); (case l29 => k_is); (case c29 => k_is); (case k29 => k_is)
    (case a30 => k_is); (case l30 => k_is); (case c30 => k_is); (case k30 => k_is)
    (case a31 => k_is); (case l31 => k_is); (case c31 => k_is); (case k31 => k_is)
    (case a32 => k_is); (case l32 => k_is); (case c32 => k_is); (case k32 => k_is)
    (case a33 => k_is); (case l33 => k_is); (case c33 => k_is); (case k33 => k_is)
    (case a34 => k_is); (case l34 => k_is); (case c34 => k_is); (case k34 => k_is)
    (case a35 => k_is); (case l35 => k_is); (case c35 => k_is); (case k35 => k_is)
    (case a36 => k_is); (case l36 => k_is); (case c36 => k_is); (case k36 => k_is)
    (case a37 => k_is); (case l37 => k_is); (case c37 => k_is); (case k37 => k_is)
    (case a38 => k_is); (case l38 => k_is); (case c38 => k_is); (case k38 => k_is)
    (case a39 => k_is); (case l39 => k_is); (case c39 => k_is); (case k39 => k_is)
    (case a40 => k_is); (case l40 => k_is); (case c40 => k_is); (case k40 => k_is)
    (case a41 => k_is); (case l41 => k_is); (case c41 => k_is); (case k41 => k_is)
    (case a42 => k_is); (case l42 => k_is); (case c42 => k_is); (case k42 => k_is)
    (case a43 => k_is); (case l43 => k_is); (case c43 => k_is); (case k43 => k_is)
    (case a44 => k_is); (case l44 => k_is); (case c44 => k_is); (case k44 => k_is)
    (case a45 => k_is); (case l45 => k_is); (case c45 => k_is); (case k45 => k_is)
    (case a46 => k_is); (case l46 => k_is); (case c46 => k_is); (case k46 => k_is)
    (case a47 => k_is); (case l47 => k_is); (case c47 => k_is); (case k47 => k_is)
    (case a48 => k_is); (case l48 => k_is); (case c48 => k_is); (case k48 => k_is)
    (case a49 => k_is); (case l49 => k_is); (case c49 => k_is); (case k49 => k_is)
    (case a50 => k_is); (case l50 => k_is); (case c50 => k_is); (case k50 => k_is)
    (case a51 => k_is); (case l51 => k_is); (case c51 => k_is); (case k51 => k_is)
    (case a52 => k_is); (case l52 => k_is); (case c52 => k_is); (case k52 => k_is)
    (case a53 => k_is); (case l53 => k_is); (case c53 => k_is); (case k53 => k_is)
    (case a54 => k_is); (case l54 => k_is); (case c54 => k_is); (case k54 => k_is)
    (case a55 => k_is); (case l55 => k_is); (case c55 => k_is); (case k55 => k_is)
    (case a56 => k_is); (case l56 => k_is); (case c56 => k_is); (case k56 => k_is)
    (case a57 => k_is); (case l57 => k_is); (case c57 => k_is); (case k57 => k_is)
    (case z1 => k_is); (case z2 => k_is); (case z3 => k_is); (case z4 => k_is)
    (case z5 => k_is); (case z6 => k_is); (case z7 => k_is); (case z8 => k_is)
    (case z9 => k_is); (case z10 => k_is); (case z11 => k_is); (case z12 => k_is)
    (case z13 => k_is); (case z14 => k_is); (case z15 => k_is); (case z16 => k_is)
    (case z17 => k_is); (case xV => k_is); (case xM => k_is); (case xS => k_is)
    (case xL => k_is); (case x1 => k_is); (case x2 => k_is); (case x3 => k_is)
    (case xLe => k_is); (case xML => k_is); (case xMH => k_is); (case xBa => k_is)
    (case xPa => k_is); (case xMF => k_is)

