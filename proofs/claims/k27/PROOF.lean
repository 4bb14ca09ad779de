import PyProof.Rows.All
import Wide.All
import OpenK.AllK
import Wide.FinOn
import HandS.ForMost
import HandS.IsInst
import HandS.Style
import HandS.Set
import HandS.Strs
import HandS.SetBool
import HandS.SetFor
import PySem.Challenge.RW_ringproofs_k27_what_steps_are
import HandS.Zip
import HandS.Deep
import HandS.Flow
import PyProof.Rows.RegFStrParts
import HandS.TupAny
import HandS.Walk
import HandS.Steps
import HandS.Text
import PyProof.StrLaws
import KE.KUnpackStar
import HandS.Star
import HandS.NoneIn
import HandS.More
import HandS.FStr
import HandS.TupMul
set_option Elab.async false
set_option linter.all false
set_option maxRecDepth 100000
set_option maxHeartbeats 4000000
/-! Two rules that the layer lacks: a comprehension that makes a set of ints, and set(xs) of a list of ints whose table is known well enough to be sorted afterwards. -/
namespace Rp
open PySem PySem.Spec PyProof.Rows L2 PpSet

section addi
variable {X : Cx}
/-- an int goes into a tracked set of ints -/
theorem putInt {pins : List (Addr × Obj)} {σ : L2.St} {H : Hp} {s : Shared} {E : Value → Shared → Prop} {D : Addr} {S : Int → Bool} {n : Nat} {y : Int} {t : Tok} {Q : Value → Shared → Prop}
    (I : Inv X pins σ H s) (hD : H D = some (SetO X.w D S n)) (few : n + 1 < scanBound)
    (go : ∀ s', Inv X pins σ (upd H D (SetO X.w D (fun j => S j || decide (j = y)) (if S y = true then n else n + 1))) s' → Q .none s') :
    wpAny (model X.prog X.w) X.A (call (.builtin "set.add") [.ref D, .int y t]) Q E s :=
  setR_add (setO_get I hD) few fun h' same now =>
    have there : ∃ u, h'.get? D = some u := let ⟨o, _, _, _, ho, _⟩ := now; ⟨o, ho⟩
    go _ (I.write (e := D) (t' := s.toks + 1) (by rw [hD]; trivial) (.inl rfl) (fun b u ne hu => (same.2 b ne).trans hu) there (setO_new now))

/-- what {e for x in .. if ..} asks where e is an int -/
def tScI (w : World) (wi : TI) (g : TG) (tt : TT) (te : TE) (vs : List Nat) : TE := fun σ H Q => wi σ H fun J H1 => ∀ D, H1 D = none →
  ∃ W : Nat → Nat → Hp → Prop, (∃ m, W 0 m (upd H1 D (SetO w D (fun _ => false) 0))) ∧ ∀ i m H, W i m H → (J.stop i H ∧ Q (.ref D) H) ∨
    (J.go i H ∧ ∃ Nx : Hp → Prop, (∀ H', Nx H' → ∃ m', m' < m ∧ W (i + 1) m' H') ∧ ∀ x H', J.yld i H x H' → g x (wipe σ vs) H' fun σ2 H2 => wipe σ2 vs = wipe σ vs ∧
      tt σ2 H2 fun b H3 => if b = true then te σ2 H3 fun y H4 => ∃ (k : Int) (S : Int → Bool) (n : Nat), y = .int k ∧ H4 D = some (SetO w D S n) ∧ n + 1 < scanBound ∧
        Nx (upd H4 D (SetO w D (fun j => S j || decide (j = k)) (if S k = true then n else n + 1))) else Nx H3)

abbrev emptySet (w : World) : Obj := { cls := .type "set", dict := none, data := .set #[] 0 (.fresh 0 0 (!w.params.followText "set-order")) }

theorem pe_scI {elt tg iter : Expr} {ifs : List Expr} {scope : Scope} {own : List (PySem.Str × Nat)} {pos : Pos} {wi : TI} {g : TG} {tt : TT} {te : TE}
    (hc : X.calm = true) (hN : X.N.Nodup) (hi : PI X tg iter wi) (ok : BlkOk X.N X.env.scope scope own)
    (hg : ∀ (s : Shared) (H : Hp) (C : Addr) (cl : List (PySem.Str × Addr)) (fp : List Addr), PG (X.blk s H scope (compEnvC scope cl C X.env) fp) tg g)
    (ht : ∀ (s : Shared) (H : Hp) (C : Addr) (cl : List (PySem.Str × Addr)) (fp : List Addr), PTs (X.blk s H scope (compEnvC scope cl C X.env) fp) ifs tt)
    (he : ∀ (s : Shared) (H : Hp) (C : Addr) (cl : List (PySem.Str × Addr)) (fp : List Addr), PE (X.blk s H scope (compEnvC scope cl C X.env) fp) elt te)
    (hs : ∀ x, foldedSetIterable iter X.env x = pure x := by intro _; rfl) :
    PE X (.SetComp elt [⟨tg, iter, ifs, 0⟩] scope pos) (tScI X.w wi g tt te (own.map (·.2))) := by
  refine ⟨fun pins s σ H Q I h => ?_⟩
  rw [eval_SetComp]
  have caught : ∀ y ∈ scope.names, y.2 = .free → ∃ c, X.env.cells.lookup y.1 = some c := fun y hy e =>
    (ok.free y hy e).elim (fun k => I.ok.has _ (.inl k)) fun k => I.ok.has _ (.inr k)
  refine wpAny_comprehension_free (use := none) rfl hs (closure_ok caught) ok.kind (fun y hy e => (ok.uniq y hy).trans (by rw [e])) (thn (hi.run pins s σ H _ I h) fun xv s1 hx => thn hx fun itv s2 h2 => ?_)
  obtain ⟨it, fp, tn, J, H2, rfl, I2, T, st2, f2, q⟩ := h2
  refine newSet_ok (newEnv_comp ?_)
  -- the new set's place
  obtain ⟨D, hD⟩ : ∃ D, s2.heap.objs.size = D := ⟨_, rfl⟩
  rw [hD]
  obtain ⟨W, ⟨m0, w0⟩, turn⟩ := q D (I2.hok.fresh (Nat.le_of_eq hD))
  obtain ⟨s3, hs3⟩ : ∃ s3 : Shared, { s2 with heap := s2.heap.push (emptySet X.w) } = s3 := ⟨_, rfl⟩
  have h3 : s3.heap = s2.heap.push (emptySet X.w) := by rw [← hs3]
  have I3 : Inv X pins σ (upd H2 D (SetO X.w D (fun _ => false) 0)) s3 := by
    have z := I2.laid (a := D) (o := SetO X.w D (fun _ => false) 0) (t' := s2.toks) (h' := s2.heap.push (emptySet X.w)) (fun b o e => Heap.get?_push_of_some _ e) (Nat.le_of_eq hD) (by rw [← hD]; exact setO_new (setR_fresh X.w))
    exact hs3 ▸ z
  have low : ∀ b ∈ fp, b < s2.heap.objs.size := fun b hb => let ⟨o, e, _⟩ := T.obj _ _ st2 b hb; Heap.lt_size e
  have f3 : ∀ b ∈ fp, FpOk X pins (upd H2 D (SetO X.w D (fun _ => false) 0)) b ∧ b < s3.heap.objs.size := fun b hb =>
    ⟨⟨(upd_ne (by rw [← hD]; exact Nat.ne_of_lt (low b hb))).trans (f2 b hb).1, (f2 b hb).2⟩, by rw [h3, Heap.size_push]; exact Nat.lt_succ_of_lt (low b hb)⟩
  have st3 : tn 0 s3.heap := T.keep _ _ _ st2 fun b _ o e => h3 ▸ Heap.get?_push_of_some _ e
  have I4 := block_start I3 ok hN f3
  obtain ⟨H3, hH3⟩ : ∃ H3, upd H2 D (SetO X.w D (fun _ => false) 0) = H3 := ⟨_, rfl⟩
  rw [hH3] at I3 f3 I4 w0
  obtain ⟨C, hC⟩ : ∃ C, s3.heap.objs.size = C := ⟨_, rfl⟩
  rw [hC] at I4
  have pg := hg s3 H3 C (cellsFrom (C + 1) scope.names (cloFrom X.env.cells scope.names [])) fp
  have pt := ht s3 H3 C (cellsFrom (C + 1) scope.names (cloFrom X.env.cells scope.names [])) fp
  have pe := he s3 H3 C (cellsFrom (C + 1) scope.names (cloFrom X.env.cells scope.names [])) fp
  subst hs3
  have hC' : (s2.heap.push (emptySet X.w)).objs.size = C := hC
  show codeAny _ _ (.compStart (.SetComp elt [⟨tg, iter, ifs, 0⟩] scope pos) 0 (.ref it) (.ref D) (compEnvC scope (cellsFrom ((s2.heap.push (emptySet X.w)).objs.size + 1) scope.names (cloFrom X.env.cells scope.names [])) (s2.heap.push (emptySet X.w)).objs.size X.env))
    (compPost (model X.prog X.w) X.A X.xe none (EP X pins σ Q) (.ref D) (s2.heap.push (emptySet X.w)).objs.size) { s2 with heap := pushCells ((s2.heap.push (emptySet X.w)).push { cls := .type "dict", data := .dict #[] }) scope.names }
  rw [hC']
  obtain ⟨ce, hce⟩ : ∃ ce, compEnvC scope (cellsFrom (C + 1) scope.names (cloFrom X.env.cells scope.names [])) C X.env = ce := ⟨_, rfl⟩
  rw [hce] at I4 pg pt pe ⊢
  have cL : ce.locals = C := by subst hce; rfl
  obtain ⟨s4, hs4⟩ : ∃ s4 : Shared, { s2 with heap := pushCells ((s2.heap.push (emptySet X.w)).push { cls := .type "dict", data := .dict #[] }) scope.names } = s4 := ⟨_, rfl⟩
  have I4 : Inv (X.blk _ H3 scope ce fp) [] (wipe σ (own.map (·.2))) H3 s4 := hs4 ▸ I4
  rw [hs4]
  have st4 : tn 0 s4.heap := T.keep _ _ _ st3 fun b _ o e => by rw [← hs4]; exact pushCells_keeps _ _ _ _ (Heap.get?_push_of_some _ e)
  obtain ⟨Y, hY⟩ : ∃ Y, X.blk { s2 with heap := s2.heap.push (emptySet X.w) } H3 scope ce fp = Y := ⟨_, rfl⟩
  have rest : ∀ {σ' : L2.St} {H' : Hp} {s' : Shared}, Inv Y [] σ' H' s' → (∀ b ∈ fp, H' b = none) → ∀ b ∈ fp, FpOk Y [] H' b := by
    subst hY
    intro σ' H' s' I' hn b hb
    exact ⟨hn b hb, (I'.ok.exf b hb).1, I'.ok.exfs b hb, .inl hb, fun x c e => (I'.ok.exf b hb).2 x c e, fun p hp => absurd (show p ∈ ([] : List (Addr × Obj)) ++ [] from hp) (by simp)⟩
  have round : codeAny (model X.prog X.w) X.A (.compLoop (.SetComp elt [⟨tg, iter, ifs, 0⟩] scope pos) 0 (.ref it) (.ref D) ce) (compPost (model X.prog X.w) X.A X.xe none (EP X pins σ Q) (.ref D) C) s4 := by
    refine compLoopS_any (fun n s' => ∃ i H', Inv Y [] (wipe σ (own.map (·.2))) H' s' ∧ tn i s'.heap ∧ (∀ b ∈ fp, H' b = none) ∧ W i n H') ?_ m0 ⟨0, H3, hY ▸ I4, st4, fun b hb => (f3 b hb).1.1, w0⟩
    rintro n s5 ⟨i, H5, I5, st5, n5, w5⟩
    rcases turn i n H5 w5 with ⟨stop, qq⟩ | ⟨go, Nx, hNx, step⟩
    · subst hY
      refine thnF (T.done (X.blk _ H3 scope ce fp) rfl rfl rfl hc i [] s5 _ H5 (fun _ _ => False) I5 (rest I5 n5) st5 stop) fun r s6 ⟨hr, I6⟩ => ?_
      subst hr
      have I7 : Inv X pins σ H5 s6 := I3.call' (ch := fp) I6.os I6.base I6.hok I6.bare fun b hb => ⟨(f3 b hb).1.2.2.2.1, (f3 b hb).1.2.1, (f3 b hb).1.2.2.2.2.1, (f3 b hb).1.2.2.2.2.2⟩
      have nC : H5 C = none := cL ▸ (show H5 ce.locals = none from I6.free)
      obtain ⟨m, hn, _⟩ := I6.loc
      have hn : s6.heap.Ns C m := cL ▸ (show s6.heap.Ns ce.locals m from hn)
      refine ⟨m, hn, fun h'' sb => ?_⟩
      obtain ⟨g0, g1, g2, g3, g4, g5⟩ := I3.fpOk (Nat.le_of_eq hC) nC
      exact ⟨.ref D, H5, I7.turned (t' := s6.toks) (fun b o hb e => (sb.2 b hb).trans e) g0 g1 g3 g4 g5, rfl, qq⟩
    · have ti := T.item Y (by subst hY; rfl) (by subst hY; rfl) (by subst hY; rfl) (by subst hY; exact hc) i [] s5 _ H5 (fun _ _ => False) I5 (rest I5 n5) st5 go
      subst hY
      refine thnF ti fun r s6 ⟨u, hr, h6⟩ => ?_
      subst hr
      refine thnF h6 fun _ s7 ⟨x, H7, I7, r7, y7, st7, n7⟩ => ?_
      refine thnF (pg.run _ s7 _ H7 x u _ (I7.pinned (rest I7 n7) (T.obj _ _ st7)) r7 (step x H7 y7)) fun _ s8 ⟨σ8, H8, I8, hw8, q8⟩ => ?_
      refine thnF (pt.run _ s8 σ8 H8 _ I8 q8) fun b s9 ⟨H9, I9, q9⟩ => ?_
      have turned : ∀ {s' : Shared} {H' : Hp}, Inv (X.blk { s2 with heap := s2.heap.push (emptySet X.w) } H3 scope ce fp) ([] ++ pinsAt fp s7.heap) σ8 H' s' → Nx H' → ∃ m, m < n ∧ ∃ i H', Inv (X.blk { s2 with heap := s2.heap.push (emptySet X.w) } H3 scope ce fp) [] (wipe σ (own.map (·.2))) H' s' ∧ tn i s'.heap ∧ (∀ b ∈ fp, H' b = none) ∧ W i m H' := by
        intro s' H' I' nx
        obtain ⟨m', hm, w'⟩ := hNx H' nx
        have pin : ∀ b ∈ fp, ∀ o, s7.heap.get? b = some o → s'.heap.get? b = some o ∧ H' b = none := fun b hb o e =>
          let z := I'.pin (b, o) (List.mem_append_right _ (List.mem_append_right _ (mem_pinsAt hb e))); ⟨z.1, z.2.1⟩
        refine ⟨m', hm, i + 1, H', (I'.unpinned (pins := [])).weak (by rw [← hw8, wipe_length]) (fun j v e => (wipe_some (by rw [hw8]; exact e)).1), T.keep _ _ _ st7 fun b hb o e => (pin b hb o e).1, fun b hb => ?_, w'⟩
        obtain ⟨o, e, _⟩ := T.obj _ _ st7 b hb
        exact (pin b hb o e).2
      cases b with
      | false => simp only [Bool.false_eq_true, if_false] at q9 ⊢; exact turned I9 q9
      | true =>
        simp only [if_true] at q9 ⊢
        refine thnF (pe.run _ s9 σ8 H9 _ I9 q9) fun z s10 ⟨yv, H10, I10, r10, k, S0, n0, ey, hD10, few, nx⟩ => ?_
        subst ey
        obtain ⟨t, rfl⟩ := r10
        exact putInt (X := X.blk _ H3 scope ce fp) I10 hD10 few fun s11 I11 => turned I11 nx
  exact codeAny_compStart_set round (T.self X.A 0 _ _ _ st4 round)

/-- the walk over a list that the block leaves as it is -/
theorem scI_list {w : World} {K : PySem.W.Frag} {a : Addr} {xs : List V} {g : TG} {tt : TT} {te : TE} {vs : List Nat} {σ : L2.St} {H1 : Hp} {D : Addr} {Qd : Hp → Prop}
    (Pv : Nat → Hp → Prop) (h0 : Pv 0 (upd H1 D (SetO w D (fun _ => false) 0))) (hl : ∀ i H, i ≤ xs.length → Pv i H → SqL K H a xs)
    (hs : ∀ i x H, xs[i]? = some x → Pv i H → g x (wipe σ vs) H fun σ2 H2 => wipe σ2 vs = wipe σ vs ∧ tt σ2 H2 fun b H3 => if b = true then te σ2 H3 fun y H4 =>
      ∃ (k : Int) (S : Int → Bool) (n : Nat), y = .int k ∧ H4 D = some (SetO w D S n) ∧ n + 1 < scanBound ∧ Pv (i + 1) (upd H4 D (SetO w D (fun j => S j || decide (j = k)) (if S k = true then n else n + 1))) else Pv (i + 1) H3)
    (hd : ∀ H, Pv xs.length H → Qd H) :
    ∃ W : Nat → Nat → Hp → Prop, (∃ m, W 0 m (upd H1 D (SetO w D (fun _ => false) 0))) ∧ ∀ i m H, W i m H → ((Itl K a).stop i H ∧ Qd H) ∨
      ((Itl K a).go i H ∧ ∃ Nx : Hp → Prop, (∀ H', Nx H' → ∃ m', m' < m ∧ W (i + 1) m' H') ∧ ∀ x H', (Itl K a).yld i H x H' → g x (wipe σ vs) H' fun σ2 H2 => wipe σ2 vs = wipe σ vs ∧
        tt σ2 H2 fun b H3 => if b = true then te σ2 H3 fun y H4 => ∃ (k : Int) (S : Int → Bool) (n : Nat), y = .int k ∧ H4 D = some (SetO w D S n) ∧ n + 1 < scanBound ∧
          Nx (upd H4 D (SetO w D (fun j => S j || decide (j = k)) (if S k = true then n else n + 1))) else Nx H3) := by
  refine ⟨fun i m H => m + i = xs.length ∧ Pv i H, ⟨xs.length, by simp, h0⟩, ?_⟩
  rintro i m H ⟨em, p⟩
  have here := hl i H (by omega) p
  rcases Nat.lt_or_ge i xs.length with lt | ge
  · refine .inr ⟨⟨xs, xs[i], here, by simp [lt]⟩, Pv (i + 1), fun H' p' => ⟨m - 1, by omega, by omega, p'⟩, fun x H' ⟨e, y⟩ => ?_⟩
    subst e
    exact hs i x _ (y xs here) p
  · have e : i = xs.length := by omega
    subst e
    exact .inl ⟨⟨xs, here, Nat.le_refl _⟩, hd H p⟩
end addi
end Rp

namespace Rp
open PySem PySem.Spec PyProof.Rows L2 PpSet
section
variable {P : Program} {w : World} {A : Around} {E : Value → Shared → Prop} {s : Shared}
set_option maxHeartbeats 6400000 in
theorem set_of_list {l : Addr} {items : Array Value} (ns : List Int) {Q : Value → Shared → Prop} (calm : A.handled = none) (hl : s.heap.IsList l items) (hi : IntsAre items.toList ns) (few : ns.length + 1 < scanBound)
    (go : ∀ (h' : Heap) (tk c : Nat), SetR w h' s.heap.objs.size (fun j => decide (j ∈ ns)) c → c ≤ ns.length → (∀ b o, s.heap.get? b = some o → h'.get? b = some o) → Q (.ref s.heap.objs.size) { s with heap := h', toks := tk }) :
    wpAny (model P w) A (call (.type "set") [.ref l]) Q E s := by
  have cnt : items.size = ns.length := by have q := IntsAre.length hi; rwa [Array.length_toList] at q
  obtain ⟨c, tl, hmro⟩ := F.called_set.mro
  have hmade := F.called_set.made
  have hsub := F.called_set.sub
  refine wpAny_call (codeAny_of_tree ?_)
  show wpAny _ _ (callAny (.type "set") _) _ _ _
  refine wpAny_pure ⟨Code.quiet_builtin _ (by decide +kernel), codeAny_builtin F.entry_type_call ?_⟩
  rw [Around.under_plain (weight_type_call_type "set" [.ref l] []) rfl]
  have h1 := F.called_set.notType
  have h2 := F.called_set.canCreate
  have hct := F.typeCall_set_1 (.ref l)
  repeat (any_goals (first | assumption | wp_step))
  refine codeAny_mono (code_set_led1 (.ref l) (E := E) (Q₁ := fun obj z => obj = .ref s.heap.objs.size ∧ z = { s with heap := s.heap.push (emptySet w) }) ⟨rfl, rfl⟩) fun r s₁ hr => ?_
  cases r with
  | error e => exact hr
  | ok fl =>
    cases fl with
    | ret obj =>
      obtain ⟨rfl, rfl⟩ := hr
      have atNew : (s.heap.push (emptySet w)).get? s.heap.objs.size = some (emptySet w) := Heap.get?_push_size _ rfl
      have hT : Shared.TypeIs { s with heap := s.heap.push (emptySet w) } (.ref s.heap.objs.size) "set" := ⟨_, atNew, rfl⟩
      have hli := F.called_set.init.lookup
      have hbi := F.called_set.init.bind (.ref s.heap.objs.size)
      repeat (any_goals (first | assumption | wp_step))
      refine codeAny_mono (codeAny_call_builtin (R := wants (fun r z => r = .none ∧ ∃ h' tk c, z = { s with heap := h', toks := tk } ∧ SetR w h' s.heap.objs.size (fun j => decide (j ∈ ns)) c ∧ c ≤ ns.length ∧
        (∀ b o, s.heap.get? b = some o → h'.get? b = some o)) E) F.called_set.init.plain F.entry_set_init (check_set_init_1 hT ?_)) fun r₂ s₂ hr₂ => ?_
      · obtain ⟨⟨ocls, odict, odata, oslots⟩, hol, hcl, nl, hdl⟩ := hl
        simp only at hcl hdl
        subst hcl hdl
        have hol' : (s.heap.push (emptySet w)).get? l = some { cls := .type "list", dict := odict, data := .seq items nl, slots := oslots } := Heap.get?_push_of_some _ hol
        have hsls := F.sub_list_set
        have hslf := F.sub_list_frozenset
        have hne : (Value.type "list" == Value.type "dict") = false := by decide
        have here : (s.heap.push (emptySet w)).IsList l items := ⟨_, hol', rfl, nl, rfl⟩
        unfold Builtin.«set.__init__» noKeywords Builtin.Frozenset.updateFrom
        generalize hPI : pyIter = PI
        wp_walk
        subst hPI
        refine wpAny_pyIter_list here (wpAny_bind (wpAny_runValue ?_))
        have below : l < s.heap.objs.size := Heap.lt_size hol
        have top : (s.heap.push (emptySet w)).objs.size = s.heap.objs.size + 1 := Heap.size_push ..
        have apart : l ≠ (s.heap.push (emptySet w)).objs.size := by rw [top]; exact Nat.ne_of_lt (Nat.lt_succ_of_lt below)
        have out : s.heap.objs.size ∉ [(s.heap.push (emptySet w)).objs.size, l] := by
          simp only [List.mem_cons, List.not_mem_nil, or_false, not_or, top]
          exact ⟨Nat.ne_of_lt (Nat.lt_succ_self _), Nat.ne_of_gt below⟩
        have each : ∀ (i : Nat) (v : Value), items[i]? = some v → ∃ k t, ns[i]? = some k ∧ v = .int k t := by
          intro i v hv
          have lt : i < ns.length := by rw [← cnt]; exact (Array.getElem?_eq_some_iff.mp hv).1
          obtain ⟨t, e⟩ := PyProof.Rows.IntsAre.int_at hi i v (by rw [Array.getElem?_toList]; exact hv)
          exact ⟨ns[i], t, List.getElem?_eq_getElem lt, by rw [e, List.getD_eq_getElem?_getD, List.getElem?_eq_getElem lt]; rfl⟩
        refine set_update_ints ((Walks.list (by simp [calm]) _ l apart items).toS) s.heap.objs.size out ns cnt few each (items.size - 0) 0 _ (by omega) (Nat.zero_le _)
          ⟨⟨_, Heap.get?_push_size _ rfl, rfl, rfl⟩, here.push _⟩ ⟨0, Nat.le_refl 0, setR_new_at (Heap.get?_push_of_some _ atNew)⟩ fun s' c' hm hc' hS' => ?_
        obtain ⟨h', g2, d', tk', os'⟩ := s'
        have eg : g2 = s.gens := hm.gens
        have ed : d' = s.drawn := hm.drawn
        have eo : os' = s.os := hm.os
        subst eg ed eo
        show wpAny _ _ _ _ _ _
        refine wpAny_pure ?_
        show wpAny _ _ (ret Value.none) _ _ _
        refine wpAny_pure ⟨rfl, h', tk', c', rfl, hS', by omega, fun b o e => ?_⟩
        have lt := Heap.lt_size e
        exact hm.heap b o (by simp only [List.mem_cons, List.not_mem_nil, or_false, not_or, top]; exact ⟨Nat.ne_of_lt lt, Nat.ne_of_lt (Nat.lt_succ_of_lt lt)⟩) (Heap.get?_push_of_some _ (Heap.get?_push_of_some _ e))
      · cases r₂ with
        | error e => exact hr₂
        | ok fl₂ =>
          cases fl₂ with
          | ret r =>
            obtain ⟨rfl, h', tk, c', rfl, hS', hc', hk'⟩ := hr₂
            repeat (any_goals (first | assumption | wp_step))
            exact go _ _ _ hS' hc' hk'
          | _ => exact hr₂.elim
    | _ => exact hr.elim
end
section
variable {X : Cx}
theorem intsOf : ∀ {ns : List Int} {us : List Value}, Vals (ns.map V.int) us → PyProof.Rows.IntsAre us ns
  | [], _, .nil => .nil
  | n :: ns, _, .cons ⟨k, e⟩ t => by subst e; exact .cons n k (intsOf t)
/-- set(xs), xs a list of ints -/
def rSetI (K : PySem.W.Frag) (w : World) : List V → Hp → VK → Prop := fun vs H Q => ∃ (a : Addr) (ns : List Int), vs = [V.ref a] ∧ SqL K H a (ns.map V.int) ∧ ns.length < 1000 ∧
  ∀ (p : Addr) (c : Nat), H p = none → c ≤ ns.length → Q (.ref p) (upd H p (SetO w p (fun j => decide (j ∈ ns)) c))
theorem cr_setI (hc : X.calm = true) : CallR X (.type "set") (rSetI X.K X.w) := by
  intro pins s σ H vs us Q I r h
  obtain ⟨a, ns, rfl, hs, hn, q⟩ := h
  rw [Vals.ref1 r]
  obtain ⟨its, rv, pl, hz⟩ := I.list hs
  refine set_of_list ns (I.ok.hd hc) pl.isList (by simpa using intsOf rv) (by unfold scanBound; omega) fun h' tk c R hc' k => ?_
  have hn : H s.heap.objs.size = none := I.hok.fresh (Nat.le_refl _)
  exact ⟨.ref _, upd H s.heap.objs.size (SetO X.w s.heap.objs.size (fun j => decide (j ∈ ns)) c), I.laid (t' := tk) k (Nat.le_refl _) (setO_new R), rfl, q _ c hn hc'⟩
end
end Rp

namespace Rp
open PySem L2
/-! ### TERMs -/
inductive Tm where
  | v (n : Int) | z | s (t : Tm) | f (l r : Tm)
  deriving DecidableEq
namespace Tm
def size : Tm → Nat
  | v _ => 1 | z => 1 | s t => t.size + 1 | f l r => l.size + r.size + 1
def deep : Tm → Nat
  | v _ => 0 | z => 0 | s t => t.deep + 1 | f l r => max l.deep r.deep + 1
def nums : Tm → List Int
  | v n => [n] | z => [] | s t => t.nums | f l r => l.nums ++ r.nums
/-- all parts, the whole first, the right-hand ones ahead of the left-hand ones -/
def rpost : Tm → List Tm
  | v n => [v n] | z => [z] | s t => s t :: t.rpost | f l r => f l r :: (r.rpost ++ l.rpost)
def kids : Tm → List Tm
  | v _ => [] | z => [] | s t => [t] | f l r => [l, r]
theorem size_pos : ∀ t : Tm, 1 ≤ t.size
  | v _ => Nat.le_refl _ | z => Nat.le_refl _ | s _ => by unfold size; omega | f _ _ => by unfold size; omega
theorem deep_lt : ∀ t : Tm, t.deep < t.size
  | v _ => Nat.zero_lt_one | z => Nat.zero_lt_one | s t => by have := deep_lt t; unfold deep size; omega
  | f l r => by have := deep_lt l; have := deep_lt r; unfold deep size; omega
theorem rpost_len : ∀ t : Tm, t.rpost.length = t.size
  | v _ => rfl | z => rfl | s t => by unfold rpost size; rw [List.length_cons, rpost_len t]
  | f l r => by unfold rpost size; rw [List.length_cons, List.length_append, rpost_len l, rpost_len r]; omega
/-- an int among the parts -/
theorem mem_rpost (n : Int) : ∀ t : Tm, v n ∈ t.rpost ↔ n ∈ t.nums
  | v m => by unfold rpost nums; simp
  | z => by unfold rpost nums; simp
  | s t => by unfold rpost nums; have := mem_rpost n t; simp [this]
  | f l r => by unfold rpost nums; have := mem_rpost n l; have := mem_rpost n r; simp [*]; exact Or.comm
theorem rpost_kids (t : Tm) : t.rpost = t :: (t.kids.reverse.flatMap rpost) := by
  cases t <;> simp [rpost, kids]
theorem kids_size (t : Tm) : (t.kids.map size).sum + 1 = t.size := by
  cases t <;> simp [kids, size] <;> omega
theorem nums_len : ∀ t : Tm, t.nums.length ≤ t.size
  | v _ => Nat.le_refl _ | z => Nat.zero_le _ | s t => by have := nums_len t; unfold nums size; omega
  | f l r => by have := nums_len l; have := nums_len r; unfold nums size; rw [List.length_append]; omega
/-- all signs, as law's leaves has them -/
def signs : Tm → List V
  | v n => [.int n] | z => [.str "0"] | s t => .str "s" :: t.signs | f l r => .str "f" :: (l.signs ++ r.signs)
theorem signs_len : ∀ t : Tm, t.signs.length = t.size
  | v _ => rfl | z => rfl | s t => by unfold signs size; rw [List.length_cons, signs_len t]
  | f l r => by unfold signs size; rw [List.length_cons, List.length_append, signs_len l, signs_len r]
end Tm
/-- the ints of a row of ints and texts -/
def rowInts : List V → List Int
  | [] => []
  | .int n :: r => n :: rowInts r
  | _ :: r => rowInts r
theorem rowInts_append : ∀ a b : List V, rowInts (a ++ b) = rowInts a ++ rowInts b
  | [], b => rfl
  | x :: r, b => by cases x <;> simp [rowInts, rowInts_append r b]
theorem signs_nums : ∀ t : Tm, rowInts t.signs = t.nums
  | .v _ => rfl | .z => rfl | .s t => by simp [Tm.signs, Tm.nums, rowInts, signs_nums t]
  | .f l r => by simp [Tm.signs, Tm.nums, rowInts, rowInts_append, signs_nums l, signs_nums r]
/-- a row of ints and texts -/
def Flat2 : V → Prop
  | .int _ => True
  | .str _ => True
  | _ => False
theorem signs_flat : ∀ t : Tm, ∀ x ∈ t.signs, Flat2 x
  | .v _, x, h => by simp [Tm.signs] at h; subst h; trivial
  | .z, x, h => by simp [Tm.signs] at h; subst h; trivial
  | .s t, x, h => by
    simp only [Tm.signs, List.mem_cons] at h
    rcases h with h | h
    · subst h; trivial
    · exact signs_flat t x h
  | .f l r, x, h => by
    simp only [Tm.signs, List.mem_cons, List.mem_append] at h
    rcases h with h | h | h
    · subst h; trivial
    · exact signs_flat l x h
    · exact signs_flat r x h
/-! ### two rising rows of the same ints are one -/
theorem rising_one : ∀ {a b : List Int}, a.Pairwise (· < ·) → b.Pairwise (· < ·) → (∀ k, k ∈ a ↔ k ∈ b) → a = b
  | [], [], _, _, _ => rfl
  | [], y :: b, _, _, h => by have := (h y).2 (by simp); simp at this
  | x :: a, [], _, _, h => by have := (h x).1 (by simp); simp at this
  | x :: a, y :: b, ha, hb, h => by
    rw [List.pairwise_cons] at ha hb
    have exy : x = y := by
      rcases List.mem_cons.mp ((h x).1 (by simp)) with e | e
      · exact e
      · rcases List.mem_cons.mp ((h y).2 (by simp)) with e' | e'
        · exact e'.symm
        · have := hb.1 x e
          have := ha.1 y e'
          omega
    subst exy
    rw [rising_one ha.2 hb.2 fun k => ?_]
    constructor
    · intro hk
      rcases List.mem_cons.mp ((h k).1 (List.mem_cons_of_mem _ hk)) with e | e
      · have := ha.1 k hk; omega
      · exact e
    · intro hk
      rcases List.mem_cons.mp ((h k).2 (List.mem_cons_of_mem _ hk)) with e | e
      · have := hb.1 k hk; omega
      · exact e
/-! ### heaps -/
/-- all but b stays -/
def But (b : Addr) (H H' : Hp) : Prop := ∀ c o, H c = some o → c ≠ b → H' c = some o
theorem But.refl (b : Addr) (H : Hp) : But b H H := fun _ _ h _ => h
theorem But.trans {b : Addr} {H H1 H2 : Hp} (x : But b H H1) (y : But b H1 H2) : But b H H2 := fun c o h n => y c o (x c o h n) n
theorem but_of {b : Addr} {H H' : Hp} (x : Same H H') : But b H H' := fun c o h _ => x c o h
theorem same_new {H : Hp} {p : Addr} (h : H p = none) (o : HO) : Same H (upd H p o) := fun b u q => by rw [upd_ne (ne_of_none q h)]; exact q
theorem but_upd {H : Hp} {b : Addr} (o : HO) : But b H (upd H b o) := fun c u h n => by rw [upd_ne n]; exact h
/-- the box of draws: j bounds how often it was drawn from -/
structure BoxAt (H : Hp) (b : Addr) (j : Nat) : Prop where
  ex : ∃ x y z : Int, H b = some (.lst [.int x, .int y, .int z]) ∧ 0 ≤ x ∧ 0 ≤ y ∧ y < 10000000000 ∧ 0 ≤ z ∧ z ≤ (j : Int)
theorem BoxAt.same {H H' : Hp} {b : Addr} {j : Nat} (B : BoxAt H b j) (e : Same H H') : BoxAt H' b j := by
  obtain ⟨x, y, z, h, r⟩ := B.ex
  exact ⟨x, y, z, e _ _ h, r⟩
theorem BoxAt.more {H : Hp} {b : Addr} {j k : Nat} (B : BoxAt H b j) (h : j ≤ k) : BoxAt H b k := by
  obtain ⟨x, y, z, e, h1, h2, h3, h4, h5⟩ := B.ex
  exact ⟨x, y, z, e, h1, h2, h3, h4, by omega⟩
theorem BoxAt.some {H : Hp} {b : Addr} {j : Nat} (B : BoxAt H b j) : ∃ xs, H b = some (.lst xs) := by
  obtain ⟨x, y, z, e, _⟩ := B.ex
  exact ⟨_, e⟩
/-- a TERM stands as the value v -/
inductive TmAt (H : Hp) : V → Tm → Prop where
  | v (n : Int) : TmAt H (.int n) (.v n)
  | z {a : Addr} (h : H a = some (.tup [.str "0"])) : TmAt H (.ref a) .z
  | s {a : Addr} {x : V} {t : Tm} (h : H a = some (.tup [.str "s", x])) (q : TmAt H x t) : TmAt H (.ref a) (.s t)
  | f {a : Addr} {x y : V} {l r : Tm} (h : H a = some (.tup [.str "f", x, y])) (q : TmAt H x l) (q' : TmAt H y r) : TmAt H (.ref a) (.f l r)
theorem TmAt.mono {H H' : Hp} (e : ∀ a xs, H a = some (.tup xs) → H' a = some (.tup xs)) {v : V} {t : Tm} (h : TmAt H v t) : TmAt H' v t := by
  induction h with
  | v n => exact .v n
  | z h => exact .z (e _ _ h)
  | s h _ ih => exact .s (e _ _ h) ih
  | f h _ _ ih ih' => exact .f (e _ _ h) ih ih'
theorem TmAt.same {H H' : Hp} (e : Same H H') {v : V} {t : Tm} (h : TmAt H v t) : TmAt H' v t := h.mono fun a xs q => e a _ q
theorem TmAt.but {H H' : Hp} {b : Addr} {ys : List V} (e : But b H H') (hb : H b = some (.lst ys)) {v : V} {t : Tm} (h : TmAt H v t) : TmAt H' v t :=
  h.mono fun a xs q => e a _ q (ne_of q hb (by intro z; cases z))
/-! ### what is alike, kind by kind (to a depth) -/
def Plain : V → Prop
  | .non => True
  | .bl _ => True
  | .int _ => True
  | .str _ => True
  | _ => False
def Alike (H : Hp) : Nat → V → V → Prop
  | 0, x, y => Plain x ∧ x = y
  | n + 1, x, y => (Plain x ∧ x = y) ∨ ∃ a b xs ys, x = .ref a ∧ y = .ref b ∧ ((H a = some (.lst xs) ∧ H b = some (.lst ys)) ∨ (H a = some (.tup xs) ∧ H b = some (.tup ys))) ∧
      xs.length = ys.length ∧ xs.length ≤ 1000000 ∧ ∀ (i : Nat) (u v : V), xs[i]? = some u → ys[i]? = some v → Alike H n u v
theorem Alike.mono {H H' : Hp} (e : Same H H') : ∀ (n : Nat) {x y : V}, Alike H n x y → Alike H' n x y
  | 0, _, _, h => by unfold Alike at h ⊢; exact h
  | n + 1, x, y, h => by
    unfold Alike at h ⊢
    rcases h with h | ⟨a, b, xs, ys, h1, h2, h3, h4, h5, h6⟩
    · exact .inl h
    · exact .inr ⟨a, b, xs, ys, h1, h2, h3.imp (fun q => ⟨e _ _ q.1, e _ _ q.2⟩) (fun q => ⟨e _ _ q.1, e _ _ q.2⟩), h4, h5, fun i u v p q => Alike.mono e n (h6 i u v p q)⟩
theorem alike_ints {H : Hp} {n : Nat} {a b : Addr} {ns : List Int} (ha : H a = some (.lst (ns.map V.int))) (hb : H b = some (.lst (ns.map V.int))) (hl : ns.length ≤ 1000000) : Alike H (n + 1) (.ref a) (.ref b) := by
  unfold Alike
  refine .inr ⟨a, b, _, _, rfl, rfl, .inl ⟨ha, hb⟩, rfl, by rw [List.length_map]; exact hl, fun i u v h1 h2 => ?_⟩
  have e : u = v := Option.some.inj (h1.symm.trans h2)
  subst e
  rw [List.getElem?_map] at h1
  cases q : ns[i]? with
  | none => rw [q] at h1; cases h1
  | some k =>
    rw [q] at h1
    cases h1
    cases n with
    | zero => unfold Alike; exact ⟨trivial, rfl⟩
    | succ n => unfold Alike; exact .inl ⟨trivial, rfl⟩
end Rp

/-! Defs whose body asks for the repr of lists and tuples: their promise is kept where no repr is at work (the around's guards are told to be none), and so where the law itself is called. -/
namespace Rp
open PySem PySem.Spec PyProof.Rows L2
structure GnOk (P : Program) (w : World) (K : PySem.W.Frag) (mg : Str → Option Value) (base : Heap) (k : Nat) (f : Addr) (fd : FuncData) (ps : List Str) (sp : Sp) : Prop where
  len : ∀ vs H Q E, sp vs H Q E → vs.length = ps.length
  run : ∀ (A : Around) (outer : List Env) (s : Shared) (H : Hp) (args : Args) (us : List Value) (vs : List V) (Q : VK) (E : XK), A.guards = some [] → Room k A → Env0 P w K mg base A outer s H → BindsTo s fd args (ps.zip us) → Vals vs us → sp vs H Q E →
    codeAny (model P w) A (.call (.ref f) args) (CR CX0 outer P w H s Q E) s
section
variable {P : Program} {w : World} {K : PySem.W.Frag} {mg : Str → Option Value} {base : Heap}
/-- a def by its body, the guards told -/
theorem gok {x qual : Str} {st : Stmt} {f : Addr} {fd : FuncData} {N ps : List Str} {k : Nat} {sp : Sp} (F : Fun K x qual st f fd) (S : FnScope N ps (defScope st)) (len : ∀ vs H Q E, sp vs H Q E → vs.length = ps.length)
    (walk : ∀ (cdv : Value) (A : Around) (outer : List Env) (s : Shared) (H : Hp) (vs : List V) (Q : VK) (E : XK), A.guards = some [] → Room k (A.deeper (envOfC qual (defScope st) s.heap.objs.size f cdv)) → sp vs H Q E →
      ∃ t, PSs (cxOf CX0 P w K mg base N qual (defScope st) f cdv A outer s H E).nox (defBody st) t ∧ t { nx := fun _ H' => Q .non H', rt := Q } (start N vs) H) : GnOk P w K mg base (k + 1) f fd ps sp := by
  obtain ⟨oc, od, kV, doc, pm, an, cdv, ct, osl, rfl, lk, hcd⟩ := F.ex
  refine ⟨len, fun A outer s H args us vs Q E hg hr e0 hb r hsp => ?_⟩
  have K0 : K.In s.heap := e0.mod.kin.keeps fun b o e => (e0.bs b o e).1
  have L0 : s.heap.NoLimit := e0.mod.nolimit.keeps fun b o e => (e0.bs b o e).1
  have each : ∀ y ∈ ps.zip us, (defScope st).names.lookup y.1 = some .local ∨ ((defScope st).names.lookup y.1 = some .cell ∧ ((cellsFrom (s.heap.objs.size + 1) (defScope st).names []).lookup y.1).isSome = true) := by
    rintro ⟨n, v⟩ hy
    exact (S.par n (List.of_mem_zip hy).1).imp id fun q => ⟨q, PySem.W.cellsFrom_some _ _ _ (.inl q)⟩
  refine codeAny_call_function hr.depth (K0 _ _ lk) rfl S.co S.gen rfl (PySem.W.codeRec_of K0 hcd) (hb _ _ _ _ (wpAny_newFunctionEnv_cells S.kind each fun env he s1 z => ?_))
  subst he
  refine ⟨L0.keeps z.toInCall.keep, codeAny_func ?_⟩
  obtain ⟨t, ht, hq⟩ := walk cdv A outer s H vs Q E hg (hr.deeper _) hsp
  have I : L2.Inv (cxOf CX0 P w K mg base N qual (defScope st) f cdv A outer s H E) [] (start N vs) H s1 := inv_start S hr.hd e0 (len _ _ _ _ hsp) r z
  refine wpAny_mono (ht.nox.run [] s1 (start N vs) H _ I hq) (fun fl s' hs => ?_) fun e s' hs => hs
  rcases fl with _ | _ | _ | u
  · obtain ⟨_, H', J, q⟩ := hs
    exact ⟨V.non, H', J.os, J.bare, J.base, J.hok, rfl, q⟩
  · exact hs.choose_spec.choose_spec.2.elim
  · exact hs.choose_spec.choose_spec.2.elim
  · obtain ⟨v, _, H', J, rv, q⟩ := hs
    exact ⟨v, H', J.os, J.bare, J.base, J.hok, rv, q⟩
end
section
variable {X : Cx} {k : Nat} {f : Addr} {fd : FuncData} {ps : List Str} {sp : Sp} {E : XK} {x : Str} {p pos : Pos} {e : Expr} {es : List Expr} {t : TA}
theorem pe_callG (F : GnOk X.prog X.w X.K X.mg X.base k f fd ps sp) (hgd : X.A.guards = some []) (hr : Room k X.A) (hg : Gl X x) (hm : X.mg x = some (.ref f)) (hk : PySem.W.keepIn X.K (.ref f) = true) (hb : Binds X.K fd ps []) (ha : PA X (e :: es) t)
    (hdb : (x == ("__debug__" : Str)) = false := by decide) (he : starEach (e :: es) X.env = (false, eval e X.env) :: starEach es X.env := by rfl) (hpl : (backTo pos (starEach es X.env)).any (·.1) = false := by rfl) :
    PE X (.Call (.Name x p) (e :: es) [] pos) (tCall sp [] E0 t) := by
  refine ⟨fun pins s σ H Q I h => wpAny_Call_Name_kw (ld_glob I hg hm ?_ hdb)⟩
  refine PySem.W.callWith_K (h₀ := X.base) I.ok.mod.kin hk (thn (ha.run pos pins s σ H _ I h) fun us s1 ⟨vs, H1, I1, r, q⟩ => ⟨I1.kIn, ?_⟩) he hpl
  have q : sp vs H1 Q E0 := by
    have z : sp (vs ++ []) H1 Q E0 := q
    rwa [List.append_nil] at z
  have hl : us.length = ps.length := r.length.symm.trans (F.len _ _ _ _ q)
  have hb' := hb s1 us I1.kIn (by rw [List.append_nil]; exact hl)
  rw [List.append_nil] at hb'
  refine wpAny_call (codeAny_mono (F.run X.A X.stack s1 H1 ⟨us, []⟩ us vs Q E0 hgd hr I1.env0 hb' r q) fun r' s' hq => ?_)
  rcases r' with e' | fl
  · exact hq.elim
  · rcases fl with _ | _ | _ | u
    · exact hq.elim
    · exact hq.elim
    · exact hq.elim
    · exact I1.after hq
/-- repr(v), v data at any depth -/
def rReprD (K : PySem.W.Frag) : List V → Hp → VK → Prop := fun vs H Q => ∃ (v : V) (d : PyData), vs = [v] ∧ Dp K H v d ∧ d.showable = true ∧ d.hasDict = false ∧ d.depth ≤ 64 ∧ d.shown.length ≤ sizeLine ∧ Q (.str d.shown) H
theorem cr_reprD (hgd : X.A.guards = some []) (hu : X.A.units + 66 < cLine) : CallR X (.builtin "repr") (rReprD X.K) := by
  intro pins s σ H vs us Q I r h
  obtain ⟨v, d, rfl, hd, sh, nd, dp, sz, q⟩ := h
  obtain ⟨u, rfl, ru⟩ := vals1 r
  obtain ⟨as, rd⟩ := Dp.reads I d v u hd ru
  cases hd with
  | non => cases ru; exact PySem.P.repr_of_none ⟨.str "None", H, I.tok _, ⟨_, rfl⟩, by simpa [PyData.shown] using q⟩
  | bl b => cases ru; exact PySem.P.repr_of_bool ⟨.str (if b then "True" else "False"), H, I.tok _, ⟨_, rfl⟩, by simpa [PyData.shown] using q⟩
  | int i =>
    obtain ⟨t, rfl⟩ := ru
    exact PySem.P.repr_of_int (by simpa [PyData.showable] using sh) ⟨.str (toString i), H, I.tok _, ⟨_, rfl⟩, by simpa [PyData.shown] using q⟩
  | str x =>
    obtain ⟨t, rfl⟩ := ru
    exact PySem.P.repr_of_str ⟨.str (reprText x), H, I.tok _, ⟨_, rfl⟩, by simpa [PyData.shown] using q⟩ (by simpa [PyData.shown] using sz)
  | lst a b =>
    cases ru
    exact PySem.repr_of_reads' rd sh (fun e => by rw [nd] at e; cases e) hgd (by omega) (fun _ _ e => e) (fun h' u tk k => ⟨.str _, H, I.kept (t' := tk) k, ⟨u, rfl⟩, q⟩) sz
  | tup a b =>
    cases ru
    exact PySem.repr_of_reads' rd sh (fun e => by rw [nd] at e; cases e) hgd (by omega) (fun _ _ e => e) (fun h' u tk k => ⟨.str _, H, I.kept (t' := tk) k, ⟨u, rfl⟩, q⟩) sz
end
/-- the law's own call, its promise with the guards told -/
theorem law_callG {P : Program} {w : World} {K : PySem.W.Frag} {mg mb : Str → Option Value} {k : Nat} {fa a : Addr} {fd : FuncData} {x : Str} {sp : Sp} {s₁ : Shared} {vs : List Value} {ns : List Int}
    (KX : K.In s₁.heap) (hns : s₁.heap.Ns mainGlobals mg) (hb : s₁.heap.Ns builtinsNs mb) (hbb : ∀ x : Str, x ≠ "__name__" → mb x = bootBuiltins x) (hlim : s₁.heap.NoLimit) (hg : s₁.gens = #[])
    (ha : s₁.heap.get? a = some { cls := .type "list", data := .seq vs.toArray }) (hi : IntsAre vs ns) (hl : ns.length ≤ sizeLine) (hr : Room k callerA)
    (F : ∀ base : Heap, K.In base → base.Ns mainGlobals mg → GnOk P w K mg base k fa fd [x] sp) (bind : ∀ (s : Shared) (u : Value), BindsTo s fd ⟨[u], []⟩ [(x, u)])
    (ask : ∀ H : Hp, Only H → SqL K H a (ns.map V.int) → sp [.ref a] H (fun v _ => v = .bl true) E0) :
    codeAny (model P w) callerA (.call (.ref fa) ⟨[.ref a], []⟩) (fun r s' => r = .ok (.ret (.bool true)) ∧ OldK s₁.heap s'.heap ∧ s'.os = s₁.os ∧ AllBare s'.gens) s₁ := by
  have rv := vals_ints hi
  have lenV := hi.length
  have from_ : ∀ H : Hp, Only H → SqL K H a (ns.map V.int) → HOk P w H s₁.heap → (∀ b, H b ≠ none → b = a ∧ K.lookup a = none) →
      codeAny (model P w) callerA (.call (.ref fa) ⟨[.ref a], []⟩) (fun r s' => r = .ok (.ret (.bool true)) ∧ OldK s₁.heap s'.heap ∧ s'.os = s₁.os ∧ AllBare s'.gens) s₁ := by
    intro H only hS hok hA
    have free : ∀ {b : Addr} {o : Obj}, s₁.heap.get? b = some o → (b = a → False) → H b = none := fun {b o} _ n => by
      cases q : H b with
      | none => rfl
      | some u => exact (n (hA b (by rw [q]; simp)).1).elim
    have low : ∀ {b : Addr} {o : Obj}, s₁.heap.get? b = some o → H b = none → (hidT s₁.heap H).get? b = some o := fun e n => hidT_get e n
    have names : ∀ {b : Addr} {m : Str → Option Value}, s₁.heap.Ns b m → (hidT s₁.heap H).Ns b m := fun {b m} ⟨o, es, ep, e, d, r⟩ =>
      ⟨o, es, ep, low e (free e fun z => by subst z; rw [ha] at e; cases e; cases d), d, r⟩
    have hK : K.In (hidT s₁.heap H) := fun b o e => low (KX b o e) (by
      cases q : H b with
      | none => rfl
      | some u =>
        obtain ⟨z, zk⟩ := hA b (by rw [q]; simp)
        subst z
        rw [zk] at e; cases e)
    have M : Mod K mg (hidT s₁.heap H) := ⟨hK, names hns, ⟨mb, names hb, hbb⟩, let ⟨mc, h1, h2⟩ := hlim; ⟨mc, names h1, h2⟩⟩
    have e0 : Env0 P w K mg (hidT s₁.heap H) callerA [] s₁ H := ⟨rfl, M, fun b o e => of_hidT e, Nat.le_of_eq (hidT_size _ _), trivial, fun b z => absurd (show b ∈ ([] : List Addr) from z) (by simp), hok, .of_eq hg⟩
    refine codeAny_mono ((F _ hK (names hns)).run callerA [] s₁ H ⟨[.ref a], []⟩ [.ref a] [.ref a] _ _ rfl hr e0 (bind s₁ (.ref a)) (.cons rfl .nil) (ask H only hS)) fun r s' h => ?_
    rcases r with e | fl
    · exact h.elim
    · rcases fl with _ | _ | _ | u
      · exact h.elim
      · exact h.elim
      · exact h.elim
      · obtain ⟨v, H', os, bare, un, hok', r', q⟩ := h
        obtain rfl : v = .bl true := q
        obtain rfl : u = Value.bool true := r'
        refine ⟨rfl, OldK.of_keep fun b o e => ?_, os, bare⟩
        cases q : H b with
        | none => exact un.keep b o e q (by intro z; exact absurd (show b ∈ ([] : List Addr) from z) (by simp)) (by simp)
        | some u =>
          rcases only b with z | ⟨ob, xs, z⟩
          · rw [q] at z; cases z
          · obtain ⟨e1, _⟩ := hok b _ z
            obtain ⟨e2, _⟩ := hok' b _ (un.frzs b ob _ z)
            rw [e] at e1; cases e1
            exact e2
  cases hk : K.lookup a with
  | some o =>
    have e := KX a o hk
    rw [ha] at e
    cases e
    exact from_ (fun _ => none) (fun _ => .inl rfl) (.inr ⟨_, vs.toArray, _, hk, rfl, rfl, rfl, by rw [List.size_toArray, lenV]; exact hl, by simpa using rv⟩) (fun b u z => nomatch (show (none : Option HO) = some u from z)) fun b z => absurd rfl z
  | none =>
    have at_ : ∀ b, (fun b => if b = a then some (HO.frz { cls := .type "list", data := .seq vs.toArray } (.lst (ns.map V.int))) else none) b ≠ none → b = a := fun b z => by
      by_cases hb : b = a
      · exact hb
      · exact absurd (if_neg hb) z
    refine from_ _ (fun b => ?_) (.inl (.inr ⟨_, if_pos rfl⟩)) (fun b u z => ?_) fun b z => ⟨at_ b z, hk⟩
    · by_cases hb : b = a
      · exact .inr ⟨_, _, if_pos hb⟩
      · exact .inl (if_neg hb)
    · have hb := at_ b (fun e => by have y := z.symm.trans e; cases y)
      subst hb
      have z' := (if_pos rfl).symm.trans z
      cases z'
      exact ⟨ha, by rw [List.length_map]; exact hl, vs, _, rv, ha⟩
theorem walk_ofG {l : PySem.W.OpenLaw} {n k : Nat} {q : Program} {loose : List Str} {XP : (Str → Option Value) → Heap → Prop} {YP : World → Heap → Prop} {d : DefRec} {K : Params → PySem.W.Frag} {sp : PySem.W.Frag → Sp} {x : Str}
    (hn : l.most = some n) (hn2 : n ≤ sizeLine) (hdf : d.params.defaults = []) (hr : Room k callerA) (hY : ∀ (w : World) (h : Heap), YP w h → (K w.params).In h)
    (F : ∀ (w : World) (mg : Str → Option Value) (fa : Addr) (h : Heap), (K w.params).In h → h.Ns mainGlobals mg → mg d.name = some (.ref fa) →
      ∃ fd : FuncData, (∀ (s : Shared) (u : Value), BindsTo s fd ⟨[u], []⟩ [(x, u)]) ∧ ∀ base : Heap, (K w.params).In base → base.Ns mainGlobals mg → GnOk l.prog w (K w.params) mg base k fa fd [x] (sp (K w.params)))
    (ask : ∀ (K : PySem.W.Frag) (H : Hp) (a : Addr) (ns : List Int), ns.length ≤ n → Only H → SqL K H a (ns.map V.int) → sp K [.ref a] H (fun v _ => v = .bl true) E0) :
    PySem.W.WalkO q loose XP YP l.row.toRowW d [] (fun f vs => PySem.call f vs) := by
  refine Att.attach_call hn hdf fun w s₀ s₁ mg mb fa o pm cd doc a vs ns G Y ho hd hcd hmg hobj hints hlen hg => ?_
  obtain ⟨fd, hb, hF⟩ := F w mg fa _ (hY w _ Y) G.T.g hmg
  exact law_callG (hY w _ Y) G.T.g G.T.b G.T.builtins G.T.nolimit hg hobj hints (Nat.le_trans hlen hn2) hr hF hb fun H hO hS => ask _ H a ns hlen hO hS
end Rp

namespace Rp
open PySem L2
def top (i : Nat) : Stmt := PySem.Challenge.pw_ringproofs_k27_what_steps_are.main.body.getD i (.Pass ⟨0, 0, 0, 0⟩)
abbrev sNumber : Stmt := top 3
abbrev sPlace : Stmt := top 4
abbrev sVariable : Stmt := top 5
abbrev sShape : Stmt := top 6
abbrev sTerm : Stmt := top 7
abbrev sIsPair : Stmt := top 8
abbrev sIsBinding : Stmt := top 9
abbrev sIsName : Stmt := top 13
abbrev sIsAtom : Stmt := top 14
abbrev sUnlike : Stmt := top 17
abbrev sIsSaying : Stmt := top 18
abbrev sIsStep : Stmt := top 20
abbrev sBox : Stmt := top 22
abbrev sTake : Stmt := top 23
abbrev sPick : Stmt := top 24
abbrev sSame : Stmt := top 25
abbrev sNames : Stmt := top 26
abbrev sTermL : Stmt := top 27
abbrev sUnlikeL : Stmt := top 28
abbrev sShapes : Stmt := top 29
abbrev sRuleL : Stmt := top 30
abbrev sBaseL : Stmt := top 31
abbrev sRulesL : Stmt := top 32
abbrev sAtomL : Stmt := top 33
abbrev sSayingL : Stmt := top 34
abbrev sBegin : Stmt := top 35
abbrev sOther : Stmt := top 36
abbrev sCountW : Stmt := top 37
abbrev sTermW : Stmt := top 38
abbrev sWordW : Stmt := top 39
abbrev sAtomW : Stmt := top 40
abbrev sSayingW : Stmt := top 41
abbrev sBindingW : Stmt := top 42
abbrev sStepW : Stmt := top 43
abbrev sPuts : Stmt := top 44
abbrev sSteps : Stmt := top 45
abbrev sLaw : Stmt := top 46
end Rp

namespace Rp
open PySem L2
/-! ### promises -/
def spBox (K : PySem.W.Frag) : Sp := fun vs H Q _ => ∃ (a : Addr) (ns : List Int) (k : Int), vs = [.ref a, .int k] ∧ SqL K H a (ns.map V.int) ∧ ns.length ≤ 63 ∧ 0 ≤ k ∧ k ≤ 63 ∧
  ∀ (b : Addr) (H' : Hp), H b = none → BoxAt H' b 0 → Same H H' → Q (.ref b) H'
def spTake : Sp := fun vs H Q _ => ∃ (b : Addr) (c : Int) (j : Nat), vs = [.ref b, .int c] ∧ BoxAt H b j ∧ j ≤ 1000000 ∧ 1 ≤ c ∧ c ≤ 1000000000 ∧
  ∀ (r : Int) (H' : Hp), 0 ≤ r → r < c → BoxAt H' b (j + 1) → But b H H' → Q (.int r) H'
def spPick : Sp := fun vs H Q _ => ∃ (b p : Addr) (xs : List V) (j : Nat), vs = [.ref b, .ref p] ∧ BoxAt H b j ∧ j ≤ 1000000 ∧ H p = some (.lst xs) ∧ p ≠ b ∧ 1 ≤ xs.length ∧ xs.length ≤ 1000000 ∧
  ∀ (v : V) (H' : Hp), v ∈ xs → BoxAt H' b (j + 1) → But b H H' → Q v H'
section
variable {P : Program} {w : World} {K : PySem.W.Frag} {mg : Str → Option Value} {base : Heap}
theorem fmod_pos {a c : Int} (h : 0 < c) : 0 ≤ a.fmod c ∧ a.fmod c < c := by
  rw [Int.fmod_eq_emod_of_nonneg a (Int.le_of_lt h)]
  exact ⟨Int.emod_nonneg a (by omega), Int.emod_lt_of_pos a h⟩
theorem fdiv_pos {a c : Int} (h : 0 < c) (ha : 0 ≤ a) : 0 ≤ a.fdiv c := by
  rw [Int.fdiv_eq_ediv_of_nonneg a (Int.le_of_lt h)]
  exact Int.ediv_nonneg ha (Int.le_of_lt h)
theorem scBox : FnScope ["_law_script", "_law_k", "_law_cell"] ["_law_script", "_law_k"] (defScope sBox) := ⟨rfl, rfl, rfl, by decide +kernel, rfl, by decide +kernel, by decide +kernel⟩
theorem ok_box {f : Addr} {fd : FuncData} (F : Fun K "_law_box" "_law_box" sBox f fd) (mLen : mg "len" = none) (mAbs : mg "abs" = none) (mInt : mg "int" = none) :
    FnOk P w K mg base CX0 1 f fd ["_law_script", "_law_k"] (spBox K) := by
  refine F.ok scBox (fun vs H Q E h => ?_) (fun cdv A outer s H vs Q E hr h => ?_)
  · obtain ⟨a, ns, k, rfl, _⟩ := h
    rfl
  obtain ⟨a, ns, k, rfl, hS, hl, h0, h1, q⟩ := h
  refine ⟨_, pss_cons (ps_set (i := 2) scBox.nd rfl (Or.inl rfl) pe_int)
    (pss_cons (ps_if (pt_cmpR op_lt (pv 1) (pe_callB call_len_seq (by rfl) mLen PySem.boot_len (pa_cons (pv 0) pa_nil)) (nomark _))
      (pss_one (ps_set (i := 2) scBox.nd rfl (Or.inl rfl) (pe_ix ix_list (pv 0) (pv 1) (fun _ _ => rfl)))) pss_nil)
    (pss_one (ps_ret (pe_lst (pa_cons
      (pe_op op_mul (pe_callB call_abs (by rfl) mAbs (by decide +kernel) (pa_cons (pv 2) pa_nil))
        (pe_callTy call_int1 (by rfl) mInt (by decide +kernel) (pa_cons (pe_cmpR op_ge (pe_callB call_abs (by rfl) mAbs (by decide +kernel) (pa_cons (pv 2) pa_nil)) (pe_op op_pow pe_int pe_int) (nomark _)) pa_nil)))
      (pa_cons (pe_op op_add (pe_op op_add (pe_op op_modN (pv 2) pe_int) (pe_op op_mul pe_int (pv 1))) pe_int) (pa_cons pe_int pa_nil))))))), ?_⟩
  refine ⟨_, rfl, _, rfl, a, _, rfl, .inl hS, _, _, rfl, rfl, _, rfl, ?_⟩
  have two : ∀ (b : Bool), -(2 ^ 64) < (if b = true then (1 : Int) else 0) ∧ (if b = true then (1 : Int) else 0) < 2 ^ 64 ∧ 0 ≤ (if b = true then (1 : Int) else 0) := by decide
  have pos : ∀ c : Int, 0 ≤ if c < 0 then -c else c := fun c => by split <;> omega
  have m := fun c : Int => fmod_pos (a := c) (c := 2147483629) (by decide)
  refine ite2 (fun c => ?_) (fun c => ?_)
  · have hk : k.toNat < ns.length := by
      have z : k < (((ns.map V.int).length : Nat) : Int) := of_decide_eq_true c
      rw [List.length_map] at z
      omega
    have it : atI (ns.map V.int) k = some (.int ns[k.toNat]) := at_of (j := k.toNat) (by omega) (by rw [List.getElem?_map, List.getElem?_eq_getElem hk]; rfl)
    refine ⟨_, rfl, _, rfl, a, _, _, _, rfl, rfl, hS, it, ?_⟩
    refine ⟨_, rfl, _, rfl, _, rfl, _, rfl, _, _, rfl, rfl, ⟨by decide, by decide, by decide⟩, _, _, rfl, rfl, .inr ⟨_, rfl, ?_⟩⟩
    refine ⟨_, _, rfl, rfl, .inr ⟨(two _).1, (two _).2.1⟩, _, rfl, _, _, rfl, rfl, (fun h => absurd h (by decide)), _, rfl, _, _, rfl, rfl, .inl ⟨by decide, by decide⟩, _, _, rfl, rfl, _, _, rfl, rfl, (by show 3 ≤ sizeLine; decide), fun b hb => ?_⟩
    have mm := m ns[k.toNat]
    exact q b _ hb ⟨_, _, _, upd_same, Int.mul_nonneg (pos _) (two _).2.2, by omega, by omega, by decide, by decide⟩ (same_new hb _)
  · refine ⟨_, rfl, _, rfl, _, rfl, _, rfl, _, _, rfl, rfl, ⟨by decide, by decide, by decide⟩, _, _, rfl, rfl, .inr ⟨_, rfl, ?_⟩⟩
    refine ⟨_, _, rfl, rfl, .inr ⟨(two _).1, (two _).2.1⟩, _, rfl, _, _, rfl, rfl, (fun h => absurd h (by decide)), _, rfl, _, _, rfl, rfl, .inl ⟨by decide, by decide⟩, _, _, rfl, rfl, _, _, rfl, rfl, (by show 3 ≤ sizeLine; decide), fun b hb => ?_⟩
    have mm := m 0
    exact q b _ hb ⟨_, _, _, upd_same, Int.mul_nonneg (pos _) (two _).2.2, by omega, by omega, by decide, by decide⟩ (same_new hb _)
theorem scTake : FnScope ["_law_box_here", "_law_reach", "_law_found", "_law_once"] ["_law_box_here", "_law_reach"] (defScope sTake) := ⟨rfl, rfl, rfl, by decide +kernel, rfl, by decide +kernel, by decide +kernel⟩
theorem ok_take {f : Addr} {fd : FuncData} (F : Fun K "_law_take" "_law_take" sTake f fd) : FnOk P w K mg base CX0 1 f fd ["_law_box_here", "_law_reach"] spTake := by
  refine F.ok scTake (fun vs H Q E h => ?_) (fun cdv A outer s H vs Q E hr h => ?_)
  · obtain ⟨b, c, j, rfl, _⟩ := h
    rfl
  obtain ⟨b, c, j, rfl, B, hj, h1, h2, q⟩ := h
  obtain ⟨x, y, z, hb, x0, y0, y1, z0, z1⟩ := id B
  have s0 : SqL K H b [.int x, .int y, .int z] := .inl (.inl hb)
  have a0 : ∀ u v t : Int, atI [V.int u, .int v, .int t] 0 = some (.int u) := fun u v t => at_of (j := 0) rfl rfl
  have a1 : ∀ u v t : Int, atI [V.int u, .int v, .int t] 1 = some (.int v) := fun u v t => at_of (j := 1) rfl rfl
  have a2 : ∀ u v t : Int, atI [V.int u, .int v, .int t] 2 = some (.int t) := fun u v t => at_of (j := 2) rfl rfl
  refine ⟨_, pss_cons (ps_if (pt_cmpR op_gt (pe_ix ix_list (pv 0) pe_int (fun _ _ => rfl)) pe_int (nomark _))
      (pss_cons (ps_set (i := 2) scTake.nd rfl (Or.inl rfl) (pe_op op_modN (pe_ix ix_list (pv 0) pe_int (fun _ _ => rfl)) (pv 1)))
      (pss_cons (ps_asg (pe_op op_fdivN (pe_ix ix_list (pv 0) pe_int (fun _ _ => rfl)) (pv 1)) (pg_sub (pv 0) pe_int set_list))
      (pss_one (ps_ret (pv 2))))) pss_nil)
    (pss_cons (ps_asg (pe_op op_add (pe_ix ix_list (pv 0) pe_int (fun _ _ => rfl)) pe_int) (pg_sub (pv 0) pe_int set_list))
    (pss_cons (ps_set (i := 3) scTake.nd rfl (Or.inl rfl) (pe_op op_modN (pe_op op_pow (pe_op op_add (pe_ix ix_list (pv 0) pe_int (fun _ _ => rfl)) (pe_op op_mul pe_int (pe_ix ix_list (pv 0) pe_int (fun _ _ => rfl)))) pe_int) pe_int))
    (pss_one (ps_ret (pe_op op_modN (pe_op op_fdivN (pe_op op_modN (pe_op op_add (pe_op op_mul (pv 3) (pe_op op_add (pe_op op_modN (pv 3) pe_int) pe_int)) (pe_op op_mul (pe_ix ix_list (pv 0) pe_int (fun _ _ => rfl)) pe_int)) pe_int) pe_int) (pv 1)))))), ?_⟩
  refine ⟨_, rfl, b, _, _, _, rfl, rfl, s0, a0 _ _ _, _, _, rfl, rfl, _, rfl, ?_⟩
  refine ite2 (fun d => ?_) (fun d => ?_)
  · refine ⟨_, rfl, b, _, _, _, rfl, rfl, s0, a0 _ _ _, _, rfl, _, _, rfl, rfl, (by omega), ?_⟩
    refine ⟨_, rfl, b, _, _, _, rfl, rfl, s0, a0 _ _ _, _, rfl, _, _, rfl, rfl, ⟨by omega, by omega⟩, ?_⟩
    refine ⟨_, rfl, b, _, _, 0, rfl, rfl, hb, rfl, ?_⟩
    have m := fmod_pos (a := x) (c := c) (by omega)
    exact ⟨_, rfl, q _ _ m.1 m.2 ⟨_, _, _, upd_same, fdiv_pos (by omega) x0, y0, y1, z0, by omega⟩ (but_upd _)⟩
  · refine ⟨_, rfl, b, _, _, _, rfl, rfl, s0, a2 _ _ _, _, _, rfl, rfl, ?_⟩
    refine ⟨_, rfl, b, _, _, 2, rfl, rfl, hb, rfl, ?_⟩
    have hb' : (upd H b (.lst [.int x, .int y, .int (z + 1)])) b = some (.lst [.int x, .int y, .int (z + 1)]) := upd_same
    have s1 : SqL K (upd H b (.lst [.int x, .int y, .int (z + 1)])) b [.int x, .int y, .int (z + 1)] := .inl (.inl hb')
    refine ⟨_, rfl, b, _, _, _, rfl, rfl, s1, a1 _ _ _, _, rfl, b, _, _, _, rfl, rfl, s1, a2 _ _ _, _, _, rfl, rfl, .inl ⟨by decide, by decide⟩, _, _, rfl, rfl, _, _, rfl, rfl, ⟨by decide, by decide, by omega⟩, _, _, rfl, rfl, (fun h => absurd h (by decide)), ?_⟩
    generalize (y + 39373 * (z + 1)) ^ Int.toNat 5 = g
    have m := fmod_pos (a := g) (c := 2147483647) (by decide)
    refine ⟨_, rfl, _, rfl, _, _, rfl, rfl, (fun h => absurd h (by decide)), _, _, rfl, rfl, _, _, rfl, rfl, .inl ⟨by omega, by omega⟩, _, rfl, b, _, _, _, rfl, rfl, s1, a2 _ _ _, _, _, rfl, rfl, .inl ⟨by omega, by omega⟩, _, _, rfl, rfl, _, _, rfl, rfl, (fun h => absurd h (by decide)), _, _, rfl, rfl, ⟨by decide, by decide⟩, _, rfl, _, _, rfl, rfl, (by omega), ?_⟩
    generalize Int.fdiv _ _ = e
    have m2 := fmod_pos (a := e) (c := c) (by omega)
    exact q _ _ m2.1 m2.2 ⟨_, _, _, upd_same, x0, y0, y1, by omega, by omega⟩ (but_upd _)
theorem scPick : FnScope ["_law_box_here", "_law_things"] ["_law_box_here", "_law_things"] (defScope sPick) := ⟨rfl, rfl, rfl, by decide +kernel, rfl, by decide +kernel, by decide +kernel⟩
theorem ok_pick {f fT : Addr} {fd fdT : FuncData} (F : Fun K "_law_pick" "_law_pick" sPick f fd) (FT : Fun K "_law_take" "_law_take" sTake fT fdT) (bT : Binds K fdT ["_law_box_here", "_law_reach"] []) (mT : mg "_law_take" = some (.ref fT)) (mLen : mg "len" = none) :
    FnOk P w K mg base CX0 2 f fd ["_law_box_here", "_law_things"] spPick := by
  have GT : FnOk P w K mg base CX0 1 fT fdT ["_law_box_here", "_law_reach"] spTake := ok_take FT
  refine F.ok scPick (fun vs H Q E h => ?_) (fun cdv A outer s H vs Q E hr h => ?_)
  · obtain ⟨b, p, xs, j, rfl, _⟩ := h
    rfl
  obtain ⟨b, p, xs, j, rfl, B, hj, hp, ne, l1, l2, q⟩ := h
  refine ⟨_, pss_one (ps_ret (pe_ix ix_list (pv 1) (pe_call GT hr rfl mT FT.kp bT .nil pass0 (pa_cons (pv 0) (pa_cons (pe_callB call_len_seq (by rfl) mLen PySem.boot_len (pa_cons (pv 1) pa_nil)) pa_nil))) (fun _ _ => rfl))), ?_⟩
  refine ⟨_, rfl, _, rfl, _, rfl, p, _, rfl, .inl (.inl (.inl hp)), b, _, j, rfl, B, hj, by omega, by omega, fun r H' r0 r1 B' o => ?_⟩
  have hr' : r.toNat < xs.length := by omega
  refine ⟨p, _, _, _, rfl, rfl, .inl (.inl (o _ _ hp ne)), at_of (j := r.toNat) (v := xs[r.toNat]) (by omega) (List.getElem?_eq_getElem hr'), ?_⟩
  exact q _ _ (List.getElem_mem hr') B' o
end
end Rp

namespace Rp
open PySem L2
section
variable {P : Program} {w : World} {K : PySem.W.Frag} {mg : Str → Option Value} {base : Heap}
theorem none_left {k : Nat} {f : Addr} {fd : FuncData} {ps : List Str} {sp : Sp} (no : ∀ vs H Q E, ¬ sp vs H Q E) : FnOk P w K mg base CX0 k f fd ps sp :=
  ⟨fun vs H Q E h => absurd h (no vs H Q E), fun A outer s H args us vs Q E _ _ _ _ h => absurd h (no vs H Q E)⟩
theorem v1_ne {x y : Int} (c : ¬ decide (V.int x = V.int y) = true) : x ≠ y := fun e => c (by rw [e]; simp)
theorem v1_eq {x y : Int} (c : decide (V.int x = V.int y) = true) : x = y := V.int.inj (of_decide_eq_true c)
theorem big1000 : (1000 : Nat) ≤ sizeLine := by decide
end
end Rp

namespace Rp
open PySem L2
/-- the value of a TERM is an int or a tuple that stands -/
theorem TmAt.ty {K : PySem.W.Frag} {H : Hp} {v : V} {t : Tm} (h : TmAt H v t) : (∃ n, v = .int n ∧ t = .v n) ∨ (∃ a xs, v = .ref a ∧ H a = some (.tup xs) ∧ TyX K H v (.type "tuple") ∧ (∀ n, t ≠ .v n)) := by
  cases h with
  | v n => exact .inl ⟨n, rfl, rfl⟩
  | z h => exact .inr ⟨_, _, rfl, h, .base (.tup h), fun n e => by cases e⟩
  | s h _ => exact .inr ⟨_, _, rfl, h, .base (.tup h), fun n e => by cases e⟩
  | f h _ _ => exact .inr ⟨_, _, rfl, h, .base (.tup h), fun n e => by cases e⟩
def signHead : Tm → Str
  | .v _ => "" | .z => "0" | .s _ => "s" | .f _ _ => "f"
/-- a TERM that is no variable: its tuple, its parts -/
theorem TmAt.tupled {H : Hp} {v : V} {t : Tm} (h : TmAt H v t) (no : ∀ n, t ≠ .v n) : ∃ a ks, v = .ref a ∧ H a = some (.tup (.str (signHead t) :: ks)) ∧ ks.length = t.kids.length ∧ ∀ (i : Nat) (x : V) (k : Tm), ks[i]? = some x → t.kids[i]? = some k → TmAt H x k := by
  cases h with
  | v n => exact absurd rfl (no n)
  | z h => exact ⟨_, [], rfl, h, rfl, fun i x k h => by simp at h⟩
  | @s a x t h q =>
    refine ⟨_, [x], rfl, h, rfl, fun i y k h1 h2 => ?_⟩
    cases i with
    | zero => simp [Tm.kids] at h1 h2; subst h1 h2; exact q
    | succ i => simp at h1
  | @f a x y l r h q q' =>
    refine ⟨_, [x, y], rfl, h, rfl, fun i u k h1 h2 => ?_⟩
    match i with
    | 0 => simp [Tm.kids] at h1 h2; subst h1 h2; exact q
    | 1 => simp [Tm.kids] at h1 h2; subst h1 h2; exact q'
    | i + 2 => simp at h1
theorem signs_kids : ∀ {t : Tm}, (∀ n, t ≠ .v n) → t.signs = .str (signHead t) :: t.kids.flatMap Tm.signs
  | .v n, h => absurd rfl (h n)
  | .z, _ => rfl
  | .s t, _ => by simp [Tm.signs, Tm.kids, signHead]
  | .f l r, _ => by simp [Tm.signs, Tm.kids, signHead]
theorem kid_deep {t k : Tm} (h : k ∈ t.kids) : k.deep < t.deep := by
  cases t with
  | v n => simp [Tm.kids] at h
  | z => simp [Tm.kids] at h
  | s t => simp [Tm.kids] at h; subst h; exact Nat.lt_succ_self _
  | f l r =>
    simp [Tm.kids] at h
    rcases h with h | h <;> subst h <;> (simp only [Tm.deep]; omega)
theorem kid_size {t k : Tm} (h : k ∈ t.kids) : k.size < t.size := by
  cases t with
  | v n => simp [Tm.kids] at h
  | z => simp [Tm.kids] at h
  | s t => simp [Tm.kids] at h; subst h; exact Nat.lt_succ_self _
  | f l r =>
    simp [Tm.kids] at h
    rcases h with h | h <;> subst h <;> (simp only [Tm.size]; omega)
theorem take_flat {t : Tm} (i : Nat) : ((t.kids.take i).flatMap Tm.signs).length ≤ t.size := by
  cases t with
  | v n => simp [Tm.kids]
  | z => simp [Tm.kids]
  | s t =>
    match i with
    | 0 => simp
    | i + 1 => simp [Tm.kids, Tm.signs_len, Tm.size]
  | f l r =>
    match i with
    | 0 => simp
    | 1 => simp [Tm.kids, Tm.signs_len, Tm.size]; try omega
    | i + 2 => simp [Tm.kids, Tm.signs_len, Tm.size]; try omega
theorem cut_tail (x : V) (ks : List V) : cutV (x :: ks) (some 1) none = ks := by
  have e : HT.sIx (x :: ks).length 0 (some 1) = 1 := by
    have := HT.sIx_nat (x :: ks).length 0 1
    rw [List.length_cons] at this ⊢
    rw [show (some 1 : Option Int) = some ((1 : Nat) : Int) from rfl, this]
    omega
  unfold cutV
  rw [e, HT.sIx_none, List.drop_one, List.tail_cons, List.take_of_length_le (by simp)]
theorem cut_part (x : V) (ks : List V) : ¬ (HT.sIx (x :: ks).length 0 (some 1) = 0 ∧ HT.sIx (x :: ks).length (x :: ks).length none = (x :: ks).length) := by
  have := HT.sIx_nat (x :: ks).length 0 1
  rw [List.length_cons] at this ⊢
  rw [show (some 1 : Option Int) = some ((1 : Nat) : Int) from rfl, this]
  omega
section
variable {P : Program} {w : World} {K : PySem.W.Frag} {mg : Str → Option Value} {base : Heap}
theorem kit_ii : PySem.W.kitOne K (.type "int") (.type "int") = some true := kit_ty (by decide +kernel)
theorem kit_ti : PySem.W.kitOne K (.type "tuple") (.type "int") = some false := kit_ty (by decide +kernel)
theorem kit_si : PySem.W.kitOne K (.type "str") (.type "int") = some false := kit_ty (by decide +kernel)
end
end Rp

namespace Rp
open PySem PySem.Spec PyProof.Rows L2
/-- list.extend by any tuple object -/
theorem extend_by (l : Addr) (xs : Array Value) (n : Nat) (b : Addr) (od : Option Addr) (ys : Array Value) (m : Nat) (sl : Array (Option Value)) (short : ¬(!xs.isEmpty && Builtin.List.listTooLong (xs.size + ys.size)) = true) (h1 : xs.size ≤ sizeLine) (h2 : xs.size + ys.size ≤ sizeLine + 1) :
    Meets (Builtin.«list.extend» ⟨[.ref l, .ref b], []⟩) (fun _ R s => s.heap.get? l = some { cls := .type "list", data := .seq xs n } ∧ s.heap.get? b = some ⟨.type "tuple", od, .seq ys m, sl⟩ ∧
      R (.ok (.ret Value.none)) { s with heap := s.heap.update l (Obj.mapSeq fun x => x ++ ys) }) :=
  .of_wp fun prog w A R s ⟨hl, hb, h⟩ => by
    obtain ⟨hp, g, d, tk, os⟩ := s
    have g1 := sub_list_list
    have g2 := sub_tuple_list
    have g3 := sub_tuple_tuple
    have g4 := sub_list_tuple
    have both : (xs ++ ys).size ≤ sizeLine + 1 := by rw [Array.size_append]; exact h2
    wp_walk using (wpAny_updateSeq hl rfl (hz := h1) (_hz' := both)), wpAny_loadPart' hl, wpAny_loadPart' hb
    exact ⟨_, rfl, h⟩
section
variable {X : Cx}
/-- xs.extend(t), t a tuple -/
def rExtT (K : PySem.W.Frag) : V → List V → Hp → VK → Prop := fun x vs H Q => ∃ (l b : Addr) (xs zs : List V), x = .ref l ∧ vs = [.ref b] ∧ H l = some (.lst xs) ∧ SqT K H b zs ∧ xs.length + zs.length ≤ sizeLine ∧ Q .non (upd H l (.lst (xs ++ zs)))
theorem mt_extendT : MtM X "list.extend" (rExtT X.K) := by
  intro pins s σ H x vs v us Q I rx rv h
  obtain ⟨l, b, xs, zs, rfl, rfl, hH, hB, few, q⟩ := h
  cases rx
  obtain ⟨u, rfl, ru⟩ := rv.one
  cases ru
  obtain ⟨z, its, n, r, hl, e⟩ := I.lstM hH
  obtain ⟨its2, r2, ⟨⟨c2, d2, dat2, sl2⟩, e2, hc2, n2, hd2⟩, hz2⟩ := I.tuple hB
  simp only at hc2 hd2
  subst hc2 hd2
  have l1 := r.length
  have l2 := r2.length
  have room : its.toArray.size + its2.toArray.size ≤ sizeLine := by rw [List.size_toArray, List.size_toArray]; omega
  have short : ¬ (!its.toArray.isEmpty && Builtin.List.listTooLong (its.toArray.size + its2.toArray.size)) = true := by
    rw [notLongL room, Bool.and_false]; exact Bool.false_ne_true
  refine call_meets PySem.F.slot_list_extend ⟨_, e, rfl⟩ PySem.F.entry_list_extend (PySem.F.args_list_extend_2 _ _) (extend_by l its.toArray n b d2 its2.toArray n2 sl2 short (by rw [List.size_toArray]; omega) (by omega)) ⟨e, e2, ?_⟩
  refine ⟨.non, _, I.lset (its' := its ++ its2) (t' := s.toks) hH e (by simp) (r.append r2) ?_, rfl, q⟩
  rw [List.length_append]; omega
end
end Rp

namespace Rp
open PySem L2
/-- values and TERMs side by side -/
def AllAt (H : Hp) : List V → List Tm → Prop
  | [], [] => True
  | x :: xs, t :: ts => TmAt H x t ∧ AllAt H xs ts
  | _, _ => False
theorem AllAt.len {H : Hp} : ∀ {xs : List V} {ts : List Tm}, AllAt H xs ts → xs.length = ts.length
  | [], [], _ => rfl
  | x :: xs, t :: ts, h => congrArg (· + 1) (AllAt.len h.2)
theorem AllAt.append {H : Hp} : ∀ {xs ys : List V} {ts us : List Tm}, AllAt H xs ts → AllAt H ys us → AllAt H (xs ++ ys) (ts ++ us)
  | [], _, [], _, _, h => h
  | x :: xs, _, t :: ts, _, h, h' => ⟨h.1, AllAt.append h.2 h'⟩
theorem AllAt.parted {H : Hp} : ∀ {xs ys : List V} {ts : List Tm}, AllAt H (xs ++ ys) ts → ∃ t1 t2, ts = t1 ++ t2 ∧ AllAt H xs t1 ∧ AllAt H ys t2
  | [], _, ts, h => ⟨[], ts, rfl, trivial, h⟩
  | x :: xs, ys, t :: ts, h => by
    obtain ⟨t1, t2, e, h1, h2⟩ := AllAt.parted (xs := xs) h.2
    exact ⟨t :: t1, t2, by rw [e]; rfl, ⟨h.1, h1⟩, h2⟩
theorem AllAt.mono {H H' : Hp} (e : ∀ a xs, H a = some (.tup xs) → H' a = some (.tup xs)) : ∀ {xs : List V} {ts : List Tm}, AllAt H xs ts → AllAt H' xs ts
  | [], [], _ => trivial
  | x :: xs, t :: ts, h => ⟨h.1.mono e, AllAt.mono e h.2⟩
theorem AllAt.back {H : Hp} : ∀ {xs : List V} {ts : List Tm}, AllAt H xs ts → AllAt H xs.reverse ts.reverse
  | [], [], _ => trivial
  | x :: xs, t :: ts, h => by
    rw [List.reverse_cons, List.reverse_cons]
    exact (AllAt.back h.2).append ⟨h.1, trivial⟩
theorem AllAt.get {H : Hp} : ∀ {xs : List V} {ts : List Tm} {i : Nat} {x : V}, AllAt H xs ts → xs[i]? = some x → ∃ t, ts[i]? = some t ∧ TmAt H x t
  | x :: xs, t :: ts, 0, y, h, e => by simp at e; subst e; exact ⟨t, rfl, h.1⟩
  | x :: xs, t :: ts, i + 1, y, h, e => by simpa using AllAt.get h.2 (by simpa using e)
theorem AllAt.of {H : Hp} : ∀ {xs : List V} {ts : List Tm}, xs.length = ts.length → (∀ (i : Nat) (x : V) (k : Tm), xs[i]? = some x → ts[i]? = some k → TmAt H x k) → AllAt H xs ts
  | [], [], _, _ => trivial
  | x :: xs, t :: ts, l, h => ⟨h 0 x t rfl rfl, AllAt.of (by simpa using l) fun i y k a b => h (i + 1) y k (by simpa using a) (by simpa using b)⟩
end Rp

namespace Rp
open PySem L2 RZ
/-- [.. for a, b in zip(xs, ys)], both lists or both tuples, as long -/
theorem lc_pairs {J : It} {xs ys : List V} {g : TG} {tt : TT} {te : TE} {vs : List Nat} {σ : L2.St} {H1 : Hp} {D : Addr} {Qd : Hp → Prop} (same : xs.length = ys.length) (Pv : Nat → Hp → Prop)
    (stops : ∀ H, Pv xs.length H → J.stop xs.length H) (goes : ∀ i H, i < xs.length → Pv i H → J.go i H)
    (gives : ∀ i H v H', Pv i H → J.yld i H v H' → ∃ T x y, v = .ref T ∧ xs[i]? = some x ∧ ys[i]? = some y ∧ H T = none ∧ H' = upd H T (.tup [x, y]))
    (h0 : Pv 0 (upd H1 D (.lst [])))
    (hs : ∀ (i : Nat) (x y : V) (T : Addr) (H : Hp), xs[i]? = some x → ys[i]? = some y → Pv i H → H T = none → g (.ref T) (wipe σ vs) (upd H T (.tup [x, y])) fun σ2 H2 => wipe σ2 vs = wipe σ vs ∧
      tt σ2 H2 fun b H3 => if b = true then te σ2 H3 fun y H4 => ∃ acc, H4 D = some (.lst acc) ∧ acc.length < sizeLine ∧ Pv (i + 1) (upd H4 D (.lst (acc ++ [y]))) else Pv (i + 1) H3)
    (hd : ∀ H, Pv xs.length H → Qd H) :
    ∃ W : Nat → Nat → Hp → Prop, (∃ m, W 0 m (upd H1 D (.lst []))) ∧ ∀ i m H, W i m H → (J.stop i H ∧ Qd H) ∨
      (J.go i H ∧ ∃ Nx : Hp → Prop, (∀ H', Nx H' → ∃ m', m' < m ∧ W (i + 1) m' H') ∧ ∀ x H', J.yld i H x H' → g x (wipe σ vs) H' fun σ2 H2 => wipe σ2 vs = wipe σ vs ∧
        tt σ2 H2 fun b H3 => if b = true then te σ2 H3 fun y H4 => ∃ acc, H4 D = some (.lst acc) ∧ acc.length < sizeLine ∧ Nx (upd H4 D (.lst (acc ++ [y]))) else Nx H3) := by
  refine ⟨fun i m H => m + i = xs.length ∧ Pv i H, ⟨xs.length, by simp, h0⟩, ?_⟩
  rintro i m H ⟨em, p⟩
  rcases Nat.lt_or_ge i xs.length with lt | ge
  · refine .inr ⟨goes i H lt p, Pv (i + 1), fun H' p' => ⟨m - 1, by omega, by omega, p'⟩, fun v H' y => ?_⟩
    obtain ⟨T, x, y', rfl, hx, hy, hT, rfl⟩ := gives i H v H' p y
    exact hs i x y' T H hx hy p hT
  · have e : i = xs.length := by omega
    subst e
    exact .inl ⟨stops H p, hd H p⟩
def spSame (n : Nat) : Sp := fun vs H Q _ => ∃ (x y : V) (m : Nat), vs = [x, y] ∧ n = m + 1 ∧ Alike H m x y ∧ ∀ H', Same H H' → Q (.bl true) H'
section
variable {P : Program} {w : World} {K : PySem.W.Frag} {mg : Str → Option Value} {base : Heap}
structure SameG (mg : Str → Option Value) : Prop where
  isi : mg "isinstance" = none
  list : mg "list" = none
  tuple : mg "tuple" = none
  len : mg "len" = none
  all : mg "all" = none
  zip : mg "zip" = none
  str : mg "str" = none
  int : mg "int" = none
  bool : mg "bool" = none
theorem scSame : FnScope ["_law_found", "_law_due", "_law_one", "_law_two"] ["_law_found", "_law_due"] (defScope sSame) := ⟨rfl, rfl, rfl, by decide +kernel, rfl, by decide +kernel, by decide +kernel⟩
theorem kitB_of {K : PySem.W.Frag} {a b : String} {r : Bool} (h : kitB a b = some r) : PySem.W.kitOne K (.type a) (.type b) = some r := h
theorem kit_lt {K : PySem.W.Frag} {a : String} {p r : Bool} (h1 : kitB a "list" = some p) (h2 : kitB a "tuple" = some r) : PySem.W.kitAny K (.type a) [.type "list", .type "tuple"] = some (p || r) := by
  refine kitAny_cons (kitB_of h1) (fun e => ?_) (fun e => by rw [e]; rfl)
  refine kitAny_cons (kitB_of h2) (fun e2 => by rw [e, e2]; exact kitAny_nil) (fun e2 => by rw [e, e2]; rfl)
theorem ok_same {n : Nat} {f : Addr} {fd : FuncData} (F : Fun K "_law_same" "_law_same" sSame f fd) (b2 : Binds K fd ["_law_found", "_law_due"] []) (mF : mg "_law_same" = some (.ref f)) (G : FnOk P w K mg base CX0 n f fd ["_law_found", "_law_due"] (spSame n)) (M : SameG mg) :
    FnOk P w K mg base CX0 (n + 1) f fd ["_law_found", "_law_due"] (spSame (n + 1)) := by
  refine F.ok scSame (fun vs H Q E h => ?_) (fun cdv A outer s H vs Q E hr h => ?_)
  · obtain ⟨x, y, m, rfl, _⟩ := h
    rfl
  obtain ⟨x, y, m, rfl, em, hA, q⟩ := h
  have em : n = m := by omega
  subst em
  refine ⟨_, pss_cons (ps_if (pt_val (pe_callB (id := "isinstance") call_isiT (by rfl) M.isi (by decide +kernel) (pa_cons (pv 1) (pa_cons (pe_tup (pa_cons (pe_bltn (v := .ty "list") (by rfl) M.list (by decide +kernel) rfl) (pa_cons (pe_bltn (v := .ty "tuple") (by rfl) M.tuple (by decide +kernel) rfl) pa_nil))) pa_nil))))
      (pss_cons (ps_if (PW.pt (pw_or (pt_cmpR op_ne
            (pe_callB (id := "isinstance") call_isi (by rfl) M.isi (by decide +kernel) (pa_cons (pv 0) (pa_cons (pe_bltn (v := .ty "list") (by rfl) M.list (by decide +kernel) rfl) pa_nil)))
            (pe_callB (id := "isinstance") call_isi (by rfl) M.isi (by decide +kernel) (pa_cons (pv 1) (pa_cons (pe_bltn (v := .ty "list") (by rfl) M.list (by decide +kernel) rfl) pa_nil))) (nomark _))
          (pw_or1 (pt_cmpR op_ne
            (pe_callB (id := "isinstance") call_isi (by rfl) M.isi (by decide +kernel) (pa_cons (pv 0) (pa_cons (pe_bltn (v := .ty "tuple") (by rfl) M.tuple (by decide +kernel) rfl) pa_nil)))
            (pe_callB (id := "isinstance") call_isi (by rfl) M.isi (by decide +kernel) (pa_cons (pv 1) (pa_cons (pe_bltn (v := .ty "tuple") (by rfl) M.tuple (by decide +kernel) rfl) pa_nil))) (nomark _))))) (pss_one (ps_ret pe_bl)) pss_nil)
      (pss_cons (ps_if (pt_cmpR op_ne (pe_callB call_len_seq (by rfl) M.len PySem.boot_len (pa_cons (pv 0) pa_nil)) (pe_callB call_len_seq (by rfl) M.len PySem.boot_len (pa_cons (pv 1) pa_nil)) (nomark _)) (pss_one (ps_ret pe_bl)) pss_nil)
      (pss_one (ps_ret (pe_callB (cr_all rfl) (by rfl) M.all (by decide +kernel) (pa_cons (pe_lc (own := [("_law_one", 2), ("_law_two", 3)]) (g := gTup K 2 (gCons (gName 2) (gCons (gName 3) gNil))) (tt := tYes) (te := tCall (spSame n) [] E0 (tCons (tVar 2) (tCons (tVar 3) tNil))) rfl scSame.nd
        (pi_zipA (by rfl) M.zip (pa_cons (pv 0) (pa_cons (pv 1) pa_nil))) (blkOk_by (N := ["_law_found", "_law_due", "_law_one", "_law_two"]) (sc := defScope sSame) (by decide +kernel))
        (fun _ _ _ _ _ => pg_tup (by rfl) (pgs_cons (pg_name (i := 2) scSame.nd rfl (Or.inl rfl)) (pgs_cons (pg_name (i := 3) scSame.nd rfl (Or.inl rfl)) pgs_nil)))
        (fun _ _ _ _ _ => pts_nil) (fun _ _ _ _ _ => pe_call G hr (by rfl) mF F.kp b2 .nil pass0 (pa_cons (pv 2) (pa_cons (pv 3) pa_nil)))) pa_nil)))))) pss_nil)
    (pss_cons (ps_if (PW.pt (pw_or (pt_cmpR op_isN (pv 1) pe_non (nomark _)) (pw_or1 (pt_val (pe_callB (id := "isinstance") call_isi (by rfl) M.isi (by decide +kernel) (pa_cons (pv 1) (pa_cons (pe_bltn (v := .ty "str") (by rfl) M.str (by decide +kernel) rfl) pa_nil)))))))
      (pss_one (ps_ret (pe_and (pe_cmpR op_eq (pv 0) (pv 1) (nomark _)) (pe_one (pe_cmpR op_eq
            (pe_callB (id := "isinstance") call_isi (by rfl) M.isi (by decide +kernel) (pa_cons (pv 0) (pa_cons (pe_bltn (v := .ty "str") (by rfl) M.str (by decide +kernel) rfl) pa_nil)))
            (pe_callB (id := "isinstance") call_isi (by rfl) M.isi (by decide +kernel) (pa_cons (pv 1) (pa_cons (pe_bltn (v := .ty "str") (by rfl) M.str (by decide +kernel) rfl) pa_nil))) (nomark _)))))) pss_nil)
    (pss_one (ps_ret (pe_and (pe_callB (id := "isinstance") call_isi (by rfl) M.isi (by decide +kernel) (pa_cons (pv 0) (pa_cons (pe_bltn (v := .ty "int") (by rfl) M.int (by decide +kernel) rfl) pa_nil)))
      (pe_and (pe_cmpR op_eq
            (pe_callB (id := "isinstance") call_isi (by rfl) M.isi (by decide +kernel) (pa_cons (pv 0) (pa_cons (pe_bltn (v := .ty "bool") (by rfl) M.bool (by decide +kernel) rfl) pa_nil)))
            (pe_callB (id := "isinstance") call_isi (by rfl) M.isi (by decide +kernel) (pa_cons (pv 1) (pa_cons (pe_bltn (v := .ty "bool") (by rfl) M.bool (by decide +kernel) rfl) pa_nil))) (nomark _))
        (pe_one (pe_cmpR op_eq (pv 0) (pv 1) (nomark _)))))))), ?_⟩
  refine ⟨_, rfl, (by show 2 ≤ sizeLine; decide), fun p hp => ?_⟩
  have s1 := same_new hp (.tup [V.ty "list", V.ty "tuple"])
  have plain : Plain x ∧ x = y ∨ ∃ m a b xs ys, n = m + 1 ∧ x = .ref a ∧ y = .ref b ∧ ((H a = some (.lst xs) ∧ H b = some (.lst ys)) ∨ (H a = some (.tup xs) ∧ H b = some (.tup ys))) ∧
      xs.length = ys.length ∧ xs.length ≤ 1000000 ∧ ∀ (i : Nat) (u v : V), xs[i]? = some u → ys[i]? = some v → Alike H m u v := by
    cases n with
    | zero => unfold Alike at hA; exact .inl hA
    | succ m =>
      unfold Alike at hA
      rcases hA with h | ⟨a, b, xs, ys, h⟩
      · exact .inl h
      · exact .inr ⟨m, a, b, xs, ys, rfl, h⟩
  rcases plain with ⟨px, rfl⟩ | ⟨m, a, b, xs, ys, rfl, rfl, rfl, kinds, hl, hz, each⟩
  · cases x with
    | int i =>
      refine ⟨_, p, _, _, [.type "list", .type "tuple"], false, rfl, upd_same, .cons (.ty _) (.cons (.ty _) .nil), .base (.int i), kit_lt (p := false) (r := false) (by decide +kernel) (by decide +kernel), false, rfl, iteF ?_⟩
      refine ⟨_, rfl, rfl, false, congrArg V.bl (decide_eq_false (fun z => nomatch z)), iteF ?_⟩
      refine ⟨_, rfl, _, _, _, _, false, rfl, .ty "str", .base (.int i), kitB_of (by decide +kernel), false, rfl, iteF ?_⟩
      refine ⟨_, rfl, _, _, _, _, true, rfl, .ty "int", .base (.int i), kitB_of (by decide +kernel), true, rfl, iteT ?_⟩
      refine ⟨_, rfl, _, _, _, _, false, rfl, .ty "bool", .base (.int i), kitB_of (by decide +kernel), _, rfl, _, _, _, _, false, rfl, .ty "bool", .base (.int i), kitB_of (by decide +kernel), rfl, true, congrArg V.bl (decide_eq_true rfl), iteT ?_⟩
      refine ⟨_, rfl, _, rfl, rfl, ?_⟩
      have e : decide (V.int i = V.int i) = true := decide_eq_true rfl
      rw [e]
      exact q _ s1
    | bl i =>
      refine ⟨_, p, _, _, [.type "list", .type "tuple"], false, rfl, upd_same, .cons (.ty _) (.cons (.ty _) .nil), .base (.bl i), kit_lt (p := false) (r := false) (by decide +kernel) (by decide +kernel), false, rfl, iteF ?_⟩
      refine ⟨_, rfl, rfl, false, congrArg V.bl (decide_eq_false (fun z => nomatch z)), iteF ?_⟩
      refine ⟨_, rfl, _, _, _, _, false, rfl, .ty "str", .base (.bl i), kitB_of (by decide +kernel), false, rfl, iteF ?_⟩
      refine ⟨_, rfl, _, _, _, _, true, rfl, .ty "int", .base (.bl i), kitB_of (by decide +kernel), true, rfl, iteT ?_⟩
      refine ⟨_, rfl, _, _, _, _, true, rfl, .ty "bool", .base (.bl i), kitB_of (by decide +kernel), _, rfl, _, _, _, _, true, rfl, .ty "bool", .base (.bl i), kitB_of (by decide +kernel), rfl, true, congrArg V.bl (decide_eq_true rfl), iteT ?_⟩
      refine ⟨_, rfl, _, rfl, rfl, ?_⟩
      have e : decide (V.bl i = V.bl i) = true := decide_eq_true rfl
      rw [e]
      exact q _ s1
    | str i =>
      refine ⟨_, p, _, _, [.type "list", .type "tuple"], false, rfl, upd_same, .cons (.ty _) (.cons (.ty _) .nil), .base (.str i), kit_lt (p := false) (r := false) (by decide +kernel) (by decide +kernel), false, rfl, iteF ?_⟩
      refine ⟨_, rfl, rfl, false, congrArg V.bl (decide_eq_false (fun z => nomatch z)), iteF ?_⟩
      refine ⟨_, rfl, _, _, _, _, true, rfl, .ty "str", .base (.str i), kitB_of (by decide +kernel), true, rfl, iteT ?_⟩
      refine ⟨_, rfl, _, rfl, rfl, true, congrArg V.bl (decide_eq_true rfl), iteT ?_⟩
      refine ⟨_, rfl, _, _, _, _, true, rfl, .ty "str", .base (.str i), kitB_of (by decide +kernel), _, rfl, _, _, _, _, true, rfl, .ty "str", .base (.str i), kitB_of (by decide +kernel), rfl, ?_⟩
      have e : decide (V.bl true = V.bl true) = true := decide_eq_true rfl
      rw [e]
      exact q _ s1
    | non =>
      refine ⟨_, p, _, _, [.type "list", .type "tuple"], false, rfl, upd_same, .cons (.ty _) (.cons (.ty _) .nil), .base .non, kit_lt (p := false) (r := false) (by decide +kernel) (by decide +kernel), false, rfl, iteF ?_⟩
      refine ⟨_, rfl, rfl, true, congrArg V.bl (decide_eq_true rfl), iteT ?_⟩
      refine iteT ?_
      refine ⟨_, rfl, _, rfl, rfl, true, congrArg V.bl (decide_eq_true rfl), iteT ?_⟩
      refine ⟨_, rfl, _, _, _, _, false, rfl, .ty "str", .base .non, kitB_of (by decide +kernel), _, rfl, _, _, _, _, false, rfl, .ty "str", .base .non, kitB_of (by decide +kernel), rfl, ?_⟩
      have e : decide (V.bl false = V.bl false) = true := decide_eq_true rfl
      rw [e]
      exact q _ s1
    | _ => exact px.elim
  · rcases kinds with ⟨ha, hb⟩ | ⟨ha, hb⟩
    · have ha1 := s1 _ _ ha
      have hb1 := s1 _ _ hb
      refine ⟨_, p, _, _, [.type "list", .type "tuple"], true, rfl, upd_same, .cons (.ty _) (.cons (.ty _) .nil), .base (.lst hb1), kit_lt (p := true) (r := false) (by decide +kernel) (by decide +kernel), true, rfl, iteT ?_⟩
      refine ⟨_, rfl, _, _, _, _, true, rfl, .ty "list", .base (.lst ha1), kitB_of (by decide +kernel), _, rfl, _, _, _, _, true, rfl, .ty "list", .base (.lst hb1), kitB_of (by decide +kernel), rfl, false, congrArg (fun z => V.bl (!z)) (decide_eq_true rfl), iteF ?_⟩
      refine ⟨_, rfl, _, _, _, _, false, rfl, .ty "tuple", .base (.lst ha1), kitB_of (by decide +kernel), _, rfl, _, _, _, _, false, rfl, .ty "tuple", .base (.lst hb1), kitB_of (by decide +kernel), rfl, false, congrArg (fun z => V.bl (!z)) (decide_eq_true rfl), iteF ?_⟩
      refine ⟨_, rfl, a, _, rfl, .inl (.inl (.inl ha1)), _, rfl, b, _, rfl, .inl (.inl (.inl hb1)), rfl, false, congrArg (fun z => V.bl (!z)) (decide_eq_true (by rw [hl])), iteF ?_⟩
      refine ⟨_, rfl, _, rfl, a, b, xs, ys, rfl, .inl ⟨.inl (.inl ha1), .inl (.inl hb1), fun D hD => ?_⟩⟩
      refine lc_pairs (J := Itz K a b) (xs := xs) (ys := ys) hl (fun i H2 => H2 D = some (.lst (List.replicate i (V.bl true))) ∧ Same _ H2)
        (fun H2 h => ⟨xs, ys, .inl (.inl (h.2 _ _ ha1)), .inl (.inl (h.2 _ _ hb1)), .inl (Nat.le_refl _)⟩)
        (fun i H2 lt h => ⟨xs, ys, xs[i], ys[i]'(by omega), .inl (.inl (h.2 _ _ ha1)), .inl (.inl (h.2 _ _ hb1)), List.getElem?_eq_getElem lt, List.getElem?_eq_getElem (by omega)⟩)
        (fun i H2 v H3 h ⟨T, u, v', e1, hT, e2, f1, f2⟩ => ⟨T, u, v', e1, f1 xs (.inl (.inl (h.2 _ _ ha1))), f2 ys (.inl (.inl (h.2 _ _ hb1))), hT, e2⟩)
        ⟨upd_same, same_new hD _⟩ (fun i u v T H2 hu hv h hT => ?_) (fun H2 h => ⟨D, List.replicate xs.length true, rfl, .inl (.inl (by rw [List.map_replicate]; exact h.1)), ?_⟩)
      · have sT := same_new hT (.tup [u, v])
        refine ⟨T, _, rfl, .inl (.inl upd_same), rfl, _, _, rfl, _, _, rfl, rfl, rfl, ?_⟩
        have lt : i < xs.length := (List.getElem?_eq_some_iff.mp hu).1
        refine ⟨_, rfl, _, rfl, u, v, m, rfl, rfl, Alike.mono (s1.trans (h.2.trans sT)) m (each i u v hu hv), fun H4 s4 => ⟨_, s4 _ _ (sT _ _ h.1), ?_, ?_, ?_⟩⟩
        · rw [List.length_replicate]; exact Nat.lt_of_lt_of_le (by omega : i < 1000000) (by decide)
        · rw [upd_same, List.replicate_succ']
        · intro c o z
          have nD : c ≠ D := fun e => by subst e; rw [hD] at z; cases z
          rw [upd_ne nD]
          exact s4 _ _ (sT _ _ (h.2 _ _ z))
      · have e : (List.replicate xs.length true).all id = true := by rw [List.all_eq_true]; intro x hx; rw [List.eq_of_mem_replicate hx]; rfl
        rw [e]
        exact q _ (s1.trans h.2)
    · have ha1 := s1 _ _ ha
      have hb1 := s1 _ _ hb
      refine ⟨_, p, _, _, [.type "list", .type "tuple"], true, rfl, upd_same, .cons (.ty _) (.cons (.ty _) .nil), .base (.tup hb1), kit_lt (p := false) (r := true) (by decide +kernel) (by decide +kernel), true, rfl, iteT ?_⟩
      refine ⟨_, rfl, _, _, _, _, false, rfl, .ty "list", .base (.tup ha1), kitB_of (by decide +kernel), _, rfl, _, _, _, _, false, rfl, .ty "list", .base (.tup hb1), kitB_of (by decide +kernel), rfl, false, congrArg (fun z => V.bl (!z)) (decide_eq_true rfl), iteF ?_⟩
      refine ⟨_, rfl, _, _, _, _, true, rfl, .ty "tuple", .base (.tup ha1), kitB_of (by decide +kernel), _, rfl, _, _, _, _, true, rfl, .ty "tuple", .base (.tup hb1), kitB_of (by decide +kernel), rfl, false, congrArg (fun z => V.bl (!z)) (decide_eq_true rfl), iteF ?_⟩
      refine ⟨_, rfl, a, _, rfl, .inr (.inl (.inl ha1)), _, rfl, b, _, rfl, .inr (.inl (.inl hb1)), rfl, false, congrArg (fun z => V.bl (!z)) (decide_eq_true (by rw [hl])), iteF ?_⟩
      refine ⟨_, rfl, _, rfl, a, b, xs, ys, rfl, .inr ⟨.inl (.inl ha1), .inl (.inl hb1), fun D hD => ?_⟩⟩
      refine lc_pairs (J := ItzT K a b) (xs := xs) (ys := ys) hl (fun i H2 => H2 D = some (.lst (List.replicate i (V.bl true))) ∧ Same _ H2)
        (fun H2 h => ⟨xs, ys, .inl (.inl (h.2 _ _ ha1)), .inl (.inl (h.2 _ _ hb1)), .inl (Nat.le_refl _)⟩)
        (fun i H2 lt h => ⟨xs, ys, xs[i], ys[i]'(by omega), .inl (.inl (h.2 _ _ ha1)), .inl (.inl (h.2 _ _ hb1)), List.getElem?_eq_getElem lt, List.getElem?_eq_getElem (by omega)⟩)
        (fun i H2 v H3 h ⟨T, u, v', e1, hT, e2, f1, f2⟩ => ⟨T, u, v', e1, f1 xs (.inl (.inl (h.2 _ _ ha1))), f2 ys (.inl (.inl (h.2 _ _ hb1))), hT, e2⟩)
        ⟨upd_same, same_new hD _⟩ (fun i u v T H2 hu hv h hT => ?_) (fun H2 h => ⟨D, List.replicate xs.length true, rfl, .inl (.inl (by rw [List.map_replicate]; exact h.1)), ?_⟩)
      · have sT := same_new hT (.tup [u, v])
        refine ⟨T, _, rfl, .inl (.inl upd_same), rfl, _, _, rfl, _, _, rfl, rfl, rfl, ?_⟩
        have lt : i < xs.length := (List.getElem?_eq_some_iff.mp hu).1
        refine ⟨_, rfl, _, rfl, u, v, m, rfl, rfl, Alike.mono (s1.trans (h.2.trans sT)) m (each i u v hu hv), fun H4 s4 => ⟨_, s4 _ _ (sT _ _ h.1), ?_, ?_, ?_⟩⟩
        · rw [List.length_replicate]; exact Nat.lt_of_lt_of_le (by omega : i < 1000000) (by decide)
        · rw [upd_same, List.replicate_succ']
        · intro c o z
          have nD : c ≠ D := fun e => by subst e; rw [hD] at z; cases z
          rw [upd_ne nD]
          exact s4 _ _ (sT _ _ (h.2 _ _ z))
      · have e : (List.replicate xs.length true).all id = true := by rw [List.all_eq_true]; intro x hx; rw [List.eq_of_mem_replicate hx]; rfl
        rw [e]
        exact q _ (s1.trans h.2)
theorem same_ok {f : Addr} {fd : FuncData} (F : Fun K "_law_same" "_law_same" sSame f fd) (b2 : Binds K fd ["_law_found", "_law_due"] []) (mF : mg "_law_same" = some (.ref f)) (M : SameG mg) :
    ∀ n : Nat, FnOk P w K mg base CX0 n f fd ["_law_found", "_law_due"] (spSame n)
  | 0 => none_left fun vs H Q E h => by
    obtain ⟨x, y, m, _, e, _⟩ := h
    omega
  | n + 1 => ok_same F b2 mF (same_ok F b2 mF M n) M
end
end Rp

/-! Data of any depth: what stands as which, and which data are TERMs. -/
namespace Rp
open PySem L2
/-- a tuple stands at a, plain or not -/
def TupAt (H : Hp) (a : Addr) (xs : List V) : Prop := H a = some (.tup xs) ∨ ∃ o, H a = some (.frz o (.tup xs))
theorem TupAt.same {H H' : Hp} {a : Addr} {xs : List V} (e : Same H H') (h : TupAt H a xs) : TupAt H' a xs := h.imp (fun q => e _ _ q) fun ⟨o, q⟩ => ⟨o, e _ _ q⟩
theorem TupAt.but {H H' : Hp} {b a : Addr} {ys xs : List V} (e : But b H H') (hb : H b = some (.lst ys)) (h : TupAt H a xs) : TupAt H' a xs :=
  h.imp (fun q => e _ _ q (ne_of q hb (by intro z; cases z))) fun ⟨o, q⟩ => ⟨o, e _ _ q (ne_of q hb (by intro z; cases z))⟩
mutual
/-- the value v stands as the data d; its lists are others than the box b -/
def DAt (H : Hp) (b : Addr) : V → PyData → Prop
  | v, .none => v = .non
  | v, .bool c => v = .bl c
  | v, .int i => v = .int i
  | v, .str x => v = .str x
  | v, .list ds => ∃ (a : Addr) (xs : List V), v = .ref a ∧ a ≠ b ∧ H a = some (.lst xs) ∧ DAtAll H b xs ds
  | v, .tuple ds => ∃ (a : Addr) (xs : List V), v = .ref a ∧ TupAt H a xs ∧ DAtAll H b xs ds
  | _, .dict _ => False
def DAtAll (H : Hp) (b : Addr) : List V → List PyData → Prop
  | xs, [] => xs = []
  | xs, d :: ds => ∃ (x : V) (r : List V), xs = x :: r ∧ DAt H b x d ∧ DAtAll H b r ds
end
mutual
theorem DAt.dp {K : PySem.W.Frag} {H : Hp} {b : Addr} : ∀ (d : PyData) {v : V}, DAt H b v d → Dp K H v d
  | .none, _, h => by unfold DAt at h; subst h; exact .non
  | .bool _, _, h => by unfold DAt at h; subst h; exact .bl _
  | .int _, _, h => by unfold DAt at h; subst h; exact .int _
  | .str _, _, h => by unfold DAt at h; subst h; exact .str _
  | .list ds, _, h => by
    unfold DAt at h
    obtain ⟨a, xs, rfl, _, e, q⟩ := h
    exact .lst (.inl (.inl e)) (DAtAll.dp ds q)
  | .tuple ds, _, h => by
    unfold DAt at h
    obtain ⟨a, xs, rfl, e, q⟩ := h
    exact .tup (.inl e) (DAtAll.dp ds q)
  | .dict _, _, h => by unfold DAt at h; exact h.elim
theorem DAtAll.dp {K : PySem.W.Frag} {H : Hp} {b : Addr} : ∀ (ds : List PyData) {xs : List V}, DAtAll H b xs ds → DpAll K H xs ds
  | [], _, h => by unfold DAtAll at h; subst h; exact .nil
  | d :: ds, _, h => by
    unfold DAtAll at h
    obtain ⟨x, r, rfl, q, q'⟩ := h
    exact .cons (DAt.dp d q) (DAtAll.dp ds q')
end
mutual
theorem DAt.mono {H H' : Hp} {b : Addr} (et : ∀ a xs, TupAt H a xs → TupAt H' a xs) (el : ∀ a xs, a ≠ b → H a = some (.lst xs) → H' a = some (.lst xs)) : ∀ (d : PyData) {v : V}, DAt H b v d → DAt H' b v d
  | .none, _, h => by unfold DAt at h ⊢; exact h
  | .bool _, _, h => by unfold DAt at h ⊢; exact h
  | .int _, _, h => by unfold DAt at h ⊢; exact h
  | .str _, _, h => by unfold DAt at h ⊢; exact h
  | .list ds, _, h => by
    unfold DAt at h ⊢
    obtain ⟨a, xs, e, n, q, q'⟩ := h
    exact ⟨a, xs, e, n, el _ _ n q, DAtAll.mono et el ds q'⟩
  | .tuple ds, _, h => by
    unfold DAt at h ⊢
    obtain ⟨a, xs, e, q, q'⟩ := h
    exact ⟨a, xs, e, et _ _ q, DAtAll.mono et el ds q'⟩
  | .dict _, _, h => by unfold DAt at h; exact h.elim
theorem DAtAll.mono {H H' : Hp} {b : Addr} (et : ∀ a xs, TupAt H a xs → TupAt H' a xs) (el : ∀ a xs, a ≠ b → H a = some (.lst xs) → H' a = some (.lst xs)) : ∀ (ds : List PyData) {xs : List V}, DAtAll H b xs ds → DAtAll H' b xs ds
  | [], _, h => by unfold DAtAll at h ⊢; exact h
  | d :: ds, _, h => by
    unfold DAtAll at h ⊢
    obtain ⟨x, r, e, q, q'⟩ := h
    exact ⟨x, r, e, DAt.mono et el d q, DAtAll.mono et el ds q'⟩
end
theorem DAt.same {H H' : Hp} {b : Addr} (e : Same H H') {d : PyData} {v : V} (h : DAt H b v d) : DAt H' b v d := DAt.mono (fun a _ q => q.same e) (fun a _ _ q => e a _ q) d h
theorem DAt.but {H H' : Hp} {b : Addr} {ys : List V} (e : But b H H') (hb : H b = some (.lst ys)) {d : PyData} {v : V} (h : DAt H b v d) : DAt H' b v d :=
  DAt.mono (fun a _ q => q.but e hb) (fun a _ n q => e a _ q n) d h
theorem DAtAll.same {H H' : Hp} {b : Addr} (e : Same H H') {ds : List PyData} {xs : List V} (h : DAtAll H b xs ds) : DAtAll H' b xs ds := DAtAll.mono (fun a _ q => q.same e) (fun a _ _ q => e a _ q) ds h
theorem DAtAll.but {H H' : Hp} {b : Addr} {ys : List V} (e : But b H H') (hb : H b = some (.lst ys)) {ds : List PyData} {xs : List V} (h : DAtAll H b xs ds) : DAtAll H' b xs ds :=
  DAtAll.mono (fun a _ q => q.but e hb) (fun a _ n q => e a _ q n) ds h
theorem DAtAll.nil {H : Hp} {b : Addr} : DAtAll H b [] [] := by unfold DAtAll; rfl
theorem DAtAll.cons {H : Hp} {b : Addr} {x : V} {xs : List V} {d : PyData} {ds : List PyData} (h : DAt H b x d) (h' : DAtAll H b xs ds) : DAtAll H b (x :: xs) (d :: ds) := by unfold DAtAll; exact ⟨x, xs, rfl, h, h'⟩
theorem DAtAll.head {H : Hp} {b : Addr} {x : V} {xs : List V} {ds : List PyData} (h : DAtAll H b (x :: xs) ds) : ∃ d ds', ds = d :: ds' ∧ DAt H b x d ∧ DAtAll H b xs ds' := by
  cases ds with
  | nil => unfold DAtAll at h; cases h
  | cons d ds =>
    unfold DAtAll at h
    obtain ⟨y, r, e, q, q'⟩ := h
    cases e
    exact ⟨d, ds, rfl, q, q'⟩
theorem DAtAll.len {H : Hp} {b : Addr} : ∀ {xs : List V} {ds : List PyData}, DAtAll H b xs ds → xs.length = ds.length
  | xs, [], h => by unfold DAtAll at h; subst h; rfl
  | xs, d :: ds, h => by
    unfold DAtAll at h
    obtain ⟨x, r, rfl, _, q⟩ := h
    rw [List.length_cons, List.length_cons, DAtAll.len q]
theorem DAtAll.append {H : Hp} {b : Addr} : ∀ {xs ys : List V} {ds es : List PyData}, DAtAll H b xs ds → DAtAll H b ys es → DAtAll H b (xs ++ ys) (ds ++ es)
  | xs, ys, [], es, h, h' => by unfold DAtAll at h; subst h; exact h'
  | xs, ys, d :: ds, es, h, h' => by
    unfold DAtAll at h
    obtain ⟨x, r, rfl, q, q'⟩ := h
    exact .cons q (DAtAll.append q' h')
theorem DAtAll.parted {H : Hp} {b : Addr} : ∀ {xs ys : List V} {ds : List PyData}, DAtAll H b (xs ++ ys) ds → ∃ d1 d2, ds = d1 ++ d2 ∧ DAtAll H b xs d1 ∧ DAtAll H b ys d2
  | [], ys, ds, h => ⟨[], ds, rfl, .nil, h⟩
  | x :: xs, ys, ds, h => by
    obtain ⟨d, ds', rfl, q, q'⟩ := DAtAll.head h
    obtain ⟨d1, d2, rfl, h1, h2⟩ := DAtAll.parted q'
    exact ⟨d :: d1, d2, rfl, .cons q h1, h2⟩
theorem DAtAll.take {H : Hp} {b : Addr} : ∀ {xs : List V} {ds : List PyData} (n : Nat), DAtAll H b xs ds → DAtAll H b (xs.take n) (ds.take n)
  | xs, ds, 0, h => by simp; exact .nil
  | [], ds, n + 1, h => by have := h.len; cases ds with | nil => simpa using DAtAll.nil | cons => simp at this
  | x :: xs, ds, n + 1, h => by
    obtain ⟨d, ds', rfl, q, q'⟩ := DAtAll.head h
    exact .cons q (DAtAll.take n q')
theorem DAtAll.drop {H : Hp} {b : Addr} : ∀ {xs : List V} {ds : List PyData} (n : Nat), DAtAll H b xs ds → DAtAll H b (xs.drop n) (ds.drop n)
  | xs, ds, 0, h => by simpa using h
  | [], ds, n + 1, h => by have := h.len; cases ds with | nil => simpa using DAtAll.nil | cons => simp at this
  | x :: xs, ds, n + 1, h => by
    obtain ⟨d, ds', rfl, q, q'⟩ := DAtAll.head h
    simpa using DAtAll.drop n q'
theorem DAtAll.back {H : Hp} {b : Addr} : ∀ {xs : List V} {ds : List PyData}, DAtAll H b xs ds → DAtAll H b xs.reverse ds.reverse
  | [], ds, h => by have := h.len; cases ds with | nil => simpa using DAtAll.nil | cons => simp at this
  | x :: xs, ds, h => by
    obtain ⟨d, ds', rfl, q, q'⟩ := DAtAll.head h
    rw [List.reverse_cons, List.reverse_cons]
    exact (DAtAll.back q').append (.cons q .nil)
theorem DAtAll.get {H : Hp} {b : Addr} : ∀ {xs : List V} {ds : List PyData} {i : Nat} {x : V}, DAtAll H b xs ds → xs[i]? = some x → ∃ d, ds[i]? = some d ∧ DAt H b x d
  | [], ds, i, x, h, e => by simp at e
  | y :: xs, ds, 0, x, h, e => by
    obtain ⟨d, ds', rfl, q, q'⟩ := DAtAll.head h
    simp at e
    subst e
    exact ⟨d, rfl, q⟩
  | y :: xs, ds, i + 1, x, h, e => by
    obtain ⟨d, ds', rfl, q, q'⟩ := DAtAll.head h
    simpa using DAtAll.get q' (by simpa using e)
/-! ### TERMs as data -/
def tmD : Tm → PyData
  | .v n => .int n
  | .z => .tuple [.str "0"]
  | .s t => .tuple [.str "s", tmD t]
  | .f l r => .tuple [.str "f", tmD l, tmD r]
theorem TmAt.dat {H : Hp} {b : Addr} {v : V} {t : Tm} (h : TmAt H v t) : DAt H b v (tmD t) := by
  induction h with
  | v n => unfold tmD DAt; rfl
  | z h => unfold tmD DAt; exact ⟨_, _, rfl, .inl h, .cons (by unfold DAt; rfl) .nil⟩
  | s h _ ih => unfold tmD DAt; exact ⟨_, _, rfl, .inl h, .cons (by unfold DAt; rfl) (.cons ih .nil)⟩
  | f h _ _ ih ih' => unfold tmD DAt; exact ⟨_, _, rfl, .inl h, .cons (by unfold DAt; rfl) (.cons ih (.cons ih' .nil))⟩
theorem DAtAll.nil_of {H : Hp} {b : Addr} {xs : List V} (h : DAtAll H b xs []) : xs = [] := by unfold DAtAll at h; exact h
theorem DAtAll.cons_of {H : Hp} {b : Addr} {xs : List V} {d : PyData} {ds : List PyData} (h : DAtAll H b xs (d :: ds)) : ∃ x r, xs = x :: r ∧ DAt H b x d ∧ DAtAll H b r ds := by unfold DAtAll at h; exact h
theorem DAt.str_of {H : Hp} {b : Addr} {v : V} {x : Str} (h : DAt H b v (.str x)) : v = .str x := by unfold DAt at h; exact h
theorem DAt.int_of {H : Hp} {b : Addr} {v : V} {x : Int} (h : DAt H b v (.int x)) : v = .int x := by unfold DAt at h; exact h
theorem DAt.tup_of {H : Hp} {b : Addr} {v : V} {ds : List PyData} (h : DAt H b v (.tuple ds)) : ∃ (a : Addr) (xs : List V), v = .ref a ∧ TupAt H a xs ∧ DAtAll H b xs ds := by unfold DAt at h; exact h
theorem DAt.lst_of {H : Hp} {b : Addr} {v : V} {ds : List PyData} (h : DAt H b v (.list ds)) : ∃ (a : Addr) (xs : List V), v = .ref a ∧ a ≠ b ∧ H a = some (.lst xs) ∧ DAtAll H b xs ds := by unfold DAt at h; exact h
def IsT (d : PyData) : Prop := ∃ t, d = tmD t ∧ ∀ n ∈ t.nums, 0 ≤ n ∧ n ≤ 99
/-- a sign with as many parts as it takes -/
def Shaped (d : PyData) : Prop := ∃ (x : Str) (ds : List PyData), d = .tuple (.str x :: ds) ∧ ((x = "0" ∧ ds.length = 0) ∨ (x = "s" ∧ ds.length = 1) ∨ (x = "f" ∧ ds.length = 2))
theorem isT_shaped {x : Str} {ds : List PyData} (h : (x = "0" ∧ ds.length = 0) ∨ (x = "s" ∧ ds.length = 1) ∨ (x = "f" ∧ ds.length = 2)) : IsT (.tuple (.str x :: ds)) ↔ ∀ d ∈ ds, IsT d := by
  have s0 : ("0" : Str) ≠ "s" := by decide +kernel
  have s1 : ("0" : Str) ≠ "f" := by decide +kernel
  have s2 : ("s" : Str) ≠ "f" := by decide +kernel
  rcases h with ⟨rfl, h⟩ | ⟨rfl, h⟩ | ⟨rfl, h⟩
  · match ds, h with
    | [], _ => exact ⟨fun _ d hd => by simp at hd, fun _ => ⟨.z, rfl, fun n hn => by simp [Tm.nums] at hn⟩⟩
  · match ds, h with
    | [d], _ =>
      constructor
      · rintro ⟨t, e, g⟩ d' hd
        simp at hd
        subst hd
        cases t with
        | s t => unfold tmD at e; injection e with e; injection e with _ e; injection e with e _; exact ⟨t, e, g⟩
        | v n => cases e
        | z => unfold tmD at e; injection e with e; injection e with e _; injection e with e; exact absurd e.symm s0
        | f l r => unfold tmD at e; injection e with e; injection e with e _; injection e with e; exact absurd e s2
      · intro h
        obtain ⟨t, rfl, g⟩ := h d (by simp)
        exact ⟨.s t, rfl, g⟩
  · match ds, h with
    | [d, d'], _ =>
      constructor
      · rintro ⟨t, e, g⟩ d2 hd
        cases t with
        | f l r =>
          unfold tmD at e
          injection e with e
          injection e with _ e
          injection e with e1 e
          injection e with e2 _
          simp at hd
          rcases hd with rfl | rfl
          · exact ⟨l, e1, fun n hn => g n (by simp [Tm.nums, hn])⟩
          · exact ⟨r, e2, fun n hn => g n (by simp [Tm.nums, hn])⟩
        | v n => cases e
        | z => unfold tmD at e; injection e with e; injection e with e _; injection e with e; exact absurd e.symm s1
        | s t => unfold tmD at e; injection e with e; injection e with e _; injection e with e; exact absurd e.symm s2
      · intro h
        obtain ⟨l, rfl, g1⟩ := h d (by simp)
        obtain ⟨r, rfl, g2⟩ := h d' (by simp)
        refine ⟨.f l r, rfl, fun n hn => ?_⟩
        rcases List.mem_append.mp hn with q | q
        · exact g1 n q
        · exact g2 n q
theorem isT_int {n : Int} : IsT (.int n) ↔ 0 ≤ n ∧ n ≤ 99 := by
  constructor
  · rintro ⟨t, e, g⟩
    cases t with
    | v m => unfold tmD at e; injection e with e; subst e; exact g _ (by simp [Tm.nums])
    | z => cases e
    | s t => cases e
    | f l r => cases e
  · intro h
    exact ⟨.v n, rfl, fun m hm => by simp [Tm.nums] at hm; subst hm; exact h⟩
theorem isT_other {d : PyData} (h : ¬ Shaped d) (h' : ∀ n, d ≠ .int n) : ¬ IsT d := by
  rintro ⟨t, rfl, g⟩
  cases t with
  | v n => exact h' n rfl
  | z => exact h ⟨"0", [], rfl, .inl ⟨rfl, rfl⟩⟩
  | s t => exact h ⟨"s", [_], rfl, .inr (.inl ⟨rfl, rfl⟩)⟩
  | f l r => exact h ⟨"f", [_, _], rfl, .inr (.inr ⟨rfl, rfl⟩)⟩
end Rp

namespace Rp
open PySem PySem.Spec PyProof.Rows L2
def tyD : PyData → String
  | .none => "NoneType" | .bool _ => "bool" | .int _ => "int" | .str _ => "str" | .list _ => "list" | .tuple _ => "tuple" | .dict _ => "dict"
theorem DAt.tyx {K : PySem.W.Frag} {H : Hp} {b : Addr} {v : V} {d : PyData} (h : DAt H b v d) : TyX K H v (.type (tyD d)) := by
  cases d with
  | none => unfold DAt at h; subst h; exact .base .non
  | bool c => unfold DAt at h; subst h; exact .base (.bl c)
  | int i => unfold DAt at h; subst h; exact .base (.int i)
  | str x => unfold DAt at h; subst h; exact .base (.str x)
  | list ds => obtain ⟨a, xs, rfl, _, e, _⟩ := h.lst_of; exact .base (.lst e)
  | tuple ds => obtain ⟨a, xs, rfl, e, _⟩ := h.tup_of; rcases e with e | ⟨o, e⟩; exact .base (.tup e); exact .fTuple e
  | dict ds => unfold DAt at h; exact h.elim
def isI : PyData → Bool | .int _ => true | .bool _ => true | _ => false
def isB : PyData → Bool | .bool _ => true | _ => false
def isS : PyData → Bool | .str _ => true | _ => false
def isU : PyData → Bool | .tuple _ => true | _ => false
def isL : PyData → Bool | .list _ => true | _ => false
def isNum : PyData → Bool | .int _ => true | _ => false
section
variable {K : PySem.W.Frag}
theorem kitI (d : PyData) : PySem.W.kitOne K (.type (tyD d)) (.type "int") = some (isI d) := by cases d <;> exact kit_ty (by simp only [tyD, isI]; decide +kernel)
theorem kitB' (d : PyData) : PySem.W.kitOne K (.type (tyD d)) (.type "bool") = some (isB d) := by cases d <;> exact kit_ty (by simp only [tyD, isB]; decide +kernel)
theorem kitS (d : PyData) : PySem.W.kitOne K (.type (tyD d)) (.type "str") = some (isS d) := by cases d <;> exact kit_ty (by simp only [tyD, isS]; decide +kernel)
theorem kitU (d : PyData) : PySem.W.kitOne K (.type (tyD d)) (.type "tuple") = some (isU d) := by cases d <;> exact kit_ty (by simp only [tyD, isU]; decide +kernel)
theorem kitL (d : PyData) : PySem.W.kitOne K (.type (tyD d)) (.type "list") = some (isL d) := by cases d <;> exact kit_ty (by simp only [tyD, isL]; decide +kernel)
end
def okD (d : PyData) : Prop := d.canLay0 = true ∧ d.depth ≤ 60
theorem okAll {ds : List PyData} (h : PyData.canLayAll0 ds = true) (k : Nat) (hk : PyData.depthAll ds ≤ k) : ∀ d ∈ ds, d.canLay0 = true ∧ d.depth ≤ k := by
  induction ds with
  | nil => intro d hd; simp at hd
  | cons x ds ih =>
    simp only [PyData.canLayAll0, Bool.and_eq_true] at h
    simp only [PyData.depthAll] at hk
    intro d hd
    rcases List.mem_cons.mp hd with rfl | hd
    · exact ⟨h.1, by omega⟩
    · exact ih h.2 (by omega) d hd
theorem okD.tup {ds : List PyData} (h : okD (.tuple ds)) : ∀ d ∈ ds, okD d := fun d hd => by
  have h1 : PyData.canLayAll0 ds = true := by have := h.1; simpa [PyData.canLay0] using this
  have h2 : PyData.depthAll ds + 1 ≤ 60 := by have := h.2; simpa [PyData.depth] using this
  have := okAll h1 59 (by omega) d hd
  exact ⟨this.1, by omega⟩
theorem eqv_str {x : Str} {d : PyData} : PyData.eqv (.str x) d = true ↔ d = .str x := by
  cases d <;> simp [PyData.eqv]
  exact eq_comm
theorem eqv_tup {xs ys : List PyData} : PyData.eqv (.tuple xs) (.tuple ys) = PyData.eqvAll xs ys := by simp only [PyData.eqv]
theorem eqv_int {i j : Int} : PyData.eqv (.int i) (.int j) = (i == j) := by simp only [PyData.eqv]
theorem eqvAll_cons {x y : PyData} {xs ys : List PyData} : PyData.eqvAll (x :: xs) (y :: ys) = (PyData.eqv x y && PyData.eqvAll xs ys) := by simp only [PyData.eqvAll]
theorem eqvAll_nil : PyData.eqvAll [] [] = true := by simp only [PyData.eqvAll]
theorem hu65 {A : Around} {k : Nat} (hr : Room k A) : A.units + 65 < cLine := by have := hr.un; omega
def shapesD : PyData := .tuple [.tuple [.str "0", .int 1], .tuple [.str "s", .int 2], .tuple [.str "f", .int 3]]
def shapesL : List PyData := [.tuple [.str "0", .int 1], .tuple [.str "s", .int 2], .tuple [.str "f", .int 3]]
theorem shapes_any {d0 : PyData} {ds : List PyData} : (shapesL.any fun y => PyData.eqv y (.tuple [d0, .int ((ds.length + 1 : Nat) : Int)])) = true ↔ Shaped (.tuple (d0 :: ds)) := by
  have one : ∀ (x : Str) (n : Int), PyData.eqv (.tuple [.str x, .int n]) (.tuple [d0, .int ((ds.length + 1 : Nat) : Int)]) = true ↔ d0 = .str x ∧ n = ((ds.length + 1 : Nat) : Int) := by
    intro x n
    rw [eqv_tup, eqvAll_cons, eqvAll_cons, eqvAll_nil, eqv_int]
    simp only [Bool.and_true, Bool.and_eq_true, eqv_str, beq_iff_eq]
  simp only [shapesL, List.any_cons, List.any_nil, Bool.or_false, Bool.or_eq_true, one]
  constructor
  · rintro (⟨rfl, e⟩ | ⟨rfl, e⟩ | ⟨rfl, e⟩)
    · exact ⟨"0", ds, rfl, .inl ⟨rfl, by omega⟩⟩
    · exact ⟨"s", ds, rfl, .inr (.inl ⟨rfl, by omega⟩)⟩
    · exact ⟨"f", ds, rfl, .inr (.inr ⟨rfl, by omega⟩)⟩
  · rintro ⟨x, ds', e, h⟩
    injection e with e
    injection e with e1 e2
    subst e1 e2
    rcases h with ⟨rfl, h⟩ | ⟨rfl, h⟩ | ⟨rfl, h⟩
    · exact .inl ⟨rfl, by omega⟩
    · exact .inr (.inl ⟨rfl, by omega⟩)
    · exact .inr (.inr ⟨rfl, by omega⟩)
/-- x in t, t a tuple of data of any depth -/
def rInT (K : PySem.W.Frag) : R2 := fun x y H Q => ∃ (d : PyData) (ds : List PyData), Dp K H x d ∧ Dp K H y (.tuple ds) ∧ SeqAt.shaped d = true ∧ SeqAt.shaped (.tuple ds) = true ∧ Q (.bl (ds.any fun y => PyData.eqv y d)) H
section
variable {X : Cx}
theorem op_inT (hu : X.A.units + 65 < cLine) : OpR X (compareOp .In) (rInT X.K) := by
  intro pins s σ H x y v u Q I rx ry h
  obtain ⟨d, ds, hd, he, sd, se, q⟩ := h
  obtain ⟨as, r1⟩ := Dp.reads I d x v hd rx
  obtain ⟨bs, r2⟩ := Dp.reads I (.tuple ds) y u he ry
  exact SeqAt.in_tuple_reads r2 r1 (SeqAt.canLay_of_shaped se) (SeqAt.canLay_of_shaped sd) (room_in_shaped sd hu) ⟨.bl _, H, I, rfl, q⟩
end
theorem shaped_of {d : PyData} (h : d.canLay0 = true) (h' : d.depth ≤ 64) : SeqAt.shaped d = true := by
  show (d.canLay0 && decide (d.depth ≤ 64)) = true
  rw [h, decide_eq_true h']
  rfl
def spNumber : Sp := fun vs H Q _ => ∃ (b : Addr) (v : V) (d : PyData), vs = [v] ∧ DAt H b v d ∧ Q (.bl (isNum d)) H
def isVar : PyData → Bool | .int n => decide (0 ≤ n) && decide (n ≤ 99) | _ => false
def spVariable : Sp := fun vs H Q _ => ∃ (b : Addr) (v : V) (d : PyData), vs = [v] ∧ DAt H b v d ∧ Q (.bl (isVar d)) H
def spShape : Sp := fun vs H Q _ => ∃ (b : Addr) (v : V) (d : PyData), vs = [v] ∧ DAt H b v d ∧ okD d ∧ ∀ (r : Bool) (H' : Hp), (r = true ↔ Shaped d) → Same H H' → Q (.bl r) H'
section
variable {P : Program} {w : World} {K : PySem.W.Frag} {mg : Str → Option Value} {base : Heap}
theorem scNumber : FnScope ["thing"] ["thing"] (defScope sNumber) := ⟨rfl, rfl, rfl, by decide +kernel, rfl, by decide +kernel, by decide +kernel⟩
theorem ok_number {f : Addr} {fd : FuncData} (F : Fun K "is_number" "is_number" sNumber f fd) (M : SameG mg) : FnOk P w K mg base CX0 1 f fd ["thing"] spNumber := by
  refine F.ok scNumber (fun vs H Q E h => ?_) (fun cdv A outer s H vs Q E hr h => ?_)
  · obtain ⟨b, v, d, rfl, _⟩ := h
    rfl
  obtain ⟨b, v, d, rfl, D, q⟩ := h
  refine ⟨_, pss_one (ps_ret (pe_and (pe_callB (id := "isinstance") call_isi (by rfl) M.isi (by decide +kernel) (pa_cons (pv 0) (pa_cons (pe_bltn (v := .ty "int") (by rfl) M.int (by decide +kernel) rfl) pa_nil)))
    (pe_one (pe_not (pe_callB (id := "isinstance") call_isi (by rfl) M.isi (by decide +kernel) (pa_cons (pv 0) (pa_cons (pe_bltn (v := .ty "bool") (by rfl) M.bool (by decide +kernel) rfl) pa_nil))))))), ?_⟩
  refine ⟨_, rfl, _, _, _, _, isI d, rfl, .ty "int", D.tyx, kitI d, isI d, rfl, ?_⟩
  have second : (fun (σ : L2.St) => isI d = true → isB d = !(isNum d)) [] := by cases d <;> simp [isI, isB, isNum]
  have first : isI d = false → isNum d = false := by cases d <;> simp [isI, isNum]
  cases e : isI d with
  | false => exact iteF (by have z := first e; rw [z] at q; exact q)
  | true =>
    refine iteT ⟨_, rfl, _, _, _, _, isB d, rfl, .ty "bool", D.tyx, kitB' d, isB d, rfl, ?_⟩
    have z := second e
    rw [z]
    simpa using q
theorem scVariable : FnScope ["thing"] ["thing"] (defScope sVariable) := ⟨rfl, rfl, rfl, by decide +kernel, rfl, by decide +kernel, by decide +kernel⟩
theorem ok_variable {f fN : Addr} {fd fdN : FuncData} {tk : Tok} (F : Fun K "is_variable" "is_variable" sVariable f fd) (GN : FnOk P w K mg base CX0 1 fN fdN ["thing"] spNumber) (kN : PySem.W.keepIn K (.ref fN) = true) (bN : Binds K fdN ["thing"] []) (mN : mg "is_number" = some (.ref fN))
    (mLast : mg "LAST_VARIABLE" = some (.int 99 tk)) : FnOk P w K mg base CX0 2 f fd ["thing"] spVariable := by
  refine F.ok scVariable (fun vs H Q E h => ?_) (fun cdv A outer s H vs Q E hr h => ?_)
  · obtain ⟨b, v, d, rfl, _⟩ := h
    rfl
  obtain ⟨b, v, d, rfl, D, q⟩ := h
  refine ⟨_, pss_one (ps_ret (pe_and (pe_call GN hr rfl mN kN bN .nil pass0 (pa_cons (pv 0) pa_nil)) (pe_one (pe_chain op_le op_le pe_int (pv 0) (pe_glob (v := .int 99) rfl mLast ⟨_, rfl⟩))))), ?_⟩
  refine ⟨_, rfl, b, v, d, rfl, D, isNum d, rfl, ?_⟩
  cases d with
  | int n =>
    have ev := D.int_of
    subst ev
    refine iteT ⟨_, rfl, _, _, rfl, rfl, decide (0 ≤ n), rfl, ?_⟩
    cases e : decide (0 ≤ n) with
    | false => exact iteF (by simpa [isVar, e] using q)
    | true => exact iteT ⟨_, _, rfl, rfl, by simpa [isVar, e] using q⟩
  | _ => exact iteF q
theorem scShape : FnScope ["thing"] ["thing"] (defScope sShape) := ⟨rfl, rfl, rfl, by decide +kernel, rfl, by decide +kernel, by decide +kernel⟩
theorem ok_shape {f aS : Addr} {fd : FuncData} (F : Fun K "_has_shape" "_has_shape" sShape f fd) (M : SameG mg) (mS : mg "SHAPES" = some (.ref aS)) (hS : ∀ H, Dp K H (.ref aS) shapesD) : FnOk P w K mg base CX0 1 f fd ["thing"] spShape := by
  refine F.ok scShape (fun vs H Q E h => ?_) (fun cdv A outer s H vs Q E hr h => ?_)
  · obtain ⟨b, v, d, rfl, _⟩ := h
    rfl
  obtain ⟨b, v, d, rfl, D, ok, q⟩ := h
  refine ⟨_, pss_cons (ps_if (PW.pt (pw_or (pt_not (pt_val (pe_callB (id := "isinstance") call_isi (by rfl) M.isi (by decide +kernel) (pa_cons (pv 0) (pa_cons (pe_bltn (v := .ty "tuple") (by rfl) M.tuple (by decide +kernel) rfl) pa_nil)))))
      (pw_or1 (pt_not (pt_truth (pv 0) (by intro _; rfl)))))) (pss_one (ps_ret pe_bl)) pss_nil)
    (pss_one (ps_ret (pe_cmpR (op_inT (hu65 hr)) (pe_tup (pa_cons (pe_ix ix_tup (pv 0) pe_int (fun _ _ => rfl)) (pa_cons (pe_callB call_len_seq (by rfl) M.len PySem.boot_len (pa_cons (pv 0) pa_nil)) pa_nil))) (pe_glob (v := .ref aS) rfl mS rfl) (by rfl)))), ?_⟩
  refine ⟨_, rfl, _, _, _, _, isU d, rfl, .ty "tuple", D.tyx, kitU d, isU d, rfl, ?_⟩
  cases d with
  | tuple ds =>
    obtain ⟨a, xs, rfl, ha, A'⟩ := D.tup_of
    refine iteF ⟨_, rfl, !xs.isEmpty, .inr (.inl ⟨xs, .inl ha, rfl⟩), ?_⟩
    cases xs with
    | nil =>
      refine iteT (q false H ⟨(fun e => nomatch e), ?_⟩ (Same.refl H))
      rintro ⟨x, ds', e, _⟩
      injection e with e
      subst e
      have := A'.len
      simp at this
    | cons x0 xr =>
      obtain ⟨d0, dr, rfl, D0, Dr⟩ := A'.head
      have el := Dr.len
      refine iteF ⟨_, rfl, a, _, _, _, rfl, rfl, .inl ha, at_of (j := 0) rfl rfl, _, rfl, a, _, rfl, .inr (.inl ha), (by show 2 ≤ sizeLine; decide), fun p hp => ?_⟩
      have s1 := same_new hp (.tup [x0, .int (((x0 :: xr).length : Nat) : Int)])
      have o0 := ok.tup d0 (by simp)
      refine ⟨.tuple [d0, .int ((dr.length + 1 : Nat) : Int)], shapesL, .tup (.inl (.inl upd_same)) (.cons (D0.same s1).dp (.cons ?_ .nil)), hS _, ?_, by decide +kernel, ?_⟩
      · rw [List.length_cons, el]; exact .int _
      · refine shaped_of ?_ ?_
        · simp [PyData.canLay0, PyData.canLayAll0, o0.1]
        · have := o0.2
          simp only [PyData.depth, PyData.depthAll]
          omega
      · exact q _ _ shapes_any s1
  | _ => exact iteT (q false H ⟨(fun e => nomatch e), (fun ⟨x, ds', e, _⟩ => nomatch e)⟩ (Same.refl H))
end
end Rp

/-! Data of small ints and a few short texts: how large they are, what is said of them. -/
namespace Rp
open PySem PySem.Spec PyProof.Rows L2
def okText (x : Str) : Prop := x = "" ∨ x = "0" ∨ x = "s" ∨ x = "f" ∨ x = "x" ∨ x = "g" ∨ x = "x0"
mutual
def fine (U : List Int) : PyData → Prop
  | .none => True | .bool _ => True | .int i => i ∈ U | .str x => okText x | .list ds => fineAll U ds | .tuple ds => fineAll U ds | .dict _ => False
def fineAll (U : List Int) : List PyData → Prop
  | [] => True
  | d :: ds => fine U d ∧ fineAll U ds
end
mutual
def nd : PyData → Nat
  | .list ds => ndAll ds + 1 | .tuple ds => ndAll ds + 1 | _ => 1
def ndAll : List PyData → Nat
  | [] => 0
  | d :: ds => nd d + ndAll ds
end
theorem nd_pos (d : PyData) : 1 ≤ nd d := by cases d <;> simp [nd]
theorem ndAll_append : ∀ a b : List PyData, ndAll (a ++ b) = ndAll a + ndAll b
  | [], b => by simp [ndAll]
  | x :: a, b => by simp only [List.cons_append, ndAll, ndAll_append a b]; omega
theorem ndAll_mem : ∀ {ds : List PyData} {d : PyData}, d ∈ ds → nd d ≤ ndAll ds
  | x :: ds, d, h => by
    simp only [ndAll]
    rcases List.mem_cons.mp h with rfl | h
    · omega
    · have := ndAll_mem h; omega
theorem ndAll_len : ∀ ds : List PyData, ds.length ≤ ndAll ds
  | [] => Nat.le_refl _
  | d :: ds => by have := ndAll_len ds; have := nd_pos d; simp only [ndAll, List.length_cons]; omega
theorem fineAll_iff {U : List Int} : ∀ {ds : List PyData}, fineAll U ds ↔ ∀ d ∈ ds, fine U d
  | [] => by simp [fineAll]
  | d :: ds => by simp only [fineAll, fineAll_iff (ds := ds), List.forall_mem_cons]
theorem depthAll_iff {k : Nat} : ∀ {ds : List PyData}, PyData.depthAll ds ≤ k ↔ ∀ d ∈ ds, d.depth ≤ k
  | [] => by simp [PyData.depthAll]
  | d :: ds => by simp only [PyData.depthAll, List.forall_mem_cons, ← depthAll_iff (ds := ds)]; omega
theorem okText_lay {x : Str} (h : okText x) : PyData.canLay0 (.str x) = true ∧ x.cps.size ≤ 2 := by
  rcases h with rfl | rfl | rfl | rfl | rfl | rfl | rfl <;> exact ⟨by decide +kernel, by decide +kernel⟩
/-- the few ints of a row of data -/
structure Few (U : List Int) : Prop where
  le : ∀ i ∈ U, -1 ≤ i ∧ i ≤ 100
  len : U.length ≤ 20
mutual
theorem fine_lay {U : List Int} (hU : Few U) : ∀ d : PyData, fine U d → d.canLay0 = true ∧ d.showable = true ∧ d.intsShort 13 = true ∧ d.hasDict = false ∧ d.weight + 1 ≤ 110 * nd d
  | .none, _ => ⟨rfl, rfl, rfl, rfl, by decide⟩
  | .bool b, _ => ⟨rfl, rfl, rfl, rfl, by simp [PyData.weight, nd]⟩
  | .int i, h => by
    have h : -1 ≤ i ∧ i ≤ 100 := hU.le i h
    have a : i.natAbs ≤ 100 := by omega
    have b := Nat.log2_le_self i.natAbs
    refine ⟨rfl, ?_, ?_, rfl, ?_⟩
    · simp only [PyData.showable, decide_eq_true_eq]; omega
    · simp only [PyData.intsShort, decide_eq_true_eq]; exact PyData.shown_int_le (by omega)
    · simp only [PyData.weight, nd]; split <;> omega
  | .str x, h => by
    have z := okText_lay h
    refine ⟨z.1, rfl, rfl, rfl, ?_⟩
    simp only [PyData.weight, nd]
    omega
  | .list ds, h => by
    have z := fine_layAll hU ds h
    simp only [PyData.canLay0, PyData.showable, PyData.intsShort, PyData.hasDict, PyData.weight, nd]
    refine ⟨z.1, z.2.1, z.2.2.1, z.2.2.2.1, by omega⟩
  | .tuple ds, h => by
    have z := fine_layAll hU ds h
    simp only [PyData.canLay0, PyData.showable, PyData.intsShort, PyData.hasDict, PyData.weight, nd]
    refine ⟨z.1, z.2.1, z.2.2.1, z.2.2.2.1, by omega⟩
  | .dict _, h => h.elim
theorem fine_layAll {U : List Int} (hU : Few U) : ∀ ds : List PyData, fineAll U ds → PyData.canLayAll0 ds = true ∧ PyData.showableAll ds = true ∧ PyData.intsShortAll 13 ds = true ∧ PyData.hasDictAll ds = false ∧ PyData.weightAll ds ≤ 110 * ndAll ds
  | [], _ => ⟨rfl, rfl, rfl, rfl, by decide⟩
  | d :: ds, h => by
    have h : fine U d ∧ fineAll U ds := h
    have a := fine_lay hU d h.1
    have b := fine_layAll hU ds h.2
    simp only [PyData.canLayAll0, PyData.showableAll, PyData.intsShortAll, PyData.hasDictAll, PyData.weightAll, ndAll, Bool.and_eq_true, Bool.or_eq_false_iff]
    exact ⟨⟨a.1, b.1⟩, ⟨a.2.1, b.2.1⟩, ⟨a.2.2.1, b.2.2.1⟩, ⟨a.2.2.2.1, b.2.2.2.1⟩, by omega⟩
end
/-- fine, of at most n nodes, at most k deep -/
structure Good (U : List Int) (n k : Nat) (d : PyData) : Prop where
  fine : fine U d
  nd : nd d ≤ n
  dp : d.depth ≤ k
theorem Good.more {U : List Int} {n k n' k' : Nat} {d : PyData} (h : Good U n k d) (hn : n ≤ n') (hk : k ≤ k') : Good U n' k' d := ⟨h.fine, by have := h.nd; omega, by have := h.dp; omega⟩
theorem Good.ok {U : List Int} (hU : Few U) {n k : Nat} {d : PyData} (h : Good U n k d) (hk : k ≤ 60) : okD d := ⟨(fine_lay hU d h.fine).1, by have := h.dp; omega⟩
theorem Good.shown {U : List Int} (hU : Few U) {n k : Nat} {d : PyData} (h : Good U n k d) (hn : n ≤ 9000) (hk : k ≤ 60) : d.showable = true ∧ d.hasDict = false ∧ d.depth ≤ 64 ∧ d.shown.length ≤ 15728653 := by
  obtain ⟨h1, h2, h3, h4, h5⟩ := fine_lay hU d h.fine
  have n1 := h.nd
  have k1 := h.dp
  refine ⟨h2, h4, by omega, shown_le13 ?_ h3⟩
  unfold PyData.layable0
  rw [h1, decide_eq_true (by omega : d.depth ≤ 64), decide_eq_true (by omega : d.weight ≤ 2 ^ 20)]
  rfl
theorem Good.tup {U : List Int} {n k : Nat} {ds : List PyData} (h : Good U n k (.tuple ds)) : (∀ d ∈ ds, Rp.fine U d) ∧ ndAll ds + 1 ≤ n ∧ ∀ d ∈ ds, d.depth + 1 ≤ k := by
  refine ⟨fineAll_iff.mp h.fine, by simpa [Rp.nd] using h.nd, fun d hd => ?_⟩
  have k1 : PyData.depthAll ds + 1 ≤ k := by simpa [PyData.depth] using h.dp
  have := depthAll_iff.mp (Nat.le_refl (PyData.depthAll ds)) d hd
  omega
theorem Good.lst {U : List Int} {n k : Nat} {ds : List PyData} (h : Good U n k (.list ds)) : (∀ d ∈ ds, Rp.fine U d) ∧ ndAll ds + 1 ≤ n ∧ ∀ d ∈ ds, d.depth + 1 ≤ k := by
  refine ⟨fineAll_iff.mp h.fine, by simpa [Rp.nd] using h.nd, fun d hd => ?_⟩
  have k1 : PyData.depthAll ds + 1 ≤ k := by simpa [PyData.depth] using h.dp
  have := depthAll_iff.mp (Nat.le_refl (PyData.depthAll ds)) d hd
  omega
theorem good_lst {U : List Int} {n k : Nat} {ds : List PyData} (h : ∀ d ∈ ds, fine U d) (hn : ndAll ds + 1 ≤ n) (hk : ∀ d ∈ ds, d.depth + 1 ≤ k) (k1 : 1 ≤ k) : Good U n k (.list ds) := by
  refine ⟨fineAll_iff.mpr h, by simpa [Rp.nd] using hn, ?_⟩
  have : PyData.depthAll ds ≤ k - 1 := depthAll_iff.mpr fun d hd => by have := hk d hd; omega
  simp only [PyData.depth]
  omega
theorem good_tup {U : List Int} {n k : Nat} {ds : List PyData} (h : ∀ d ∈ ds, fine U d) (hn : ndAll ds + 1 ≤ n) (hk : ∀ d ∈ ds, d.depth + 1 ≤ k) (k1 : 1 ≤ k) : Good U n k (.tuple ds) := by
  refine ⟨fineAll_iff.mpr h, by simpa [Rp.nd] using hn, ?_⟩
  have : PyData.depthAll ds ≤ k - 1 := depthAll_iff.mpr fun d hd => by have := hk d hd; omega
  simp only [PyData.depth]
  omega
/-- a TERM's data are good -/
theorem tm_good {U : List Int} : ∀ t : Tm, (∀ n ∈ t.nums, n ∈ U) → Good U (2 * t.size) (t.deep + 1) (tmD t)
  | .v n, h => ⟨h n (by simp [Tm.nums]), by simp [tmD, Rp.nd, Tm.size], by simp [tmD, PyData.depth]⟩
  | .z, _ => ⟨⟨.inr (.inl rfl), trivial⟩, by simp [tmD, Rp.nd, ndAll, Tm.size], by simp [tmD, PyData.depth, PyData.depthAll]⟩
  | .s t, h => by
    have g := tm_good t h
    have h1 := g.nd
    have h2 := g.dp
    unfold tmD
    refine good_tup (fun d hd => ?_) ?_ (fun d hd => ?_) (by omega)
    · simp at hd; rcases hd with rfl | rfl
      · exact .inr (.inr (.inl rfl))
      · exact g.fine
    · simp only [ndAll, Rp.nd, Tm.size]; omega
    · simp at hd; rcases hd with rfl | rfl
      · simp [PyData.depth, Tm.deep]
      · simp only [Tm.deep]; omega
  | .f l r, h => by
    have g := tm_good l fun n hn => h n (by simp [Tm.nums, hn])
    have g' := tm_good r fun n hn => h n (by simp [Tm.nums, hn])
    have h1 := g.nd
    have h2 := g.dp
    have h3 := g'.nd
    have h4 := g'.dp
    unfold tmD
    refine good_tup (fun d hd => ?_) ?_ (fun d hd => ?_) (by omega)
    · simp at hd; rcases hd with rfl | rfl | rfl
      · exact .inr (.inr (.inr (.inl rfl)))
      · exact g.fine
      · exact g'.fine
    · simp only [ndAll, Rp.nd, Tm.size]; omega
    · simp at hd; rcases hd with rfl | rfl | rfl
      · simp [PyData.depth, Tm.deep]
      · simp only [Tm.deep]; omega
      · simp only [Tm.deep]; omega
/-- ints of a TERM among the data's -/
theorem tm_fine {U : List Int} : ∀ t : Tm, fine U (tmD t) → ∀ n ∈ t.nums, n ∈ U
  | .v n, h, m, hm => by simp [Tm.nums] at hm; subst hm; exact h
  | .z, h, m, hm => by simp [Tm.nums] at hm
  | .s t, h, m, hm => tm_fine t h.2.1 m hm
  | .f l r, h, m, hm => by
    rcases List.mem_append.mp hm with q | q
    · exact tm_fine l h.2.1 m q
    · exact tm_fine r h.2.2.1 m q
theorem nodup_le : ∀ {L U : List Int}, L.Nodup → (∀ k ∈ L, k ∈ U) → L.length ≤ U.length
  | [], U, _, _ => Nat.zero_le _
  | x :: L, U, h, hs => by
    rw [List.nodup_cons] at h
    have hx := hs x (by simp)
    have := nodup_le (L := L) (U := U.erase x) h.2 fun k hk => (List.mem_erase_of_ne (fun e => h.1 (by rw [← e]; exact hk))).mpr (hs k (by simp [hk]))
    rw [List.length_erase_of_mem hx] at this
    have := List.length_pos_of_mem hx
    rw [List.length_cons]
    omega
/-- the other way: a TERM's data tell its size -/
theorem tm_size : ∀ t : Tm, t.size ≤ nd (tmD t) ∧ t.deep ≤ (tmD t).depth
  | .v n => ⟨by simp [tmD, nd, Tm.size], by simp [Tm.deep]⟩
  | .z => ⟨by simp [tmD, nd, Tm.size], by simp [Tm.deep]⟩
  | .s t => by
    have := tm_size t
    simp only [tmD, nd, ndAll, Tm.size, Tm.deep, PyData.depth, PyData.depthAll]
    omega
  | .f l r => by
    have := tm_size l
    have := tm_size r
    simp only [tmD, nd, ndAll, Tm.size, Tm.deep, PyData.depth, PyData.depthAll]
    omega
end Rp

namespace Rp
open PySem PySem.Spec PyProof.Rows L2
def spTerm : Sp := fun vs H Q _ => ∃ (b : Addr) (v : V) (d : PyData), vs = [v] ∧ DAt H b v d ∧ okD d ∧ nd d ≤ 1000 ∧ ∀ (r : Bool) (H' : Hp), (r = true ↔ IsT d) → Same H H' → Q (.bl r) H'
def spVarsU : Sp := fun vs H Q _ => ∃ (v : V) (t : Tm) (U : List Int), vs = [v] ∧ TmAt H v t ∧ t.size ≤ 1000 ∧ (∀ n ∈ t.nums, n ∈ U) ∧ U.length ≤ 60 ∧
  ∀ (p : Addr) (ns : List Int) (H' : Hp), H p = none → H' p = some (.lst (ns.map V.int)) → ns.Pairwise (· < ·) → (∀ k, k ∈ ns ↔ k ∈ t.nums) → Same H H' → Q (.ref p) H'
def spClosed : Sp := fun vs H Q _ => ∃ (b : Addr) (v : V) (d : PyData) (U : List Int), vs = [v] ∧ DAt H b v d ∧ Few U ∧ Good U 1000 60 d ∧ ∀ (r : Bool) (H' : Hp), (r = true ↔ ∃ t, d = tmD t ∧ t.nums = []) → Same H H' → Q (.bl r) H'
theorem isVar_iff {d : PyData} (h : ¬ Shaped d) : isVar d = true ↔ IsT d := by
  cases d with
  | int n => rw [isT_int]; simp [isVar]
  | _ => exact ⟨fun e => by simp [isVar] at e, fun e => absurd e (isT_other h fun n z => by cases z)⟩
section
variable {P : Program} {w : World} {K : PySem.W.Frag} {mg : Str → Option Value} {base : Heap}
theorem scTerm : FnScope ["thing", "todo", "part"] ["thing"] (defScope sTerm) := ⟨rfl, rfl, rfl, by decide +kernel, rfl, by decide +kernel, by decide +kernel⟩
theorem ok_term {f fS fV : Addr} {fd dS dV : FuncData} (F : Fun K "is_term" "is_term" sTerm f fd)
    (GS : FnOk P w K mg base CX0 1 fS dS ["thing"] spShape) (kS : PySem.W.keepIn K (.ref fS) = true) (bS : Binds K dS ["thing"] []) (mS : mg "_has_shape" = some (.ref fS))
    (GV : FnOk P w K mg base CX0 2 fV dV ["thing"] spVariable) (kV : PySem.W.keepIn K (.ref fV) = true) (bV : Binds K dV ["thing"] []) (mV : mg "is_variable" = some (.ref fV)) :
    FnOk P w K mg base CX0 3 f fd ["thing"] spTerm := by
  refine F.ok scTerm (fun vs H Q E h => ?_) (fun cdv A outer s H vs Q E hr h => ?_)
  · obtain ⟨b, v, d, rfl, _⟩ := h
    rfl
  obtain ⟨b, v, d, rfl, D, ok, hn, q⟩ := h
  have r1 : Room 1 _ := hr.mono (by decide)
  refine ⟨_, pss_cons (ps_set (i := 1) scTerm.nd rfl (Or.inl rfl) (pe_lst (pa_cons (pv 0) pa_nil)))
    (pss_cons (ps_while PassesOwn.never (pt_truth (pv 1) (by intro _; rfl))
      (pss_cons (ps_set (i := 2) scTerm.nd rfl (Or.inl rfl) (pe_bm0 PySem.F.plainAttrs_list PySem.F.slot_list_pop PySem.F.type_list_pop mt_pop (pv 1)))
      (pss_one (ps_if (pt_val (pe_call GS r1 rfl mS kS bS .nil pass0 (pa_cons (pv 2) pa_nil)))
        (pss_one (ps_expr (pe_bm PySem.F.plainAttrs_list PySem.F.slot_list_extend PySem.F.type_list_extend mt_extendT (pv 1) (pa_cons (pe_slice sl_tup (pv 2) (po_some pe_int) po_none) pa_nil))))
        (pss_one (ps_if (pt_not (pt_val (pe_call GV hr rfl mV kV bV .nil pass0 (pa_cons (pv 2) pa_nil)))) (pss_one (ps_ret pe_bl)) pss_nil))))))
    (pss_one (ps_ret pe_bl))), ?_⟩
  refine ⟨_, rfl, (by show 1 ≤ sizeLine; decide), fun p hp => ?_⟩
  have s1 := same_new hp (.lst [v])
  dsimp only [gName, tSeq]
  refine ⟨fun m σ H2 => ∃ (txs : List V) (ds : List PyData) (x : Option V), σ = [some v, some (.ref p), x] ∧ H2 p = some (.lst txs) ∧ DAtAll H b txs ds ∧ (IsT d ↔ ∀ e ∈ ds, IsT e) ∧ (∀ e ∈ ds, okD e) ∧ ndAll ds ≤ 1000 ∧ m = ndAll ds ∧ Same H H2,
    ⟨nd d, [v], [d], none, rfl, upd_same, .cons D .nil, by simp, by simpa using ok, by simp [ndAll]; exact hn, by simp [ndAll], s1⟩, ?_⟩
  rintro m σ H2 ⟨txs, ds, x, rfl, h2, A1, iff, oks, few, rfl, sH⟩
  refine ⟨_, rfl, !txs.isEmpty, .inl ⟨txs, .inl (.inl h2), rfl⟩, ?_⟩
  rcases List.eq_nil_or_concat txs with e | ⟨M, y, e⟩
  · subst e
    refine iteF ?_
    have e2 : ds = [] := by have := A1.len; cases ds with | nil => rfl | cons => simp at this
    subst e2
    exact q true H2 ⟨fun _ => iff.mpr (by simp), fun _ => rfl⟩ sH
  · rw [List.concat_eq_append] at e
    subst e
    have ne : (!(M ++ [y]).isEmpty) = true := by simp
    rw [ne]
    refine iteT ⟨_, fun _ _ h => h, ?_⟩
    obtain ⟨L, k', e2, AM, Ay⟩ := A1.parted
    subst e2
    obtain ⟨k, rest, rfl, Dk, Ar⟩ := Ay.head
    obtain rfl : rest = [] := by have := Ar.len; cases rest with | nil => rfl | cons => simp at this
    have okk : okD k := oks k (by simp)
    have ilast : IsT d ↔ (∀ e ∈ L, IsT e) ∧ IsT k := by
      rw [iff]
      constructor
      · intro h; exact ⟨fun e he => h e (by simp [he]), h k (by simp)⟩
      · intro h e he
        rcases List.mem_append.mp he with he | he
        · exact h.1 e he
        · simp at he; subst he; exact h.2
    rw [ndAll_append] at few
    -- part = todo.pop()
    refine ⟨_, rfl, .inl ⟨rfl, _, .inl (.inl h2)⟩, p, _, y, rfl, rfl, h2, by simp, ?_⟩
    rw [List.dropLast_concat]
    have pn : H p = none := hp
    have s3 : Same H (upd H2 p (.lst M)) := fun c o z => by rw [upd_ne (ne_of_none z pn)]; exact sH c o z
    have nk : ndAll [k] = nd k := by simp [ndAll]
    refine ⟨_, rfl, b, y, k, rfl, Dk.same s3, okk, fun r H4 hr4 s4 => ?_⟩
    have h4 := s4 _ _ (upd_same : (upd H2 p (.lst M)) p = some (.lst M))
    have sH4 : Same H H4 := s3.trans s4
    cases r with
    | true =>
      refine ⟨true, rfl, iteT ?_⟩
      obtain ⟨sg, ds', rfl, sh⟩ := hr4.mp rfl
      obtain ⟨a, xs, rfl, ha, Ak⟩ := Dk.tup_of
      obtain ⟨x0, ks, rfl, D0, Dks⟩ := Ak.cons_of
      have nks : nd (PyData.tuple (.str sg :: ds')) = ndAll ds' + 2 := by simp [nd, ndAll]; omega
      refine ⟨_, rfl, .inl ⟨rfl, M, .inl (.inl h4)⟩, _, rfl, 1, rfl, a, _, rfl, .inl (ha.same sH4), cut_part _ _, fun g hg => ?_⟩
      rw [cut_tail]
      have s5 := same_new hg (.tup ks)
      have lim : M.length + ks.length ≤ sizeLine := by
        have a1 := AM.len
        have a2 := Dks.len
        have a3 := ndAll_len L
        have a4 := ndAll_len ds'
        have a5 : (1000 : Nat) + 1000 ≤ sizeLine := by decide
        omega
      refine ⟨p, g, M, ks, rfl, rfl, s5 _ _ h4, .inl (.inl upd_same), lim, ?_⟩
      refine ⟨ndAll (L ++ ds'), ?_, M ++ ks, L ++ ds', _, rfl, upd_same, AM.append Dks, ?_, ?_, ?_, rfl, ?_⟩
      · rw [ndAll_append, ndAll_append]; omega
      · rw [ilast, isT_shaped sh]
        constructor
        · rintro ⟨h1, h2⟩ e he
          rcases List.mem_append.mp he with he | he
          · exact h1 e he
          · exact h2 e he
        · intro h
          exact ⟨fun e he => h e (by simp [he]), fun e he => h e (by simp [he])⟩
      · intro e he
        rcases List.mem_append.mp he with he | he
        · exact oks e (by simp [he])
        · exact okk.tup e (by simp [he])
      · rw [ndAll_append]; omega
      · intro c o z
        rw [upd_ne (ne_of_none z pn)]
        exact s5 _ _ (sH4 _ _ z)
    | false =>
      refine ⟨false, rfl, iteF ?_⟩
      have ns : ¬ Shaped k := fun z => by have := hr4.mpr z; cases this
      refine ⟨_, rfl, b, y, k, rfl, Dk.same sH4, isVar k, rfl, ?_⟩
      cases ev : isVar k with
      | false =>
        refine iteT (q false H4 ⟨(fun e => nomatch e), fun z => ?_⟩ sH4)
        have := (isVar_iff ns).mpr (ilast.mp z).2
        rw [ev] at this
        cases this
      | true =>
        refine iteF ?_
        have tk := (isVar_iff ns).mp ev
        refine ⟨ndAll L, ?_, M, L, _, rfl, h4, AM, ?_, fun e he => oks e (by simp [he]), by omega, rfl, sH4⟩
        · rw [ndAll_append, nk]; have := nd_pos k; omega
        · rw [ilast]; exact ⟨fun h => h.1, fun h => ⟨h, tk⟩⟩
end
end Rp

/-! xs[a:] = ys, ys another list: what the layer has no statement of. -/
namespace Rp
open PySem PySem.Spec PyProof.Rows L2
theorem tail_bounds {k n : Nat} (h : k ≤ n) : sliceBounds (some (k : Int)) none none n = ((k : Int), (n : Int), 1) := by
  simp only [sliceBounds, Option.getD_none, show ¬ ((k : Int) < 0) by omega, if_false, show (1 : Int) > 0 by decide, if_true]
  congr 1
  · omega
theorem tail_items (old fresh : List Value) (k : Nat) : old.toArray.extract 0 k ++ fresh.toArray ++ old.toArray.extract old.toArray.size old.toArray.size = (old.take k ++ fresh).toArray := by
  apply Array.toList_inj.mp
  simp
section
variable {prog : Program} {w : World} {A : Around} {E : Value → Shared → Prop} {s : Shared}
theorem store_tail {at_ src cut : Addr} {old fresh : Array Value} {n1 n2 : Nat} {vlo : Value} {k : Nat} {Q : Unit → Shared → Prop} (oe : s.heap.get? at_ = some { cls := .type "list", data := .seq old n1 })
    (fe : s.heap.get? src = some { cls := .type "list", data := .seq fresh n2 }) (apart : at_ ≠ src) (isCut : s.heap.IsSliceOf cut vlo .none .none) (pLo : IsPart vlo (some (k : Int))) (hk : k ≤ old.size) (room : old.size + fresh.size ≤ sizeLine)
    (go : Q () { s with heap := s.heap.update at_ (Obj.mapSeq fun xs => xs.extract 0 k ++ fresh ++ xs.extract old.size xs.size) }) : wpAny (model prog w) A (setItem (.ref at_) (.ref cut) (.ref src)) Q E s := by
  have lstIs : s.heap.IsList at_ old := PySem.IsL.isList oe
  have srcIs : s.heap.IsList src fresh := PySem.IsL.isList fe
  obtain ⟨oc, hoc, hcc, hdc⟩ := id isCut
  have cutIs : s.TypeIs (.ref cut) "slice" := ⟨oc, hoc, hcc⟩
  have noStep : ¬ ((rawPart none == rawInt 0) = true) := Bool.false_ne_true
  have other : Builtin.List.listSameRef (.ref at_) (.ref src) = false := by unfold Builtin.List.listSameRef; exact beq_eq_false_iff_ne.mpr apart
  have bound : ((fun xs : Array Value => xs.extract 0 k ++ fresh ++ xs.extract old.size xs.size) old).size ≤ sizeLine + 1 := by simp only [Array.size_append, Array.size_extract]; omega
  unfold setItem; try with_reducible refine wpAny_holding ?_
  first | refine wpAny_bind (wpAny_pure ?_) | skip
  refine wpAny_bind (wpAny_sequenceKey lstIs.typeIs (by decide) (wpAny_bind (wpAny_callSpecial?_slot (name := Str.ofString "__setitem__") lstIs.typeIs slot_list_setitem (wpAny_call_entry slot_list_setitem lstIs.typeIs entry_list_setitem ?_ (args_list_setitem _ _ _)))))
  show wpAny _ _ (Builtin.List.listSubscript? (.ref cut) >>= _) _ _ s
  refine wpAny_bind ?_; unfold Builtin.List.listSubscript?
  refine wpAny_bind (wpAny_specialOf cutIs slice_no_index ?_); simp only [Option.isNone_none, if_true]
  refine wpAny_pure ?_; show wpAny _ _ (typeOf (.ref cut) >>= _) _ _ s
  refine wpAny_bind (wpAny_typeOf cutIs ?_)
  first | rw [if_neg (by decide)] | refine PySem.W.KFB.if_not (by decide) ?_
  rw [listSliceParts_eq]; refine wpAny_bind (wpAny_bind (wpAny_field hoc hdc (x := .none) rfl (wpAny_bind (wpAny_listPart .none ?_))))
  rw [if_neg noStep]; refine wpAny_bind (wpAny_field hoc hdc (x := vlo) rfl (wpAny_bind (wpAny_listPart pLo ?_)))
  refine wpAny_bind (wpAny_field hoc hdc (x := .none) rfl (wpAny_bind (wpAny_listPart .none (wpAny_pure ?_))))
  first | simp only [other, Bool.false_eq_true, if_false] | refine PySem.W.KFB.if_not other ?_ | (dsimp only; rw [if_neg (by rw [other]; exact Bool.false_ne_true)])
  refine wpAny_bind (m := Builtin.List.listAllItems (.ref src) "must assign iterable to extended slice") ?_; unfold Builtin.List.listAllItems
  refine wpAny_bind (wpAny_typeOf srcIs.typeIs ?_)
  first | refine PySem.W.KFB.if_so (by decide) ?_ | rw [if_pos (by decide)] | simp only [beq_self_eq_true, Bool.true_or, if_true]
  unfold Builtin.List.listItems; refine wpAny_bind (wpAny_seqItems fe rfl (wpAny_pure ?_))
  refine wpAny_bind (wpAny_bind (wpAny_seqItems oe rfl (wpAny_pure ?_)))
  refine wpAny_bind (wpAny_of_eq ((sliceIndices_raw (some (k : Int)) none none old.size (by simp)).trans (congrArg (pure : Int × Int × Int → Sem (Int × Int × Int)) (tail_bounds hk))) ?_)
  show wpAny _ _ (if ((1 : Int) == 1) = true then _ else _) _ _ s; rw [if_pos (by decide)]
  refine wpAny_bind (wpAny_rule ?_); have small := notLongL room
  first | simp only [small, Bool.false_eq_true, if_false] | refine PySem.W.KFB.if_not small ?_
  first | refine wpAny_bind (wpAny_pure ?_) | skip
  show wpAny _ _ (updateSeq at_ (fun xs => xs.extract 0 ((k : Int)).toNat ++ fresh ++ xs.extract (max (k : Int) (old.size : Int)).toNat xs.size) >>= _) _ _ s
  rw [show (max (k : Int) (old.size : Int)).toNat = old.size by omega, Int.toNat_natCast]
  refine wpAny_bind (wpAny_updateSeq (hz := Nat.le_trans (Nat.le_add_right _ _) room) (_hz' := bound) oe rfl (wpAny_bind (wpAny_letGo ?_)))
  first | exact wpAny_bind (wpAny_pure (wpAny_pure ⟨.none, rfl, wpAny_pure go⟩)) | exact wpAny_pure ⟨.none, rfl, wpAny_pure go⟩
end
/-- xs[a:] = ys -/
def tTail (to : TE) (ta : TO) (tv : TE) : TS := fun D σ H => tv σ H fun y H1 => to σ H1 fun x H2 => ta σ H2 fun i H3 => ∃ (l b : Addr) (xs ys : List V) (k : Nat), y = .ref b ∧ x = .ref l ∧ i = some (k : Int) ∧ H3 l = some (.lst xs) ∧ H3 b = some (.lst ys) ∧ l ≠ b ∧ k ≤ xs.length ∧ xs.length + ys.length ≤ sizeLine ∧
  D.nx σ (upd H3 l (.lst (xs.take k ++ ys)))
section
variable {X : Cx} {o e value : Expr} {pos pos' p2 : Pos} {td tv : TE} {ta : TO}
theorem ps_tail (ho : PE X o td) (hi : PO X (some e) ta) (hv : PE X value tv) (hs : swapsWith value (some (.Subscript o (.Slice (some e) none none p2) pos')) pos.line X.env = pure false := by rfl) :
    PS X (.Assign [.Subscript o (.Slice (some e) none none p2) pos'] value pos) (tTail td ta tv) := by
  refine ⟨fun pins s σ H D I h => wpAny_Assign_Subscript (thn (hv.run pins s σ H _ I h) fun r s1 ⟨v, H1, I1, rv, q1⟩ => thn (ho.run pins s1 σ H1 _ I1 q1) fun u s2 ⟨x, H2, I2, rx, q2⟩ => ?_) hs⟩
  refine wpAny_Slice (thn (hi.run pins s2 σ H2 _ I2 q2) fun vl s3 ⟨i, H3, I3, pl, q3⟩ => ?_)
  obtain ⟨l, b, xs, ys, k, rfl, rfl, rfl, hl, hb, ne, hk, room, go⟩ := q3
  rw [evalPart_none]
  refine wpAny_pure (wpAny_pure ?_)
  cases rv
  cases rx
  have I4 : Inv X pins σ H3 { s3 with heap := s3.heap.push { cls := .type "slice", data := .fields #[vl, .none, .none] } } := I3.kept (t' := s3.toks) fun c ob w => Heap.get?_push_of_some _ w
  obtain ⟨_, old, n1, ro, lo, oe⟩ := I4.lstM hl
  obtain ⟨_, fresh, n2, rf, lf, fe⟩ := I4.lstM hb
  refine store_tail (k := k) oe fe ne (Heap.IsSliceOf.new ..) pl (by rw [List.size_toArray]; omega) (by rw [List.size_toArray, List.size_toArray]; omega) ?_
  refine ⟨σ, _, I4.lset (its' := old.take k ++ fresh) (t' := s3.toks) hl oe ?_ (Vals.append (ro.take _) rf) ?_, go⟩
  · exact tail_items old fresh k
  · rw [List.length_append, List.length_take]; omega
end
end Rp

set_option maxHeartbeats 8000000
/-! is_binding over data of any kind. -/
namespace Rp
open PySem PySem.Spec PyProof.Rows L2 TL RZ
/-- [.. for a, b in zip(xs, ys)], n turns -/
theorem lc_pairsN {J : It} {n : Nat} {xs ys : List V} {g : TG} {tt : TT} {te : TE} {vs : List Nat} {σ : L2.St} {H1 : Hp} {D : Addr} {Qd : Hp → Prop} (Pv : Nat → Hp → Prop)
    (stops : ∀ H, Pv n H → J.stop n H) (goes : ∀ i H, i < n → Pv i H → J.go i H)
    (gives : ∀ i H v H', i < n → Pv i H → J.yld i H v H' → ∃ T x y, v = .ref T ∧ xs[i]? = some x ∧ ys[i]? = some y ∧ H T = none ∧ H' = upd H T (.tup [x, y]))
    (h0 : Pv 0 (upd H1 D (.lst [])))
    (hs : ∀ (i : Nat) (x y : V) (T : Addr) (H : Hp), i < n → xs[i]? = some x → ys[i]? = some y → Pv i H → H T = none → g (.ref T) (wipe σ vs) (upd H T (.tup [x, y])) fun σ2 H2 => wipe σ2 vs = wipe σ vs ∧
      tt σ2 H2 fun b H3 => if b = true then te σ2 H3 fun y H4 => ∃ acc, H4 D = some (.lst acc) ∧ acc.length < sizeLine ∧ Pv (i + 1) (upd H4 D (.lst (acc ++ [y]))) else Pv (i + 1) H3)
    (hd : ∀ H, Pv n H → Qd H) :
    ∃ W : Nat → Nat → Hp → Prop, (∃ m, W 0 m (upd H1 D (.lst []))) ∧ ∀ i m H, W i m H → (J.stop i H ∧ Qd H) ∨
      (J.go i H ∧ ∃ Nx : Hp → Prop, (∀ H', Nx H' → ∃ m', m' < m ∧ W (i + 1) m' H') ∧ ∀ x H', J.yld i H x H' → g x (wipe σ vs) H' fun σ2 H2 => wipe σ2 vs = wipe σ vs ∧
        tt σ2 H2 fun b H3 => if b = true then te σ2 H3 fun y H4 => ∃ acc, H4 D = some (.lst acc) ∧ acc.length < sizeLine ∧ Nx (upd H4 D (.lst (acc ++ [y]))) else Nx H3) := by
  refine ⟨fun i m H => m + i = n ∧ Pv i H, ⟨n, by simp, h0⟩, ?_⟩
  rintro i m H ⟨em, p⟩
  rcases Nat.lt_or_ge i n with lt | ge
  · refine .inr ⟨goes i H lt p, Pv (i + 1), fun H' p' => ⟨m - 1, by omega, by omega, p'⟩, fun v H' y => ?_⟩
    obtain ⟨T, x, y', rfl, hx, hy, hT, rfl⟩ := gives i H v H' lt p y
    exact hs i x y' T H lt hx hy p hT
  · have e : i = n := by omega
    subst e
    exact .inl ⟨stops H p, hd H p⟩
def IsPr (d : PyData) : Prop := ∃ (n : Int) (e : PyData), d = .tuple [.int n, e] ∧ 0 ≤ n ∧ n ≤ 99 ∧ IsT e
def keyD : PyData → Int
  | .tuple (.int n :: _) => n
  | _ => 0
def adjB (ks : List Int) : Bool := (List.range (ks.length - 1)).all fun j => decide (ks.getD j 0 < ks.getD (j + 1) 0)
def IsBdD (d : PyData) : Prop := ∃ ds : List PyData, d = .tuple ds ∧ (∀ e ∈ ds, IsPr e) ∧ adjB (ds.map keyD) = true
def spIsPr : Sp := fun vs H Q _ => ∃ (b : Addr) (v : V) (d : PyData), vs = [v] ∧ DAt H b v d ∧ okD d ∧ nd d ≤ 1000 ∧ ∀ (r : Bool) (H' : Hp), (r = true ↔ IsPr d) → Same H H' → Q (.bl r) H'
def spIsBd : Sp := fun vs H Q _ => ∃ (b : Addr) (v : V) (d : PyData), vs = [v] ∧ DAt H b v d ∧ okD d ∧ nd d ≤ 1000 ∧ ∀ (r : Bool) (H' : Hp), (r = true ↔ IsBdD d) → Same H H' → Q (.bl r) H'
theorem nd_mem {ds : List PyData} {e : PyData} (h : e ∈ ds) : nd e ≤ nd (.tuple ds) := by
  have := ndAll_mem h
  simp only [nd]; omega
theorem isPr_two {ds : List PyData} (h : ds.length ≠ 2) : ¬ IsPr (.tuple ds) := fun ⟨n, e, z, _⟩ => by
  injection z with z
  subst z
  exact h rfl
theorem isVar_num {d : PyData} : isVar d = true ↔ ∃ n : Int, d = .int n ∧ 0 ≤ n ∧ n ≤ 99 := by
  cases d <;> simp [isVar]
section
variable {P : Program} {w : World} {K : PySem.W.Frag} {mg : Str → Option Value} {base : Heap}
theorem scIsPair : FnScope ["thing"] ["thing"] (defScope sIsPair) := ⟨rfl, rfl, rfl, by decide +kernel, rfl, by decide +kernel, by decide +kernel⟩
theorem ok_ispr {f fV fT : Addr} {fd dV dT : FuncData} (F : Fun K "_is_pair" "_is_pair" sIsPair f fd)
    (GV : FnOk P w K mg base CX0 2 fV dV ["thing"] spVariable) (kV : PySem.W.keepIn K (.ref fV) = true) (bV : Binds K dV ["thing"] []) (mV : mg "is_variable" = some (.ref fV))
    (GT : FnOk P w K mg base CX0 3 fT dT ["thing"] spTerm) (kT : PySem.W.keepIn K (.ref fT) = true) (bT : Binds K dT ["thing"] []) (mT : mg "is_term" = some (.ref fT)) (M : SameG mg) : FnOk P w K mg base CX0 4 f fd ["thing"] spIsPr := by
  refine F.ok scIsPair (fun vs H Q E h => ?_) (fun cdv A outer s H vs Q E hr h => ?_)
  · obtain ⟨b, v, d, rfl, _⟩ := h
    rfl
  obtain ⟨b, v, d, rfl, D, ok, sz, q⟩ := h
  have r2 : Room 2 _ := hr.mono (by decide)
  refine ⟨_, pss_one (ps_ret (pe_and (pe_callB (id := "isinstance") call_isi (by rfl) M.isi (by decide +kernel) (pa_cons (pv 0) (pa_cons (pe_bltn (v := .ty "tuple") (by rfl) M.tuple (by decide +kernel) rfl) pa_nil)))
    (pe_and (pe_cmpR op_eq (pe_callB call_len_seq (by rfl) M.len PySem.boot_len (pa_cons (pv 0) pa_nil)) pe_int (nomark _))
    (pe_and (pe_call GV r2 rfl mV kV bV .nil pass0 (pa_cons (pe_ix ix_tup (pv 0) pe_int (fun _ _ => rfl)) pa_nil))
    (pe_one (pe_call GT hr rfl mT kT bT .nil pass0 (pa_cons (pe_ix ix_tup (pv 0) pe_int (fun _ _ => rfl)) pa_nil))))))), ?_⟩
  have no : ¬ IsPr d → Q (.bl false) H := fun h => q false H ⟨(fun e => nomatch e), fun z => absurd z h⟩ (Same.refl H)
  refine ⟨_, rfl, _, _, _, _, isU d, rfl, .ty "tuple", D.tyx, kitU d, isU d, rfl, ?_⟩
  cases d with
  | tuple ds =>
    obtain ⟨a, xs, rfl, ha, A'⟩ := D.tup_of
    have el := A'.len
    refine iteT ?_
    refine ⟨_, rfl, a, _, rfl, .inr (.inl ha), rfl, decide (V.int ((xs.length : Nat) : Int) = V.int 2), rfl, ?_⟩
    by_cases h2 : xs.length = 2
    · rw [decide_eq_true (by rw [h2]; rfl)]
      refine iteT ?_
      match ds, xs, A', h2 with
      | [d0, d1], [x0, x1], A', _ =>
        obtain ⟨_, _, e, D0, A1⟩ := A'.head
        injection e with e1 e2
        subst e1 e2
        obtain ⟨_, _, e, D1, _⟩ := A1.head
        injection e with e1 e2
        subst e1
        refine ⟨_, rfl, a, _, _, _, rfl, rfl, .inl ha, at_of (j := 0) rfl rfl, b, x0, d0, rfl, D0, isVar d0, rfl, ?_⟩
        cases ev : isVar d0 with
        | false =>
          refine iteF (no fun ⟨n, e, z, n0, n9, _⟩ => ?_)
          injection z with z
          injection z with z1 z2
          rw [isVar_num.mpr ⟨n, z1, n0, n9⟩] at ev
          cases ev
        | true =>
          obtain ⟨n, rfl, n0, n9⟩ := isVar_num.mp ev
          refine iteT ⟨_, rfl, a, _, _, _, rfl, rfl, .inl ha, at_of (j := 1) rfl rfl, b, x1, d1, rfl, D1, ok.tup d1 (by simp), Nat.le_trans (nd_mem (by simp)) sz, fun r H1 hr1 s1 => q r H1 ?_ s1⟩
          rw [hr1]
          refine ⟨fun h => ⟨n, d1, rfl, n0, n9, h⟩, fun ⟨_, _, z, _, _, h⟩ => ?_⟩
          injection z with z
          injection z with _ z
          injection z with z _
          rw [z]; exact h
    · rw [decide_eq_false (fun z => h2 (by injection z with z; omega))]
      exact iteF (no (isPr_two (by omega)))
  | _ => exact iteF (no fun ⟨_, _, z, _⟩ => nomatch z)
end
end Rp

set_option maxHeartbeats 8000000
namespace Rp
open PySem PySem.Spec PyProof.Rows L2 TL RZ
def stepK (ks : List Int) (j : Nat) : Bool := decide (ks.getD j 0 < ks.getD (j + 1) 0)
theorem adj_all {ks : List Int} {n : Nat} (h : n = ks.length) : ((List.range (n - 1)).map (stepK ks)).all id = adjB ks := by
  subst h
  unfold adjB
  rw [List.all_map]
  rfl
theorem drop_one_len {xs : List V} : (xs.drop 1).length = xs.length - 1 := List.length_drop
/-- a pair among data -/
theorem pr_at {H : Hp} {b : Addr} {x : V} {e : PyData} (D : DAt H b x e) (h : IsPr e) : ∃ (p : Addr) (y : V), x = .ref p ∧ TupAt H p [.int (keyD e), y] := by
  obtain ⟨n, e1, rfl, _⟩ := h
  obtain ⟨a, xs, rfl, ha, A⟩ := D.tup_of
  obtain ⟨x0, r, rfl, D0, A1⟩ := A.cons_of
  obtain ⟨x1, r1, rfl, D1, A2⟩ := A1.cons_of
  obtain rfl := A2.nil_of
  cases D0.int_of
  exact ⟨a, x1, rfl, ha⟩
theorem cut_rest {xs : List V} : cutV xs (some 1) none = xs.drop 1 := by
  cases xs with
  | nil => rfl
  | cons x ks => rw [cut_tail]; rfl
theorem whole_nil {xs : List V} (hw : HT.sIx xs.length 0 (some 1) = 0 ∧ HT.sIx xs.length xs.length none = xs.length) : xs = [] := by
  have := hw.1
  rw [show (some 1 : Option Int) = some ((1 : Nat) : Int) from rfl, HT.sIx_nat] at this
  rcases xs with _ | ⟨x, r⟩
  · rfl
  · simp at this
section
variable {P : Program} {w : World} {K : PySem.W.Frag} {mg : Str → Option Value} {base : Heap}
def teLess : TE := tOp (rI0 fun i j => .bl (decide (i < j))) (tOp (rIxT K) (tVar 2) (tC (.int 0))) (tOp (rIxT K) (tVar 3) (tC (.int 0)))
abbrev NBi : List Str := ["thing", "pair", "left", "right"]
theorem scIsBi : FnScope NBi ["thing"] (defScope sIsBinding) := ⟨rfl, rfl, rfl, by decide +kernel, rfl, by decide +kernel, by decide +kernel⟩
/-- all([l[0] < r[0] for l, r in zip(t, t[1:])]), t a tuple of pairs in slot 0; l and r in slots 2 and 3 -/
def tAdj (K : PySem.W.Frag) : TE := tCB (rAll K) (tCons (tLc (iZipA K (tCons (tVar 0) (tCons (tSl (rSlA K) (tVar 0) (tPart (tC (.int 1))) tNoPart) tNil))) (gTup K 2 (gCons (gName 2) (gCons (gName 3) gNil))) tYes
  (tOp (rI0 fun i j => .bl (decide (i < j))) (tOp (rIxT K) (tVar 2) (tC (.int 0))) (tOp (rIxT K) (tVar 3) (tC (.int 0)))) [2, 3]) tNil)
theorem adj_ok {c1 c2 c3 : Option V} {a b : Addr} {xs : List V} {ds : List PyData} {H : Hp} {Kc : V → Hp → Prop}
    (ha : TupAt H a xs) (A : DAtAll H b xs ds) (pr : ∀ e ∈ ds, IsPr e) (few : xs.length ≤ 1000)
    (go : ∀ H', Same H H' → Kc (.bl (adjB (ds.map keyD))) H') : tAdj K [some (.ref a), c1, c2, c3] H Kc := by
  have len := A.len
  have big : (2000 : Nat) ≤ sizeLine := by decide
  refine ⟨_, rfl, _, rfl, 1, rfl, a, xs, rfl, .inl ha, fun hw => ?_, fun hw g hg => ?_⟩
  · have e0 := whole_nil hw
    subst e0
    have e1 : ds = [] := by cases ds with | nil => rfl | cons => simp at len
    subst e1
    refine ⟨a, a, [], [], rfl, .inr ⟨.inl ha, .inl ha, fun D2 hD2 => ?_⟩⟩
    refine lc_pairsN (J := ItzT K a a) (n := 0) (xs := []) (ys := []) (fun i H4 => i = 0 ∧ H4 D2 = some (.lst []) ∧ Same H H4)
      (fun H4 h => ⟨[], [], .inl (ha.same h.2.2), .inl (ha.same h.2.2), .inl (Nat.le_refl _)⟩) (fun i H4 lt => absurd lt (by omega)) (fun i H4 v H5 lt => absurd lt (by omega))
      ⟨rfl, upd_same, same_new hD2 _⟩ (fun i _ _ _ _ lt => absurd lt (by omega)) (fun H4 h => ⟨D2, [], rfl, .inl (.inl h.2.1), go _ h.2.2⟩)
  · rw [cut_rest]
    have s3 := same_new hg (.tup (xs.drop 1))
    have ha3 := ha.same s3
    have hg3 : TupAt (upd H g (.tup (xs.drop 1))) g (xs.drop 1) := .inl upd_same
    generalize upd H g (.tup (xs.drop 1)) = H3 at s3 ha3 hg3
    refine ⟨a, g, xs, xs.drop 1, rfl, .inr ⟨.inl ha3, .inl hg3, fun D2 hD2 => ?_⟩⟩
    refine lc_pairsN (J := ItzT K a g) (n := xs.length - 1) (xs := xs) (ys := xs.drop 1) (fun i H4 => H4 D2 = some (.lst (((List.range i).map (stepK (ds.map keyD))).map V.bl)) ∧ Same H3 H4)
      (fun H4 h => ⟨xs, xs.drop 1, .inl (ha3.same h.2), .inl (hg3.same h.2), .inr (by rw [List.length_drop]; exact Nat.le_refl _)⟩)
      (fun i H4 lt h => ⟨xs, xs.drop 1, xs[i]'(by omega), (xs.drop 1)[i]'(by rw [List.length_drop]; exact lt), .inl (ha3.same h.2), .inl (hg3.same h.2), List.getElem?_eq_getElem _, List.getElem?_eq_getElem _⟩)
      (fun i H4 v H5 lt h ⟨T, u, v', e1, hT, e2, f1, f2⟩ => ⟨T, u, v', e1, f1 xs (.inl (ha3.same h.2)), f2 (xs.drop 1) (.inl (hg3.same h.2)), hT, e2⟩)
      ⟨upd_same, same_new hD2 _⟩ (fun i u v T H4 lt hu hv h hT => ?_) (fun H4 h => ⟨D2, (List.range (xs.length - 1)).map (stepK (ds.map keyD)), rfl, .inl (.inl h.1), ?_⟩)
    · have sT := same_new hT (.tup [u, v])
      rw [List.getElem?_drop] at hv
      have sAll : Same H (upd H4 T (.tup [u, v])) := s3.trans (h.2.trans sT)
      obtain ⟨e, he, De⟩ := A.get hu
      obtain ⟨e', he', De'⟩ := A.get hv
      obtain ⟨p, y, rfl, hp⟩ := pr_at De (pr e (List.mem_of_getElem? he))
      obtain ⟨p', y', rfl, hp'⟩ := pr_at De' (pr e' (List.mem_of_getElem? he'))
      have k1 : (ds.map keyD).getD i 0 = keyD e := by rw [List.getD_eq_getElem?_getD, List.getElem?_map, he]; rfl
      have k2 : (ds.map keyD).getD (i + 1) 0 = keyD e' := by rw [List.getD_eq_getElem?_getD, List.getElem?_map, Nat.add_comm, he']; rfl
      refine ⟨T, _, rfl, .inl (.inl upd_same), rfl, _, _, rfl, _, _, rfl, rfl, rfl, ?_⟩
      refine ⟨_, rfl, p, _, _, _, rfl, rfl, .inl (hp.same sAll), at_of (j := 0) rfl rfl, _, rfl, p', _, _, _, rfl, rfl, .inl (hp'.same sAll), at_of (j := 0) rfl rfl, _, _, rfl, rfl, _, sT _ _ h.1, ?_, ?_, ?_⟩
      · rw [List.length_map, List.length_map, List.length_range]; omega
      · dsimp only
        rw [upd_same, List.range_succ, List.map_append, List.map_append]
        have : stepK (ds.map keyD) i = decide (keyD e < keyD e') := by unfold stepK; rw [k1, k2]
        simp only [List.map_cons, List.map_nil, this]
      · intro c o z
        rw [upd_ne (ne_of_none z hD2)]
        exact sT _ _ (h.2 _ _ z)
    · rw [adj_all (by rw [List.length_map, len])]
      exact go H4 (s3.trans h.2)
end
end Rp

set_option maxHeartbeats 8000000
/-! is_binding; the law's own look at BINDINGs. -/
namespace Rp
open PySem PySem.Spec PyProof.Rows L2 TL RZ
theorem ndAll_le {ds : List PyData} : ds.length ≤ nd (.tuple ds) := by have := ndAll_len ds; simp only [nd]; omega
theorem isBd_no {d : PyData} (h : ∀ ds, d ≠ .tuple ds) : ¬ IsBdD d := fun ⟨ds, e, _⟩ => h ds e
theorem isBd_tup {ds : List PyData} : IsBdD (.tuple ds) ↔ (∀ e ∈ ds, IsPr e) ∧ adjB (ds.map keyD) = true := ⟨fun ⟨es, e, h⟩ => by injection e with e; subst e; exact h, fun h => ⟨ds, rfl, h⟩⟩
section
variable {P : Program} {w : World} {K : PySem.W.Frag} {mg : Str → Option Value} {base : Heap}
theorem ok_isbd {f fP : Addr} {fd dP : FuncData} (F : Fun K "is_binding" "is_binding" sIsBinding f fd)
    (GP : FnOk P w K mg base CX0 4 fP dP ["thing"] spIsPr) (kP : PySem.W.keepIn K (.ref fP) = true) (bP : Binds K dP ["thing"] []) (mP : mg "_is_pair" = some (.ref fP)) (M : SameG mg) : FnOk P w K mg base CX0 5 f fd ["thing"] spIsBd := by
  refine F.ok scIsBi (fun vs H Q E h => ?_) (fun cdv A outer s H vs Q E hr h => ?_)
  · obtain ⟨b, v, d, rfl, _⟩ := h
    rfl
  obtain ⟨b, v, d, rfl, D, ok, sz, q⟩ := h
  refine ⟨_, (pss_cons (ps_if (PW.pt (pw_or (pt_not (pt_val (pe_callB (id := "isinstance") call_isi (by rfl) M.isi (by decide +kernel) (pa_cons (pv 0) (pa_cons (pe_bltn (v := .ty "tuple") (by rfl) M.tuple (by decide +kernel) rfl) pa_nil))))) (pw_or1 (pt_not (pt_val (pe_callB (cr_all rfl) (by rfl) M.all (by decide +kernel) (pa_cons (pe_lc (own := [("pair", 1)]) (g := gName 1) (tt := tYes) (te := tCall spIsPr [] E0 (tCons (tVar 1) tNil)) rfl scIsBi.nd (pi_tup (pv 0)) (blkOk_by (N := NBi) (sc := defScope sIsBinding) (by decide +kernel)) (fun _ _ _ _ _ => (pg_name (i := 1) scIsBi.nd rfl (Or.inl rfl))) (fun _ _ _ _ _ => pts_nil) (fun _ _ _ _ _ => (pe_call GP hr (by rfl) mP kP bP .nil pass0 (pa_cons (pv 1) pa_nil)))) pa_nil))))))) (pss_one (ps_ret pe_bl)) pss_nil)
    (pss_one (ps_ret (pe_callB (cr_all rfl) (by rfl) M.all (by decide +kernel) (pa_cons (pe_lc (own := [("left", 2), ("right", 3)]) (g := gTup K 2 (gCons (gName 2) (gCons (gName 3) gNil))) (tt := tYes) (te := tOp (rI0 fun i j => .bl (decide (i < j))) (tOp (rIxT K) (tVar 2) (tC (.int 0))) (tOp (rIxT K) (tVar 3) (tC (.int 0)))) rfl scIsBi.nd (pi_zipA (by rfl) M.zip (pa_cons (pv 0) (pa_cons (pe_slice sl_tupA (pv 0) (po_some pe_int) po_none) pa_nil))) (blkOk_by (N := NBi) (sc := defScope sIsBinding) (by decide +kernel)) (fun _ _ _ _ _ => (pg_tup (by rfl) (pgs_cons (pg_name (i := 2) scIsBi.nd rfl (Or.inl rfl)) (pgs_cons (pg_name (i := 3) scIsBi.nd rfl (Or.inl rfl)) pgs_nil)))) (fun _ _ _ _ _ => pts_nil) (fun _ _ _ _ _ => (pe_cmpR op_lt (pe_ix ix_tup (pv 2) pe_int (fun _ _ => rfl)) (pe_ix ix_tup (pv 3) pe_int (fun _ _ => rfl)) (nomark _)))) pa_nil))))), ?_⟩
  have big : (2000 : Nat) ≤ sizeLine := by decide
  refine ⟨_, rfl, _, _, _, _, isU d, rfl, .ty "tuple", D.tyx, kitU d, isU d, rfl, ?_⟩
  cases d with
  | tuple ds =>
    obtain ⟨a, xs, rfl, ha, A'⟩ := D.tup_of
    have el := A'.len
    have few : ds.length ≤ 1000 := Nat.le_trans ndAll_le sz
    refine iteF ?_
    refine ⟨_, rfl, a, rfl, ⟨_, .inl ha⟩, fun D1 hD => lc_tup (K := K) (a := a) (xs := xs) (fun i H2 => ∃ bs : List Bool, H2 D1 = some (.lst (bs.map V.bl)) ∧ bs.length = i ∧ (∀ (j : Nat) (r : Bool) (e : PyData), bs[j]? = some r → ds[j]? = some e → (r = true ↔ IsPr e)) ∧ Same H H2)
      ⟨[], upd_same, rfl, fun j r e z => by simp at z, same_new hD _⟩ (fun i H2 _ ⟨_, _, _, _, s⟩ => .inl (ha.same s)) ?_ ?_⟩
    · rintro i x H2 hi ⟨bs, h2, lb, each, s2⟩
      obtain ⟨e, he, De⟩ := A'.get hi
      have em := List.mem_of_getElem? he
      have li : i < ds.length := (List.getElem?_eq_some_iff.mp he).1
      refine ⟨rfl, ?_⟩
      refine ⟨_, rfl, b, x, e, rfl, De.same s2, ok.tup e em, Nat.le_trans (nd_mem em) sz, fun r H3 hr3 s3 => ?_⟩
      refine ⟨_, s3 _ _ h2, by rw [List.length_map]; omega, bs ++ [r], by rw [upd_same, List.map_append]; rfl, by rw [List.length_append, lb]; rfl, fun j r' e' h1 h3 => ?_, fun c o z => by rw [upd_ne (ne_of_none z hD)]; exact s3 _ _ (s2 _ _ z)⟩
      rcases Nat.lt_or_ge j bs.length with h | h
      · rw [List.getElem?_append_left h] at h1; exact each j r' e' h1 h3
      · rw [List.getElem?_append_right h] at h1
        have jl : j = i := by
          have := (List.getElem?_eq_some_iff.mp h1).1
          simp at this; omega
        subst jl
        rw [lb, Nat.sub_self] at h1
        simp at h1
        rw [he] at h3
        cases h3
        rw [← h1]; exact hr3
    · rintro H2 ⟨bs, h2, lb, each, s2⟩
      have alls : bs.all id = true ↔ ∀ e ∈ ds, IsPr e := by
        rw [List.all_eq_true]
        constructor
        · intro h e he
          obtain ⟨j, hj⟩ := List.mem_iff_getElem?.mp he
          have lj : j < bs.length := by have := (List.getElem?_eq_some_iff.mp hj).1; omega
          exact (each j bs[j] e (List.getElem?_eq_getElem lj) hj).mp (h _ (List.getElem_mem lj))
        · intro h r hr
          obtain ⟨j, hj⟩ := List.mem_iff_getElem?.mp hr
          have lj : j < ds.length := by have := (List.getElem?_eq_some_iff.mp hj).1; omega
          exact (each j r ds[j] hj (List.getElem?_eq_getElem lj)).mpr (h _ (List.getElem_mem lj))
      refine ⟨D1, bs, rfl, .inl (.inl h2), bs.all id, rfl, ?_⟩
      cases hb : bs.all id with
      | false =>
        refine iteT (q false H2 ⟨(fun e => nomatch e), fun z => ?_⟩ s2)
        have := alls.mpr (isBd_tup.mp z).1
        rw [hb] at this; cases this
      | true =>
        have pr := alls.mp hb
        refine iteF ?_
        refine adj_ok (ha.same s2) (A'.same s2) pr (by omega) fun H3 s3 => q _ H3 ?_ (s2.trans s3)
        rw [isBd_tup]
        exact ⟨fun h => ⟨pr, h⟩, fun h => h.2⟩
  | _ => exact iteT (q false H ⟨(fun e => nomatch e), fun z => absurd z (isBd_no (fun ds e => nomatch e))⟩ (Same.refl H))
end
end Rp

set_option maxHeartbeats 8000000
/-! NAMEs over data of any kind. -/
namespace Rp
open PySem PySem.Spec PyProof.Rows L2 TL RZ
def letters : Str := "abcdefghijklmnopqrstuvwxyz"
structure NameOk (x : Str) : Prop where
  pos : 1 ≤ x.length
  few : x.length ≤ 6
  low : ∀ c ∈ tl x, 97 ≤ c ∧ c ≤ 122
  nif : x ≠ "if"
theorem letters_iff {c : Nat} : c ∈ letters.cps.toList ↔ 97 ≤ c ∧ c ≤ 122 := by
  have e : letters.cps.toList = (List.range 26).map (· + 97) := by decide +kernel
  rw [e, List.mem_map]
  constructor
  · rintro ⟨k, hk, rfl⟩
    have := List.mem_range.mp hk
    omega
  · intro h
    exact ⟨c - 97, List.mem_range.mpr (by omega), by omega⟩
def lowB (x : Str) : Bool := (tl x).all fun c => decide (c ∈ letters.cps.toList)
theorem lowB_iff {x : Str} : lowB x = true ↔ ∀ c ∈ tl x, 97 ≤ c ∧ c ≤ 122 := by
  unfold lowB
  rw [List.all_eq_true]
  exact ⟨fun h c hc => letters_iff.mp (of_decide_eq_true (h c hc)), fun h c hc => decide_eq_true (letters_iff.mpr (h c hc))⟩
def IsNm (d : PyData) : Prop := ∃ x, d = .str x ∧ NameOk x
theorem isNm_str {x : Str} : IsNm (.str x) ↔ NameOk x := ⟨fun ⟨y, e, h⟩ => by injection e with e; subst e; exact h, fun h => ⟨x, rfl, h⟩⟩
def spIsNm : Sp := fun vs H Q _ => ∃ (b : Addr) (v : V) (d : PyData), vs = [v] ∧ DAt H b v d ∧ (∀ x, d = .str x → x.length ≤ 1000) ∧ ∀ (r : Bool) (H' : Hp), (r = true ↔ IsNm d) → Same H H' → Q (.bl r) H'
section
variable {P : Program} {w : World} {K : PySem.W.Frag} {mg : Str → Option Value} {base : Heap}
theorem scIsName : FnScope ["thing", "sign"] ["thing"] (defScope sIsName) := ⟨rfl, rfl, rfl, by decide +kernel, rfl, by decide +kernel, by decide +kernel⟩
theorem ok_isnm {f : Addr} {fd : FuncData} {t1 t2 : Tok} (F : Fun K "is_name" "is_name" sIsName f fd) (M : SameG mg) (mL : mg "LETTERS" = some (.str letters t1)) (mM : mg "MOST_LETTERS" = some (.int 6 t2)) : FnOk P w K mg base CX0 1 f fd ["thing"] spIsNm := by
  refine F.ok scIsName (fun vs H Q E h => ?_) (fun cdv A outer s H vs Q E hr h => ?_)
  · obtain ⟨b, v, d, rfl, _⟩ := h
    rfl
  obtain ⟨b, v, d, rfl, D, sz, q⟩ := h
  refine ⟨_, pss_cons (ps_if (PW.pt (pw_or (pt_not (pt_val (pe_callB (id := "isinstance") call_isi (by rfl) M.isi (by decide +kernel) (pa_cons (pv 0) (pa_cons (pe_bltn (v := .ty "str") (by rfl) M.str (by decide +kernel) rfl) pa_nil)))))
      (pw_or1 (pt_not (pt_chain op_le op_le pe_int (pe_callB call_len_str (by rfl) M.len PySem.boot_len (pa_cons (pv 0) pa_nil)) (pe_glob (v := .int 6) rfl mM ⟨_, rfl⟩)))))) (pss_one (ps_ret pe_bl)) pss_nil)
    (pss_one (ps_ret (pe_and (pe_cmpR op_ne (pv 0) pe_str (nomark _)) (pe_one (pe_callB (cr_all rfl) (by rfl) M.all (by decide +kernel) (pa_cons (pe_lc (own := [("sign", 1)]) (g := gName 1) (tt := tYes) (te := tOp rInS (tVar 1) (tC (.str letters))) rfl scIsName.nd
        (pi_str (pv 0)) (blkOk_by (N := ["thing", "sign"]) (sc := defScope sIsName) (by decide +kernel)) (fun _ _ _ _ _ => pg_name (i := 1) scIsName.nd rfl (Or.inl rfl))
        (fun _ _ _ _ _ => pts_nil) (fun _ _ _ _ _ => pe_cmpR op_inS (pv 1) (pe_glob (v := .str letters) (by rfl) mL ⟨_, rfl⟩) (by rfl))) pa_nil)))))), ?_⟩
  have big : (10000 : Nat) ≤ sizeLine := by decide
  have no : ∀ {H' : Hp}, Same H H' → ¬ IsNm d → Q (.bl false) H' := fun s h => q false _ ⟨(fun e => nomatch e), fun z => absurd z h⟩ s
  refine ⟨_, rfl, _, _, _, _, isS d, rfl, .ty "str", D.tyx, kitS d, isS d, rfl, ?_⟩
  cases d with
  | str x =>
    cases D.str_of
    have z1 := sz x rfl
    refine iteF ?_
    refine ⟨_, rfl, x, rfl, by omega, _, _, rfl, rfl, decide ((1 : Int) ≤ (x.length : Nat)), rfl, ?_⟩
    by_cases h1 : (1 : Int) ≤ (x.length : Nat)
    · rw [decide_eq_true h1]
      refine iteT ⟨_, _, rfl, rfl, decide (((x.length : Nat) : Int) ≤ 6), rfl, ?_⟩
      by_cases h6 : ((x.length : Nat) : Int) ≤ 6
      · rw [decide_eq_true h6]
        refine iteF ⟨_, rfl, rfl, !decide (V.str x = V.str "if"), rfl, ?_⟩
        by_cases hif : x = "if"
        · rw [decide_eq_true (by rw [hif])]
          exact iteF (no (Same.refl H) fun z => (isNm_str.mp z).nif hif)
        · rw [decide_eq_false (fun z => hif (by injection z))]
          refine iteT ?_
          refine ⟨_, rfl, x, rfl, fun D hD => lc_it (walk_str (z := x)) (fun i H2 => H2 D = some (.lst ((((tl x).take i).map fun c => decide (c ∈ letters.cps.toList)).map V.bl)) ∧ Same H H2) ⟨upd_same, same_new hD _⟩ (fun _ _ _ _ => trivial) ?_ ?_⟩
          · rintro i y H2 H3 hi ⟨h2, s2⟩ ⟨rfl, c, hc, rfl⟩
            have li : x.cps.size = x.length := rfl
            have hc' : (tl x)[i]? = some c := by show x.cps.toList[i]? = some c; rw [Array.getElem?_toList]; exact hc
            have tk : (tl x).take (i + 1) = (tl x).take i ++ [c] := by rw [List.take_add_one, hc']; rfl
            refine ⟨rfl, ?_⟩
            refine ⟨_, rfl, c, letters, rfl, rfl, _, h2, ?_, ?_, ?_⟩
            · rw [List.length_map, List.length_map, List.length_take]; omega
            · rw [upd_same, tk, List.map_append, List.map_append]; rfl
            · intro a o z
              rw [upd_ne (ne_of_none z hD)]
              exact s2 _ _ z
          · rintro H2 ⟨h2, s2⟩
            have full : (tl x).take x.cps.size = tl x := List.take_of_length_le (by show x.cps.toList.length ≤ _; simp)
            rw [full] at h2
            refine ⟨D, (tl x).map fun c => decide (c ∈ letters.cps.toList), rfl, .inl (.inl h2), ?_⟩
            refine q _ H2 ?_ s2
            have e : ((tl x).map fun c => decide (c ∈ letters.cps.toList)).all id = lowB x := by unfold lowB; rw [List.all_map]; rfl
            rw [e, isNm_str, lowB_iff]
            exact ⟨fun h => ⟨by omega, by omega, h, hif⟩, fun h => h.low⟩
      · rw [decide_eq_false h6]
        exact iteT (no (Same.refl H) fun z => by have := (isNm_str.mp z).few; omega)
    · rw [decide_eq_false h1]
      exact iteF ⟨false, rfl, iteT (no (Same.refl H) fun z => by have := (isNm_str.mp z).pos; omega)⟩
  | _ => exact iteT (no (Same.refl H) fun ⟨_, z, _⟩ => nomatch z)
end
end Rp

set_option maxHeartbeats 8000000
/-! all([pred(x) for x in tuple]) over data; ATOMs over data of any kind. -/
namespace Rp
open PySem PySem.Spec PyProof.Rows L2 TL RZ
theorem wipe_one {σ : L2.St} {n : Nat} {x : Option V} : wipe ((wipe σ [n]).set n x) [n] = wipe σ [n] := by
  show ((σ.set n none).set n x).set n none = σ.set n none
  rw [List.set_set, List.set_set]
theorem lc_pred {K : PySem.W.Frag} {a b D : Addr} {xs : List V} {ds : List PyData} {Pd : PyData → Prop} {sp : Sp} {n : Nat} {σ : L2.St} {H1 : Hp} {Qd : Hp → Prop} (hn : n < σ.length) (hD : H1 D = none) (ha : TupAt H1 a xs) (A : DAtAll H1 b xs ds) (few : xs.length ≤ 1000)
    (call : ∀ (x : V) (e : PyData) (H2 : Hp) (Q : VK), e ∈ ds → DAt H2 b x e → Same H1 H2 → (∀ (r : Bool) (H3 : Hp), (r = true ↔ Pd e) → Same H2 H3 → Q (.bl r) H3) → sp [x] H2 Q E0)
    (go : ∀ (bs : List Bool) (H2 : Hp), H2 D = some (.lst (bs.map V.bl)) → (bs.all id = true ↔ ∀ e ∈ ds, Pd e) → Same H1 H2 → Qd H2) :
    ∃ W : Nat → Nat → Hp → Prop, (∃ m, W 0 m (upd H1 D (.lst []))) ∧ ∀ i m H, W i m H →
      ((Itt K a).stop i H ∧ Qd H) ∨ ((Itt K a).go i H ∧ ∃ Nx : Hp → Prop, (∀ H', Nx H' → ∃ m', m' < m ∧ W (i + 1) m' H') ∧ ∀ x H', (Itt K a).yld i H x H' → gName n x (wipe σ [n]) H' fun σ2 H2 => wipe σ2 [n] = wipe σ [n] ∧ tYes σ2 H2 fun b H3 =>
        if b = true then tCall sp [] E0 (tCons (tVar n) tNil) σ2 H3 fun y H4 => ∃ acc, H4 D = some (.lst acc) ∧ acc.length < sizeLine ∧ Nx (upd H4 D (.lst (acc ++ [y]))) else Nx H3) := by
  have big : (2000 : Nat) ≤ sizeLine := by decide
  have el := A.len
  refine lc_tup (K := K) (a := a) (xs := xs) (fun i H2 => ∃ bs : List Bool, H2 D = some (.lst (bs.map V.bl)) ∧ bs.length = i ∧ (∀ (j : Nat) (r : Bool) (e : PyData), bs[j]? = some r → ds[j]? = some e → (r = true ↔ Pd e)) ∧ Same H1 H2)
    ⟨[], upd_same, rfl, fun j r e z => by simp at z, same_new hD _⟩ (fun i H2 _ ⟨_, _, _, _, s⟩ => .inl (ha.same s)) ?_ ?_
  · rintro i x H2 hi ⟨bs, h2, lb, each, s2⟩
    obtain ⟨e, he, De⟩ := A.get hi
    have em := List.mem_of_getElem? he
    have li : i < ds.length := (List.getElem?_eq_some_iff.mp he).1
    refine ⟨wipe_one, ?_⟩
    refine ⟨x, ?_, call x e H2 _ em (De.same s2) s2 fun r H3 hr3 s3 => ?_⟩
    · rw [List.getElem?_set_self (by rw [wipe_length]; exact hn)]
    refine ⟨_, s3 _ _ h2, by rw [List.length_map]; omega, bs ++ [r], by rw [upd_same, List.map_append]; rfl, by rw [List.length_append, lb]; rfl, fun j r' e' h1 h3 => ?_, fun c o z => by rw [upd_ne (ne_of_none z hD)]; exact s3 _ _ (s2 _ _ z)⟩
    rcases Nat.lt_or_ge j bs.length with h | h
    · rw [List.getElem?_append_left h] at h1; exact each j r' e' h1 h3
    · rw [List.getElem?_append_right h] at h1
      have jl : j = i := by
        have := (List.getElem?_eq_some_iff.mp h1).1
        simp at this; omega
      subst jl
      rw [lb, Nat.sub_self] at h1
      simp at h1
      rw [he] at h3
      cases h3
      rw [← h1]; exact hr3
  · rintro H2 ⟨bs, h2, lb, each, s2⟩
    refine go bs H2 h2 ?_ s2
    rw [List.all_eq_true]
    constructor
    · intro h e he
      obtain ⟨j, hj⟩ := List.mem_iff_getElem?.mp he
      have lj : j < bs.length := by have := (List.getElem?_eq_some_iff.mp hj).1; omega
      exact (each j bs[j] e (List.getElem?_eq_getElem lj) hj).mp (h _ (List.getElem_mem lj))
    · intro h r hr
      obtain ⟨j, hj⟩ := List.mem_iff_getElem?.mp hr
      have lj : j < ds.length := by have := (List.getElem?_eq_some_iff.mp hj).1; omega
      exact (each j r ds[j] hj (List.getElem?_eq_getElem lj)).mpr (h _ (List.getElem_mem lj))
def IsAm (d : PyData) : Prop := ∃ (x : Str) (es : List PyData), d = .tuple (.str x :: es) ∧ NameOk x ∧ 1 ≤ es.length ∧ es.length ≤ 2 ∧ ∀ e ∈ es, IsT e
theorem isAm_cons {d0 : PyData} {es : List PyData} : IsAm (.tuple (d0 :: es)) ↔ IsNm d0 ∧ 1 ≤ es.length ∧ es.length ≤ 2 ∧ ∀ e ∈ es, IsT e :=
  ⟨fun ⟨x, fs, e, h1, h⟩ => by injection e with e; injection e with e1 e2; subst e1 e2; exact ⟨⟨x, rfl, h1⟩, h⟩, fun ⟨⟨x, e, h1⟩, h⟩ => ⟨x, es, by rw [e], h1, h⟩⟩
theorem isAm_len {ds : List PyData} (h : ¬ (2 ≤ ds.length ∧ ds.length ≤ 3)) : ¬ IsAm (.tuple ds) := fun ⟨x, fs, e, _, h1, h2, _⟩ => by
  injection e with e
  subst e
  rw [List.length_cons] at h
  omega
/-- texts among data are not too long -/
def okS (d : PyData) : Prop := okD d ∧ nd d ≤ 1000
def spIsAm : Sp := fun vs H Q _ => ∃ (b : Addr) (v : V) (d : PyData), vs = [v] ∧ DAt H b v d ∧ okD d ∧ nd d ≤ 1000 ∧ (∀ x ds, d = .tuple (.str x :: ds) → x.length ≤ 1000) ∧ ∀ (r : Bool) (H' : Hp), (r = true ↔ IsAm d) → Same H H' → Q (.bl r) H'
section
variable {P : Program} {w : World} {K : PySem.W.Frag} {mg : Str → Option Value} {base : Heap}
theorem scIsAtom : FnScope ["thing", "term"] ["thing"] (defScope sIsAtom) := ⟨rfl, rfl, rfl, by decide +kernel, rfl, by decide +kernel, by decide +kernel⟩
theorem ok_isam {f fN fT : Addr} {fd dN dT : FuncData} (F : Fun K "is_atom" "is_atom" sIsAtom f fd)
    (GN : FnOk P w K mg base CX0 1 fN dN ["thing"] spIsNm) (kN : PySem.W.keepIn K (.ref fN) = true) (bN : Binds K dN ["thing"] []) (mN : mg "is_name" = some (.ref fN))
    (GT : FnOk P w K mg base CX0 3 fT dT ["thing"] spTerm) (kT : PySem.W.keepIn K (.ref fT) = true) (bT : Binds K dT ["thing"] []) (mT : mg "is_term" = some (.ref fT)) (M : SameG mg) : FnOk P w K mg base CX0 4 f fd ["thing"] spIsAm := by
  refine F.ok scIsAtom (fun vs H Q E h => ?_) (fun cdv A outer s H vs Q E hr h => ?_)
  · obtain ⟨b, v, d, rfl, _⟩ := h
    rfl
  obtain ⟨b, v, d, rfl, D, ok, sz, tx, q⟩ := h
  have r1 : Room 1 _ := hr.mono (by decide)
  refine ⟨_, pss_cons (ps_if (PW.pt (pw_or (pt_not (pt_val (pe_callB (id := "isinstance") call_isi (by rfl) M.isi (by decide +kernel) (pa_cons (pv 0) (pa_cons (pe_bltn (v := .ty "tuple") (by rfl) M.tuple (by decide +kernel) rfl) pa_nil)))))
      (pw_or1 (pt_not (pt_chain op_le op_le pe_int (pe_callB call_len_seq (by rfl) M.len PySem.boot_len (pa_cons (pv 0) pa_nil)) pe_int))))) (pss_one (ps_ret pe_bl)) pss_nil)
    (pss_one (ps_ret (pe_and (pe_call GN r1 rfl mN kN bN .nil pass0 (pa_cons (pe_ix ix_tup (pv 0) pe_int (fun _ _ => rfl)) pa_nil)) (pe_one (pe_callB (cr_all rfl) (by rfl) M.all (by decide +kernel) (pa_cons (pe_lc (own := [("term", 1)]) (g := gName 1) (tt := tYes) (te := tCall spTerm [] E0 (tCons (tVar 1) tNil)) rfl scIsAtom.nd
        (pi_tup (pe_slice sl_tup (pv 0) (po_some pe_int) po_none)) (blkOk_by (N := ["thing", "term"]) (sc := defScope sIsAtom) (by decide +kernel)) (fun _ _ _ _ _ => pg_name (i := 1) scIsAtom.nd rfl (Or.inl rfl))
        (fun _ _ _ _ _ => pts_nil) (fun _ _ _ _ _ => pe_call GT hr (by rfl) mT kT bT .nil pass0 (pa_cons (pv 1) pa_nil))) pa_nil)))))), ?_⟩
  have no : ∀ {H' : Hp}, Same H H' → ¬ IsAm d → Q (.bl false) H' := fun s h => q false _ ⟨(fun e => nomatch e), fun z => absurd z h⟩ s
  refine ⟨_, rfl, _, _, _, _, isU d, rfl, .ty "tuple", D.tyx, kitU d, isU d, rfl, ?_⟩
  cases d with
  | tuple ds =>
    obtain ⟨a, xs, rfl, ha, Ax⟩ := D.tup_of
    have xl := Ax.len
    refine iteF ?_
    refine ⟨_, rfl, a, _, rfl, .inr (.inl ha), _, _, rfl, rfl, decide ((2 : Int) ≤ (xs.length : Nat)), rfl, ?_⟩
    by_cases h2 : (2 : Int) ≤ (xs.length : Nat)
    · rw [decide_eq_true h2]
      refine iteT ⟨_, _, rfl, rfl, decide (((xs.length : Nat) : Int) ≤ 3), rfl, ?_⟩
      by_cases h3 : ((xs.length : Nat) : Int) ≤ 3
      · rw [decide_eq_true h3]
        refine iteF ?_
        match ds, xs, Ax, xl, h2, h3 with
        | [], [], _, _, h2, _ => exact absurd h2 (by decide)
        | d0 :: es, x0 :: ys, Ax, xl, h2, h3 =>
          obtain ⟨_, _, e', D0, A1⟩ := Ax.head
          injection e' with e1 e2
          subst e1 e2
          have yl := A1.len
          rw [List.length_cons] at h2 h3
          refine ⟨_, rfl, a, _, _, _, rfl, rfl, .inl ha, at_of (j := 0) rfl rfl, b, x0, d0, rfl, D0, fun x e => tx x es (by rw [e]), fun r H1 hr1 s1 => ⟨r, rfl, ?_⟩⟩
          cases r with
          | false =>
            refine iteF (no s1 fun z => ?_)
            have := hr1.mpr (isAm_cons.mp z).1
            cases this
          | true =>
            refine iteT ?_
            refine ⟨_, rfl, 1, rfl, a, _, rfl, .inl (ha.same s1), cut_part _ _, fun g hg => ?_⟩
            rw [cut_tail]
            have s2 := same_new hg (.tup ys)
            refine ⟨g, rfl, ⟨_, .inl (.inl upd_same)⟩, fun D1 hD => lc_pred (K := K) (b := b) (ds := es) (Pd := IsT) (Nat.lt_succ_self 1) hD (.inl upd_same) ((A1.same s1).same s2) (by omega)
              (fun x e H2 Q' he De _ k => ⟨b, x, e, rfl, De, ok.tup e (by simp [he]), Nat.le_trans (nd_mem (List.mem_cons_of_mem _ he)) sz, k⟩) fun bs H2 hb2 all2 s3 => ?_⟩
            refine ⟨D1, bs, rfl, .inl (.inl hb2), q _ H2 ?_ ((s1.trans s2).trans s3)⟩
            rw [all2, isAm_cons]
            exact ⟨fun h => ⟨hr1.mp rfl, by omega, by omega, h⟩, fun h => h.2.2.2⟩
      · rw [decide_eq_false h3]
        exact iteT (no (Same.refl H) (isAm_len (by omega)))
    · rw [decide_eq_false h2]
      exact iteF ⟨false, rfl, iteT (no (Same.refl H) (isAm_len (by omega)))⟩
  | _ => exact iteT (no (Same.refl H) fun ⟨_, _, z, _⟩ => nomatch z)
end
end Rp

set_option maxHeartbeats 8000000
/-! ATOMs as a type; unlike and SAYINGs over data of any kind. -/
namespace Rp
open PySem PySem.Spec PyProof.Rows L2 TL RZ
def Tm.small (t : Tm) : Prop := ∀ n ∈ t.nums, 0 ≤ n ∧ n ≤ 99
structure At where
  nm : Str
  ts : List Tm
  deriving DecidableEq
structure AtOk (z : Nat) (a : At) : Prop where
  nm : NameOk a.nm
  one : 1 ≤ a.ts.length
  two : a.ts.length ≤ 2
  sm : ∀ t ∈ a.ts, t.small ∧ t.size ≤ z
def AtAt (H : Hp) (v : V) (a : At) : Prop := ∃ (p : Addr) (xs : List V), v = .ref p ∧ H p = some (.tup (.str a.nm :: xs)) ∧ AllAt H xs a.ts
def atD (a : At) : PyData := .tuple (.str a.nm :: a.ts.map tmD)
structure AmOk (a : At) : Prop where
  nm : NameOk a.nm
  one : 1 ≤ a.ts.length
  two : a.ts.length ≤ 2
  sm : ∀ t ∈ a.ts, t.small
theorem tms_of : ∀ {es : List PyData}, (∀ e ∈ es, IsT e) → ∃ ts : List Tm, es = ts.map tmD ∧ ∀ t ∈ ts, t.small
  | [], _ => ⟨[], rfl, by simp⟩
  | e :: es, h => by
    obtain ⟨t, rfl, h1⟩ := h e (by simp)
    obtain ⟨ts, rfl, h2⟩ := tms_of (es := es) fun x hx => h x (by simp [hx])
    exact ⟨t :: ts, rfl, fun u hu => by rcases List.mem_cons.mp hu with rfl | hu; exact h1; exact h2 u hu⟩
theorem isAm_at {d : PyData} : IsAm d ↔ ∃ a, d = atD a ∧ AmOk a := by
  constructor
  · rintro ⟨x, es, rfl, h1, h2, h3, h4⟩
    obtain ⟨ts, rfl, h5⟩ := tms_of h4
    rw [List.length_map] at h2 h3
    exact ⟨⟨x, ts⟩, rfl, ⟨h1, h2, h3, h5⟩⟩
  · rintro ⟨a, rfl, h⟩
    refine ⟨a.nm, _, rfl, h.nm, by rw [List.length_map]; exact h.one, by rw [List.length_map]; exact h.two, fun e he => ?_⟩
    obtain ⟨t, ht, rfl⟩ := List.mem_map.mp he
    exact ⟨t, rfl, h.sm t ht⟩
theorem ats_of : ∀ {ds : List PyData}, (∀ d ∈ ds, IsAm d) → ∃ as : List At, ds = as.map atD ∧ ∀ a ∈ as, AmOk a
  | [], _ => ⟨[], rfl, by simp⟩
  | d :: ds, h => by
    obtain ⟨a, rfl, h1⟩ := isAm_at.mp (h d (by simp))
    obtain ⟨as, rfl, h2⟩ := ats_of (ds := ds) fun x hx => h x (by simp [hx])
    exact ⟨a :: as, rfl, fun u hu => by rcases List.mem_cons.mp hu with rfl | hu; exact h1; exact h2 u hu⟩
theorem eqv_tm : ∀ {a b : Tm}, PyData.eqv (tmD a) (tmD b) = true ↔ a = b := by
  have n0s : ("0" : Str) ≠ "s" := by decide +kernel
  have n0f : ("0" : Str) ≠ "f" := by decide +kernel
  have nsf : ("s" : Str) ≠ "f" := by decide +kernel
  intro a
  induction a with
  | v n => intro b; cases b <;> simp [tmD, PyData.eqv]
  | z => intro b; cases b <;> simp [tmD, PyData.eqv, PyData.eqvAll]
  | s t ih =>
    intro b
    cases b with
    | s t' => simp only [tmD]; rw [eqv_tup, eqvAll_cons, eqvAll_cons, eqvAll_nil]; simp [PyData.eqv, ih]
    | _ => simp [tmD, PyData.eqv, PyData.eqvAll]
  | f l r ih1 ih2 =>
    intro b
    cases b with
    | f l' r' => simp only [tmD]; rw [eqv_tup, eqvAll_cons, eqvAll_cons, eqvAll_cons, eqvAll_nil]; simp [PyData.eqv, ih1, ih2]
    | _ => simp [tmD, PyData.eqv, PyData.eqvAll]
theorem eqv_tms : ∀ {ts us : List Tm}, PyData.eqvAll (ts.map tmD) (us.map tmD) = true ↔ ts = us
  | [], [] => by simp [PyData.eqvAll]
  | [], _ :: _ => by simp [PyData.eqvAll]
  | _ :: _, [] => by simp [PyData.eqvAll]
  | t :: ts, u :: us => by rw [List.map_cons, List.map_cons, eqvAll_cons, Bool.and_eq_true, eqv_tm, eqv_tms]; simp
theorem eqv_at {a b : At} : PyData.eqv (atD a) (atD b) = true ↔ a = b := by
  unfold atD
  rw [eqv_tup, eqvAll_cons, Bool.and_eq_true, eqv_tms]
  cases a; cases b
  simp [PyData.eqv]
theorem in_ats {as : List At} {a : At} : (as.map atD).any (fun z => PyData.eqv z (atD a)) = decide (a ∈ as) := by
  rw [Bool.eq_iff_iff, List.any_eq_true, decide_eq_true_iff]
  constructor
  · rintro ⟨d, hd, e⟩
    obtain ⟨b, hb, rfl⟩ := List.mem_map.mp hd
    rw [eqv_at] at e
    rw [← e]; exact hb
  · intro h
    exact ⟨_, List.mem_map.mpr ⟨a, h, rfl⟩, eqv_at.mpr rfl⟩
/-- of alike ones the first kept -/
def unlG (acc : List At) (as : List At) : List At := as.foldl (fun acc a => if a ∈ acc then acc else acc ++ [a]) acc
def unl (as : List At) : List At := unlG [] as
theorem unlG_le : ∀ {as acc : List At}, (unlG acc as).length ≤ acc.length + as.length
  | [], acc => Nat.le_refl _
  | a :: as, acc => by
    have h := unlG_le (as := as) (acc := if a ∈ acc then acc else acc ++ [a])
    have e : unlG acc (a :: as) = unlG (if a ∈ acc then acc else acc ++ [a]) as := rfl
    rw [e]
    split at h <;> simp at h ⊢ <;> simp [*] <;> omega
theorem unlG_len : ∀ {as acc : List At}, (unlG acc as).length = acc.length + as.length ↔ (∀ a ∈ as, a ∉ acc) ∧ as.Nodup
  | [], acc => by simp [unlG]
  | a :: as, acc => by
    have e : unlG acc (a :: as) = unlG (if a ∈ acc then acc else acc ++ [a]) as := rfl
    rw [e]
    by_cases h : a ∈ acc
    · have l := unlG_le (as := as) (acc := acc)
      rw [if_pos h]
      constructor
      · intro z; simp at z; omega
      · intro z; exact absurd h (z.1 a (by simp))
    · rw [if_neg h]
      have ih := unlG_len (as := as) (acc := acc ++ [a])
      rw [List.length_append, List.length_singleton] at ih
      rw [List.length_cons, show acc.length + (as.length + 1) = acc.length + 1 + as.length by omega, ih, List.nodup_cons]
      constructor
      · intro z
        refine ⟨fun x hx => ?_, fun hm => ?_, z.2⟩
        · rcases List.mem_cons.mp hx with rfl | hx
          · exact h
          · exact fun hm => z.1 x hx (by simp [hm])
        · exact z.1 a hm (by simp)
      · rintro ⟨z1, z2, z3⟩
        refine ⟨fun x hx hm => ?_, z3⟩
        rcases List.mem_append.mp hm with hm | hm
        · exact z1 x (by simp [hx]) hm
        · obtain rfl : x = a := by simpa using hm
          exact z2 hx
theorem unl_len {as : List At} : (unl as).length = as.length ↔ as.Nodup := by
  have := unlG_len (as := as) (acc := [])
  simp at this
  exact this
theorem unl_le {as : List At} : (unl as).length ≤ as.length := by
  have := unlG_le (as := as) (acc := [])
  simp at this
  exact this
theorem unl_snoc {as : List At} {a : At} : unl (as ++ [a]) = if a ∈ unl as then unl as else unl as ++ [a] := by
  unfold unl unlG
  rw [List.foldl_append]
  rfl
theorem mem_unlG : ∀ {as acc : List At} {x : At}, x ∈ unlG acc as → x ∈ acc ∨ x ∈ as
  | [], acc, x, h => .inl h
  | a :: as, acc, x, h => by
    have e : unlG acc (a :: as) = unlG (if a ∈ acc then acc else acc ++ [a]) as := rfl
    rw [e] at h
    rcases mem_unlG h with h | h
    · split at h
      · exact .inl h
      · rcases List.mem_append.mp h with h | h
        · exact .inl h
        · exact .inr (by simp at h; simp [h])
    · exact .inr (by simp [h])
theorem mem_unl {as : List At} {x : At} (h : x ∈ unl as) : x ∈ as := by
  rcases mem_unlG h with h | h
  · simp at h
  · exact h
/-- all of some data that may be laid -/
theorem lay_all {k : Nat} : ∀ {ds : List PyData}, (∀ d ∈ ds, d.canLay0 = true ∧ d.depth ≤ k) → PyData.canLayAll0 ds = true ∧ PyData.depthAll ds ≤ k
  | [], _ => ⟨rfl, Nat.zero_le _⟩
  | d :: ds, h => by
    have ih := lay_all (ds := ds) fun x hx => h x (by simp [hx])
    have z := h d (by simp)
    simp only [PyData.canLayAll0, PyData.depthAll, z.1, ih.1]
    exact ⟨rfl, by omega⟩
theorem lay_list {ds : List PyData} (h : ∀ d ∈ ds, okD d) : SeqAt.shaped (.list ds) = true := by
  have z := lay_all h
  refine shaped_of ?_ ?_
  · show PyData.canLayAll0 _ = true
    exact z.1
  · show PyData.depthAll _ + 1 ≤ 64
    omega
def spUnl : Sp := fun vs H Q _ => ∃ (b q : Addr) (xs : List V) (as : List At), vs = [.ref q] ∧ TupAt H q xs ∧ DAtAll H b xs (as.map atD) ∧ (∀ a ∈ as, okD (atD a)) ∧ as.length ≤ 1000 ∧ ∀ (p : Addr) (ys : List V) (H' : Hp), H' p = some (.tup ys) → DAtAll H' b ys ((unl as).map atD) → Same H H' → Q (.ref p) H'
section
variable {P : Program} {w : World} {K : PySem.W.Frag} {mg : Str → Option Value} {base : Heap}
theorem scUnlike : FnScope ["atoms", "found", "atom"] ["atoms"] (defScope sUnlike) := ⟨rfl, rfl, rfl, by decide +kernel, rfl, by decide +kernel, by decide +kernel⟩
theorem ok_unl {f : Addr} {fd : FuncData} (F : Fun K "unlike" "unlike" sUnlike f fd) (mTuple : mg "tuple" = none) : FnOk P w K mg base CX0 1 f fd ["atoms"] spUnl := by
  refine F.ok scUnlike (fun vs H Q E h => ?_) (fun cdv A outer s H vs Q E hr h => ?_)
  · obtain ⟨b, q, xs, as, rfl, _⟩ := h
    rfl
  obtain ⟨b, q, xs, as, rfl, hq, A1, ok, few, fin⟩ := h
  refine ⟨_, pss_cons (ps_set (i := 1) scUnlike.nd rfl (Or.inl rfl) (pe_lst pa_nil))
    (pss_cons (ps_for PassesOwn.never rfl (pi_tup (pv 0)) (pg_name (i := 2) scUnlike.nd rfl (Or.inl rfl))
      (pss_one (ps_if (pt_cmpR (op_notInD (hu65 hr)) (pv 2) (pv 1) (by rfl)) (pss_one (ps_expr (pe_bm PySem.F.plainAttrs_list PySem.F.slot_list_append PySem.F.type_list_append mt_append (pv 1) (pa_cons (pv 2) pa_nil)))) pss_nil)))
    (pss_one (ps_ret (pe_callTy call_tuple_of (by rfl) mTuple (by decide +kernel) (pa_cons (pv 1) pa_nil))))), ?_⟩
  have big : (10000 : Nat) ≤ sizeLine := by decide
  have xl := A1.len
  rw [List.length_map] at xl
  refine ⟨(by show 0 ≤ sizeLine; decide), fun l hl => ?_⟩
  have s1 := same_new hl (.lst ([] : List V))
  have hq1 := hq.same s1
  refine ⟨_, rfl, q, rfl, ⟨_, .inl hq1⟩, for_tup (K := K) (a := q) (xs := xs) (fun i σ H2 => ∃ (x2 : Option V) (ys : List V), σ = [some (.ref q), some (.ref l), x2] ∧ H2 l = some (.lst ys) ∧ DAtAll H b ys ((unl (as.take i)).map atD) ∧ Same H H2)
    ⟨none, [], rfl, upd_same, DAtAll.nil, s1⟩ (fun i σ H2 _ ⟨_, _, _, _, _, h⟩ => .inl (hq.same h)) ?_ ?_⟩
  · rintro i x σ H2 hi ⟨x2, ys, rfl, h2, Y2, s2⟩
    obtain ⟨d, hd, T⟩ := A1.get hi
    rw [List.getElem?_map] at hd
    obtain ⟨a, ha, rfl⟩ := Option.map_eq_some_iff.mp hd
    have am := List.mem_of_getElem? ha
    have li : i < as.length := (List.getElem?_eq_some_iff.mp ha).1
    have yl := Y2.len
    rw [List.length_map] at yl
    have ul := unl_le (as := as.take i)
    rw [List.length_take] at ul
    have tk : unl (as.take (i + 1)) = if a ∈ unl (as.take i) then unl (as.take i) else unl (as.take i) ++ [a] := by rw [List.take_add_one, ha]; exact unl_snoc
    refine ⟨_, rfl, _, rfl, atD a, (unl (as.take i)).map atD, (T.same s2).dp, .lst (.inl (.inl h2)) (Y2.same s2).dp, shaped_of (ok a am).1 (by have := (ok a am).2; omega), lay_list fun e he => ?_, !decide (a ∈ unl (as.take i)), by rw [in_ats], ?_⟩
    · obtain ⟨c, hc, rfl⟩ := List.mem_map.mp he
      exact ok c (List.mem_of_mem_take (mem_unl hc))
    by_cases hm : a ∈ unl (as.take i)
    · rw [decide_eq_true hm]
      rw [if_pos hm] at tk
      exact iteF ⟨_, ys, rfl, h2, by rw [tk]; exact Y2, s2⟩
    · rw [decide_eq_false hm]
      rw [if_neg hm] at tk
      refine iteT ?_
      refine ⟨_, rfl, .inl ⟨rfl, _, .inl (.inl h2)⟩, _, rfl, l, _, _, rfl, rfl, h2, by omega, ?_⟩
      have s3 : Same H (upd H2 l (.lst (ys ++ [x]))) := fun c o z => by rw [upd_ne (ne_of_none z hl)]; exact s2 _ _ z
      refine ⟨_, ys ++ [x], rfl, upd_same, ?_, s3⟩
      rw [tk, List.map_append]
      exact Y2.append (.cons T .nil)
  · rintro σ H2 ⟨x2, ys, rfl, h2, Y2, s2⟩
    rw [List.take_of_length_le (by omega)] at Y2
    exact ⟨_, rfl, l, _, rfl, .inl ⟨.inl (.inl h2), fun p hp => fin p _ _ upd_same (Y2.same (s2.trans (same_new hp _))) (s2.trans (same_new hp _))⟩⟩
end
end Rp

/-! a, *b = xs, a list of one item at least. -/
namespace Rp
open PySem PySem.Spec PySem.Calls PyProof.Rows L2 PySem.W
section
variable {prog : Program} {w : World} {A : Around} {E : Value → Shared → Prop} {s : Shared}
theorem unpack_star {l : Addr} {items : Array Value} {n i : Nat} {Q : List Value → Shared → Prop} (isL : s.heap.IsList l items) (calm : A.handled = none) (hi : i < n) (hn : n ≤ items.size + 1) (few : items.size ≤ 16384)
    (go : ∀ (h' : Heap) (tk : Nat), (∀ b o, s.heap.get? b = some o → h'.get? b = some o) → Q (items.toList.take i ++ [.ref h'.objs.size] ++ (items.toList.drop i).drop (items.size + 1 - n))
      { s with heap := h'.push (seqObj "list" ((items.toList.drop i).take (items.size + 1 - n)).toArray 0), toks := tk }) : wpAny (model prog w) A (unpackItems (.ref l) n (some i)) Q E s := by
  have apart : l ≠ s.heap.objs.size := by obtain ⟨o, ho, _⟩ := isL; exact Nat.ne_of_lt (Heap.lt_size ho)
  unfold unpackItems; refine wpAny_bind ?_; unfold notIterableAtAll
  refine wpAny_bind (wpAny_specialOf isL.typeIs slot_list_iter.lookup (wpAny_pure ?_)); simp only [Bool.false_eq_true, if_false]
  refine wpAny_bind (wpAny_holding (wpAny_pyIter_list isL (wpAny_bind (wpAny_holding (kun_draw apart i 0 _ _ ⟨_, Heap.get?_push_size _ rfl, rfl, rfl⟩ (isL.push _) (by omega) fun h₁ it1 sb1 => ?_)))))
  have isL1 : h₁.IsList l items := (isL.push _).extBut sb1.extBut apart
  rw [Nat.zero_add] at it1
  obtain ⟨oi, hoi, _⟩ := id it1
  obtain ⟨ol, hol, _⟩ := id isL1
  rw [List.drop_zero, if_neg (show ¬ ((items.toList.take i).length < i) by rw [List.length_take, Array.length_toList]; omega)]
  refine wpAny_bind (wpAny_holding (kun_collect (s := { s with heap := h₁ }) (T := "list_iterator") (.inr (.inr (.inl rfl))) (Walks.list (A := A.in1) calm s.heap.objs.size l apart items) (fun j u st => st.1.typeIs) (k := i) (by omega) ⟨it1, isL1⟩
    (Heap.lt_size hoi) (Heap.lt_size hol) (fun h₂ tk old => ?_) (by rw [sizeLine_eq]; omega)))
  have rest : (items.toList.drop i).length = items.size - i := by rw [List.length_drop, Array.length_toList]
  show wpAny _ _ (if (items.toList.drop i).length < n - 1 - i then _ else _) _ _ _; rw [if_neg (by rw [rest]; omega)]
  show wpAny _ _ (newList ((items.toList.drop i).take ((items.toList.drop i).length - (n - 1 - i))) >>= fun d => pure (items.toList.take i ++ [d] ++ (items.toList.drop i).drop ((items.toList.drop i).length - (n - 1 - i)))) _ _ _
  rw [show (items.toList.drop i).length - (n - 1 - i) = items.size + 1 - n by rw [rest]; omega]
  refine wpAny_bind (wpAny_newList (wpAny_pure (go h₂ tk fun b o z => old b o (Nat.ne_of_lt (Heap.lt_size z)) (sb1.extBut b o (Nat.ne_of_lt (Heap.lt_size z)) (Heap.get?_push_of_some _ z)))) (by rw [List.length_take, rest, sizeLine_eq]; omega))
end
section
variable {X : Cx} {pos : Pos}
/-- (a, *b) = a list: the first item, a new list of the others -/
def gStar (K : PySem.W.Frag) (t : TGs) : TG := fun v σ H Q => ∃ (a : Addr) (x : V) (xs : List V), v = .ref a ∧ SqL K H a (x :: xs) ∧ xs.length ≤ 16000 ∧ ∀ p, H p = none → t [x, .ref p] σ (upd H p (.lst xs)) Q
theorem pg_star {es : List Expr} {k : Nat} {t : TGs} (calm : X.calm = true) (h : PGs X es t) (hn : (assignEach es X.env).length = 2 := by rfl) (hst : (assignEach es X.env).findIdx? (·.1) = some 1 := by rfl) : PG X (.Tuple es k pos) (gStar X.K t) := by
  refine ⟨fun pins s σ H v u Q I r hw => ?_⟩
  obtain ⟨a, x, xs, rfl, sq, few, go⟩ := hw
  cases r
  obtain ⟨its, rv, isL, _⟩ := I.list sq
  have len := rv.length
  cases rv with
  | @cons _ v0 _ vs r0 rr =>
    have lv := rr.length
    rw [assign_Tuple]
    refine wpAny_bind (wpAny_standAt ?_)
    unfold unpack
    rw [hn, hst]
    refine wpAny_bind (wpAny_holding (unpack_star isL.isList (I.ok.hd calm) (by decide) (by simp) (by simp; omega) fun h' tk old => ?_))
    have J : Inv X pins σ H { s with heap := h', toks := tk } := I.kept old
    have big : (20000 : Nat) ≤ sizeLine := by decide
    have K1 : Inv X pins σ (upd H h'.objs.size (.lst xs)) { s with heap := h'.push (seqObj "list" vs.toArray 0), toks := tk } :=
      J.laid (t' := tk) (fun b o z => Heap.get?_push_of_some _ z) (Nat.le_refl _) ⟨by omega, vs, 0, rr, Heap.get?_push_size _ rfl⟩
    have e1 : ((v0 :: vs).toArray.toList.drop 1).take ((v0 :: vs).toArray.size + 1 - 2) = vs := by simp
    have e2 : (v0 :: vs).toArray.toList.take 1 ++ [Value.ref h'.objs.size] ++ ((v0 :: vs).toArray.toList.drop 1).drop ((v0 :: vs).toArray.size + 1 - 2) = [v0, .ref h'.objs.size] := by simp
    rw [e1, e2]
    exact h.run pins _ σ _ [x, .ref h'.objs.size] _ Q K1 (.cons r0 (.cons rfl .nil)) (go _ (J.hok.fresh (Nat.le_refl _)))
end
end Rp

set_option maxHeartbeats 8000000
/-! is_saying over data of any kind. -/
namespace Rp
open PySem PySem.Spec PyProof.Rows L2 TL RZ StX
mutual
/-- the texts among data are short, its lists and tuples not wide -/
def shS : PyData → Prop
  | .str x => x.length ≤ 1000 | .list ds => ds.length ≤ 60 ∧ shAll ds | .tuple ds => ds.length ≤ 60 ∧ shAll ds | _ => True
def shAll : List PyData → Prop
  | [] => True
  | d :: ds => shS d ∧ shAll ds
end
theorem shAll_iff : ∀ {ds : List PyData}, shAll ds ↔ ∀ d ∈ ds, shS d
  | [] => by simp [shAll]
  | d :: ds => by simp only [shAll, shAll_iff (ds := ds), List.mem_cons, forall_eq_or_imp]
theorem shS.tup {ds : List PyData} (h : shS (.tuple ds)) : ∀ d ∈ ds, shS d := shAll_iff.mp (by unfold shS at h; exact h.2)
theorem shS.wide {ds : List PyData} (h : shS (.tuple ds)) : ds.length ≤ 60 := by unfold shS at h; exact h.1
theorem shS.str {x : Str} (h : shS (.str x)) : x.length ≤ 1000 := by unfold shS at h; exact h
theorem shS.am {d : PyData} (h : shS d) : ∀ x ds, d = .tuple (.str x :: ds) → x.length ≤ 1000 := fun x ds e => by
  subst e
  exact (h.tup _ (by simp)).str
/-- what may be asked of data: not too deep, not too large, with short texts -/
structure DOk (d : PyData) : Prop where
  ok : okD d
  sz : nd d ≤ 1000
  sh : shS d
theorem DOk.tup {ds : List PyData} (h : DOk (.tuple ds)) : ∀ d ∈ ds, DOk d := fun d hd => ⟨h.ok.tup d hd, Nat.le_trans (nd_mem hd) h.sz, h.sh.tup d hd⟩
theorem DOk.few {ds : List PyData} (h : DOk (.tuple ds)) : ds.length ≤ 1000 := Nat.le_trans ndAll_le h.sz
structure SyD (hs : List PyData) (g : PyData) : Prop where
  few : hs.length ≤ 6
  am : ∀ h ∈ hs, IsAm h
  g : IsAm g
  nd : hs.Nodup
def IsSy (d : PyData) : Prop := ∃ hs g, d = .tuple [.tuple hs, g] ∧ SyD hs g
theorem isSy_two {hs : List PyData} {g : PyData} : IsSy (.tuple [.tuple hs, g]) ↔ SyD hs g :=
  ⟨fun ⟨hs', g', e, h⟩ => by injection e with e; injection e with e1 e2; injection e1 with e1; injection e2 with e2; subst e1 e2; exact h, fun h => ⟨hs, g, rfl, h⟩⟩
theorem isSy_len {ds : List PyData} (h : ds.length ≠ 2) : ¬ IsSy (.tuple ds) := fun ⟨hs, g, e, _⟩ => by
  injection e with e
  subst e
  exact h rfl
theorem atD_inj {a b : At} (h : atD a = atD b) : a = b := eqv_at.mp (by rw [h]; exact eqv_at.mpr rfl)
theorem nodup_atD {as : List At} : (as.map atD).Nodup ↔ as.Nodup := by
  induction as with
  | nil => simp
  | cons a as ih =>
    rw [List.map_cons, List.nodup_cons, List.nodup_cons, ih]
    constructor
    · rintro ⟨h1, h2⟩
      exact ⟨fun h => h1 (List.mem_map.mpr ⟨a, h, rfl⟩), h2⟩
    · rintro ⟨h1, h2⟩
      exact ⟨fun h => by obtain ⟨b, hb, e⟩ := List.mem_map.mp h; rw [atD_inj e] at hb; exact h1 hb, h2⟩
def spIsSy : Sp := fun vs H Q _ => ∃ (b : Addr) (v : V) (d : PyData), vs = [v] ∧ DAt H b v d ∧ DOk d ∧ ∀ (r : Bool) (H' : Hp), (r = true ↔ IsSy d) → Same H H' → Q (.bl r) H'
section
variable {P : Program} {w : World} {K : PySem.W.Frag} {mg : Str → Option Value} {base : Heap}
theorem scIsSaying : FnScope ["thing", "hyps", "goal", "atom"] ["thing"] (defScope sIsSaying) := ⟨rfl, rfl, rfl, by decide +kernel, rfl, by decide +kernel, by decide +kernel⟩
theorem ok_issy {f fA fU : Addr} {fd dA dU : FuncData} {t3 : Tok} (F : Fun K "is_saying" "is_saying" sIsSaying f fd)
    (GA : FnOk P w K mg base CX0 4 fA dA ["thing"] spIsAm) (kA : PySem.W.keepIn K (.ref fA) = true) (bA : Binds K dA ["thing"] []) (mA : mg "is_atom" = some (.ref fA))
    (GU : FnOk P w K mg base CX0 1 fU dU ["atoms"] spUnl) (kU : PySem.W.keepIn K (.ref fU) = true) (bU : Binds K dU ["atoms"] []) (mU : mg "unlike" = some (.ref fU))
    (mH : mg "MOST_HYPS" = some (.int 6 t3)) (M : SameG mg) : FnOk P w K mg base CX0 5 f fd ["thing"] spIsSy := by
  refine F.ok scIsSaying (fun vs H Q E h => ?_) (fun cdv A outer s H vs Q E hr h => ?_)
  · obtain ⟨b, v, d, rfl, _⟩ := h
    rfl
  obtain ⟨b, v, d, rfl, D, ok, q⟩ := h
  have r1 : Room 1 _ := hr.mono (by decide)
  refine ⟨_, pss_cons (ps_if (PW.pt (pw_or (pt_not (pt_val (pe_callB (id := "isinstance") call_isi (by rfl) M.isi (by decide +kernel) (pa_cons (pv 0) (pa_cons (pe_bltn (v := .ty "tuple") (by rfl) M.tuple (by decide +kernel) rfl) pa_nil)))))
      (pw_or1 (pt_cmpR op_ne (pe_callB call_len_seq (by rfl) M.len PySem.boot_len (pa_cons (pv 0) pa_nil)) pe_int (nomark _))))) (pss_one (ps_ret pe_bl)) pss_nil)
    (pss_cons (ps_asg (pv 0) (pg_tup (by rfl) (pgs_cons (pg_name (i := 1) scIsSaying.nd rfl (Or.inl rfl)) (pgs_cons (pg_name (i := 2) scIsSaying.nd rfl (Or.inl rfl)) pgs_nil))))
    (pss_cons (ps_if (PW.pt (pw_or (pt_not (pt_val (pe_callB (id := "isinstance") call_isi (by rfl) M.isi (by decide +kernel) (pa_cons (pv 1) (pa_cons (pe_bltn (v := .ty "tuple") (by rfl) M.tuple (by decide +kernel) rfl) pa_nil)))))
      (pw_or1 (pt_cmpR op_gt (pe_callB call_len_seq (by rfl) M.len PySem.boot_len (pa_cons (pv 1) pa_nil)) (pe_glob (v := .int 6) (by rfl) mH ⟨_, rfl⟩) (nomark _))))) (pss_one (ps_ret pe_bl)) pss_nil)
    (pss_one (ps_ret (pe_and (pe_callB (cr_all rfl) (by rfl) M.all (by decide +kernel) (pa_cons (pe_lc (own := [("atom", 3)]) (g := gName 3) (tt := tYes) (te := tCall spIsAm [] E0 (tCons (tVar 3) tNil)) rfl scIsSaying.nd
        (pi_tup (pe_tup (pa_star (pv 1) (pa_cons (pv 2) pa_nil)))) (blkOk_by (N := ["thing", "hyps", "goal", "atom"]) (sc := defScope sIsSaying) (by decide +kernel)) (fun _ _ _ _ _ => pg_name (i := 3) scIsSaying.nd rfl (Or.inl rfl))
        (fun _ _ _ _ _ => pts_nil) (fun _ _ _ _ _ => pe_call GA hr (by rfl) mA kA bA .nil pass0 (pa_cons (pv 3) pa_nil))) pa_nil))
      (pe_one (pe_cmpR op_eq (pe_callB call_len_seq (by rfl) M.len PySem.boot_len (pa_cons (pe_call GU r1 (by rfl) mU kU bU .nil pass0 (pa_cons (pv 1) pa_nil)) pa_nil)) (pe_callB call_len_seq (by rfl) M.len PySem.boot_len (pa_cons (pv 1) pa_nil)) (nomark _)))))))), ?_⟩
  have no : ∀ {H' : Hp}, Same H H' → ¬ IsSy d → Q (.bl false) H' := fun s h => q false _ ⟨(fun e => nomatch e), fun z => absurd z h⟩ s
  refine ⟨_, rfl, _, _, _, _, isU d, rfl, .ty "tuple", D.tyx, kitU d, isU d, rfl, ?_⟩
  cases d with
  | tuple ds =>
    obtain ⟨p, xs, rfl, hp, A'⟩ := D.tup_of
    have el := A'.len
    refine iteF ?_
    refine ⟨_, rfl, p, _, rfl, .inr (.inl hp), rfl, !decide (V.int ((xs.length : Nat) : Int) = V.int 2), rfl, ?_⟩
    by_cases h2 : xs.length = 2
    · rw [decide_eq_true (by rw [h2]; rfl)]
      refine iteF ?_
      match ds, xs, A', h2 with
      | [dh, dg], [x0, x1], A', _ =>
        obtain ⟨_, _, e', D0, A1⟩ := A'.head
        injection e' with e1 e2
        subst e1 e2
        obtain ⟨_, _, e', D1, _⟩ := A1.head
        injection e' with e1 e2
        subst e1
        have ok0 := ok.tup dh (by simp)
        have ok1 := ok.tup dg (by simp)
        refine ⟨_, rfl, p, _, rfl, .inl hp, rfl, _, _, rfl, _, _, rfl, rfl, ?_⟩
        refine ⟨_, rfl, _, _, _, _, isU dh, rfl, .ty "tuple", D0.tyx, kitU dh, isU dh, rfl, ?_⟩
        cases dh with
        | tuple hs =>
          obtain ⟨u, ys, rfl, hu, Y⟩ := D0.tup_of
          have yl := Y.len
          refine iteF ?_
          refine ⟨_, rfl, u, _, rfl, .inr (.inl hu), _, _, rfl, rfl, decide ((6 : Int) < (ys.length : Nat)), rfl, ?_⟩
          by_cases h6 : (6 : Int) < (ys.length : Nat)
          · rw [decide_eq_true h6]
            exact iteT (no (Same.refl H) fun z => by have := (isSy_two.mp z).few; omega)
          · rw [decide_eq_false h6]
            refine iteF ?_
            have big : (10000 : Nat) ≤ sizeLine := by decide
            refine ⟨_, rfl, u, ys, rfl, .inl (.inl hu), _, rfl, by simp; omega, fun g hg => ?_⟩
            have s1 := same_new hg (.tup (ys ++ [x1]))
            have A2 : DAtAll H b (ys ++ [x1]) (hs ++ [dg]) := Y.append (.cons D1 .nil)
            refine ⟨g, rfl, ⟨_, .inl (.inl upd_same)⟩, fun DD hD => lc_pred (K := K) (b := b) (ds := hs ++ [dg]) (Pd := IsAm) (by show 3 < 4; decide) hD (.inl upd_same) (A2.same s1) (by rw [List.length_append, List.length_singleton]; omega)
              (fun x e H2 Q' he De _ k => ?_) fun bs H2 hb2 all2 s3 => ?_⟩
            · have oke : DOk e := by
                rcases List.mem_append.mp he with he | he
                · exact ok0.tup e he
                · obtain rfl : e = dg := by simpa using he
                  exact ok1
              exact ⟨b, x, e, rfl, De, oke.ok, oke.sz, oke.sh.am, k⟩
            · refine ⟨DD, bs, rfl, .inl (.inl hb2), ?_⟩
              have s13 := s1.trans s3
              by_cases ha : bs.all id = true
              · rw [ha]
                refine ⟨true, rfl, iteT ?_⟩
                have each := all2.mp ha
                obtain ⟨as, rfl, aok⟩ := ats_of (ds := hs) fun d hd => each d (by simp [hd])
                have ag := each dg (by simp)
                rw [List.length_map] at yl
                refine ⟨_, rfl, b, u, ys, as, rfl, hu.same s13, Y.same s13, fun a ha => (ok0.tup _ (List.mem_map.mpr ⟨a, ha, rfl⟩)).ok, by omega, fun o zs H3 ho Z s4 => ?_⟩
                have zl := Z.len
                rw [List.length_map] at zl
                refine ⟨o, _, rfl, .inr (.inl (.inl ho)), _, rfl, u, _, rfl, .inr (.inl ((hu.same s13).same s4)), rfl, ?_⟩
                refine q _ H3 ?_ (s13.trans s4)
                rw [isSy_two, decide_eq_true_iff]
                constructor
                · intro e
                  have e' : zs.length = ys.length := by injection e with e; omega
                  refine ⟨by rw [List.length_map]; omega, fun h hh => each h (by simp at hh ⊢; exact .inl hh), ag, nodup_atD.mpr (unl_len.mp (by omega))⟩
                · intro h
                  have := unl_len.mpr (nodup_atD.mp h.nd)
                  rw [show zs.length = ys.length by omega]
              · rw [Bool.not_eq_true] at ha
                rw [ha]
                refine ⟨false, rfl, iteF (no s13 fun z => ?_)⟩
                have z := isSy_two.mp z
                have := all2.mpr fun e he => by
                  rcases List.mem_append.mp he with he | he
                  · exact z.am e he
                  · obtain rfl : e = dg := by simpa using he
                    exact z.g
                rw [ha] at this
                cases this
        | _ => exact iteT (no (Same.refl H) fun ⟨_, _, z, _⟩ => nomatch z)
    · rw [decide_eq_false (by intro e; injection e with e; omega)]
      exact iteT (no (Same.refl H) (isSy_len (by omega)))
  | _ => exact iteT (no (Same.refl H) fun ⟨_, _, z, _⟩ => nomatch z)
end
end Rp

/-! a, *b = t, a tuple of one item at least. -/
namespace Rp
open PySem PySem.Spec PySem.Calls PyProof.Rows L2 PySem.W
section
variable {prog : Program} {w : World} {A : Around} {E : Value → Shared → Prop} {s : Shared}
theorem unpack_starT {l : Addr} {items : Array Value} {n i : Nat} {Q : List Value → Shared → Prop} (isT : IsTup s.heap l items) (calm : A.handled = none) (hi : i < n) (hn : n ≤ items.size + 1) (few : items.size ≤ 16384)
    (go : ∀ (h' : Heap) (tk : Nat), (∀ b o, s.heap.get? b = some o → h'.get? b = some o) → Q (items.toList.take i ++ [.ref h'.objs.size] ++ (items.toList.drop i).drop (items.size + 1 - n))
      { s with heap := h'.push (seqObj "list" ((items.toList.drop i).take (items.size + 1 - n)).toArray 0), toks := tk }) : wpAny (model prog w) A (unpackItems (.ref l) n (some i)) Q E s := by
  have apart : l ≠ s.heap.objs.size := by obtain ⟨o, ho, _⟩ := isT; exact Nat.ne_of_lt (Heap.lt_size ho)
  unfold unpackItems; refine wpAny_bind ?_; unfold notIterableAtAll
  refine wpAny_bind (wpAny_specialOf isT.typeIs slot_tuple_iter.lookup (wpAny_pure ?_)); simp only [Bool.false_eq_true, if_false]
  refine wpAny_bind (wpAny_holding (iter_tuple isT (wpAny_bind (wpAny_holding (draw_tuple apart i 0 _ _ ⟨_, Heap.get?_push_size _ rfl, rfl, rfl⟩ (isT.push _) (by omega) fun h₁ it1 sb1 => ?_)))))
  have isT1 : IsTup h₁ l items := (isT.push _).extBut sb1.extBut apart
  rw [Nat.zero_add] at it1
  obtain ⟨oi, hoi, _⟩ := id it1
  obtain ⟨ol, hol, _⟩ := id isT1
  rw [List.drop_zero, if_neg (show ¬ ((items.toList.take i).length < i) by rw [List.length_take, Array.length_toList]; omega)]
  refine wpAny_bind (wpAny_holding (kun_collect (s := { s with heap := h₁ }) (T := "tuple_iterator") (.inr (.inr (.inr rfl))) (Walks.tuple (A := A.in1) calm s.heap.objs.size l apart items) (fun j u st => st.1.typeIs) (k := i) (by omega) ⟨it1, isT1⟩
    (Heap.lt_size hoi) (Heap.lt_size hol) (fun h₂ tk old => ?_) (by rw [sizeLine_eq]; omega)))
  have rest : (items.toList.drop i).length = items.size - i := by rw [List.length_drop, Array.length_toList]
  show wpAny _ _ (if (items.toList.drop i).length < n - 1 - i then _ else _) _ _ _; rw [if_neg (by rw [rest]; omega)]
  show wpAny _ _ (newList ((items.toList.drop i).take ((items.toList.drop i).length - (n - 1 - i))) >>= fun d => pure (items.toList.take i ++ [d] ++ (items.toList.drop i).drop ((items.toList.drop i).length - (n - 1 - i)))) _ _ _
  rw [show (items.toList.drop i).length - (n - 1 - i) = items.size + 1 - n by rw [rest]; omega]
  refine wpAny_bind (wpAny_newList (wpAny_pure (go h₂ tk fun b o z => old b o (Nat.ne_of_lt (Heap.lt_size z)) (sb1.extBut b o (Nat.ne_of_lt (Heap.lt_size z)) (Heap.get?_push_of_some _ z)))) (by rw [List.length_take, rest, sizeLine_eq]; omega))
end
section
variable {X : Cx} {pos : Pos}
/-- (a, *b) = a tuple: the first item, a new list of the others -/
def gStarT (K : PySem.W.Frag) (t : TGs) : TG := fun v σ H Q => ∃ (a : Addr) (x : V) (xs : List V), v = .ref a ∧ SqT K H a (x :: xs) ∧ xs.length ≤ 16000 ∧ ∀ p, H p = none → t [x, .ref p] σ (upd H p (.lst xs)) Q
theorem pg_starT {es : List Expr} {k : Nat} {t : TGs} (calm : X.calm = true) (h : PGs X es t) (hn : (assignEach es X.env).length = 2 := by rfl) (hst : (assignEach es X.env).findIdx? (·.1) = some 1 := by rfl) : PG X (.Tuple es k pos) (gStarT X.K t) := by
  refine ⟨fun pins s σ H v u Q I r hw => ?_⟩
  obtain ⟨a, x, xs, rfl, sq, few, go⟩ := hw
  cases r
  obtain ⟨its, rv, isT, _⟩ := I.tuple sq
  cases rv with
  | @cons _ v0 _ vs r0 rr =>
    have lv := rr.length
    rw [assign_Tuple]
    refine wpAny_bind (wpAny_standAt ?_)
    unfold unpack
    rw [hn, hst]
    refine wpAny_bind (wpAny_holding (unpack_starT isT (I.ok.hd calm) (by decide) (by simp) (by simp; omega) fun h' tk old => ?_))
    have J : Inv X pins σ H { s with heap := h', toks := tk } := I.kept old
    have big : (20000 : Nat) ≤ sizeLine := by decide
    have K1 : Inv X pins σ (upd H h'.objs.size (.lst xs)) { s with heap := h'.push (seqObj "list" vs.toArray 0), toks := tk } :=
      J.laid (t' := tk) (fun b o z => Heap.get?_push_of_some _ z) (Nat.le_refl _) ⟨by omega, vs, 0, rr, Heap.get?_push_size _ rfl⟩
    have e1 : ((v0 :: vs).toArray.toList.drop 1).take ((v0 :: vs).toArray.size + 1 - 2) = vs := by simp
    have e2 : (v0 :: vs).toArray.toList.take 1 ++ [Value.ref h'.objs.size] ++ ((v0 :: vs).toArray.toList.drop 1).drop ((v0 :: vs).toArray.size + 1 - 2) = [v0, .ref h'.objs.size] := by simp
    rw [e1, e2]
    exact h.run pins _ σ _ [x, .ref h'.objs.size] _ Q K1 (.cons r0 (.cons rfl .nil)) (go _ (J.hok.fresh (Nat.le_refl _)))
end
end Rp

set_option maxHeartbeats 8000000
/-! is_place, is_step over data of any kind. -/
namespace Rp
open PySem PySem.Spec PyProof.Rows L2 TL RZ StX
theorem pgs_star {X : Cx} {e : Expr} {es : List Expr} {p : Pos} {t : TG} {u : TGs} (h1 : PG X e t) (h2 : PGs X es u) (hs : (assignEach (.Starred e p :: es) X.env).map (·.2) = assign e X.env :: (assignEach es X.env).map (·.2) := by rfl) : PGs X (.Starred e p :: es) (gCons t u) := by
  refine ⟨fun pins s σ H vs us Q I rel told => ?_⟩
  obtain ⟨v, rest, rfl, told⟩ := told
  cases rel with
  | cons r rr =>
    rw [hs]
    exact assignInOrder_cons (thn (h1.run pins s σ H _ _ _ I r told) fun _ s1 ⟨σ1, H1, J, go⟩ => h2.run pins s1 σ1 H1 _ _ Q J rr go)
def IsPl (d : PyData) : Prop := ∃ n : Int, d = .int n ∧ 0 ≤ n
def IsSt : PyData → Prop
  | .tuple [x] => x = .str "by"
  | .tuple [x, e] => (x = .str "cut" ∧ IsAm e) ∨ ((x = .str "split" ∨ x = .str "use") ∧ IsPl e)
  | .tuple [x, e, f] => (x = .str "back" ∧ IsPl e ∧ IsBdD f) ∨ (x = .str "as" ∧ IsSy e ∧ IsBdD f) ∨ (x = .str "lean" ∧ IsNm e ∧ IsBdD f)
  | _ => False
theorem isSt_len {ds : List PyData} (h : ¬ (1 ≤ ds.length ∧ ds.length ≤ 3)) : ¬ IsSt (.tuple ds) := by
  match ds, h with
  | [], _ => exact fun z => z
  | [_], h => exact absurd (by simp) h
  | [_, _], h => exact absurd (by simp) h
  | [_, _, _], h => exact absurd (by simp) h
  | _ :: _ :: _ :: _ :: _, _ => exact fun z => z
theorem eqv_strR {x : Str} {d : PyData} : PyData.eqv d (.str x) = true ↔ d = .str x := by
  cases d <;> simp [PyData.eqv]
def spPl : Sp := fun vs H Q _ => ∃ (b : Addr) (v : V) (d : PyData), vs = [v] ∧ DAt H b v d ∧ ∀ r : Bool, (r = true ↔ IsPl d) → Q (.bl r) H
def spIsSt : Sp := fun vs H Q _ => ∃ (b : Addr) (v : V) (d : PyData), vs = [v] ∧ DAt H b v d ∧ DOk d ∧ ∀ (r : Bool) (H' : Hp), (r = true ↔ IsSt d) → Same H H' → Q (.bl r) H'
section
variable {P : Program} {w : World} {K : PySem.W.Frag} {mg : Str → Option Value} {base : Heap}
theorem scPlace : FnScope ["thing"] ["thing"] (defScope sPlace) := ⟨rfl, rfl, rfl, by decide +kernel, rfl, by decide +kernel, by decide +kernel⟩
theorem ok_pl {f fN : Addr} {fd dN : FuncData} (F : Fun K "is_place" "is_place" sPlace f fd)
    (GN : FnOk P w K mg base CX0 1 fN dN ["thing"] spNumber) (kN : PySem.W.keepIn K (.ref fN) = true) (bN : Binds K dN ["thing"] []) (mN : mg "is_number" = some (.ref fN)) : FnOk P w K mg base CX0 2 f fd ["thing"] spPl := by
  refine F.ok scPlace (fun vs H Q E h => ?_) (fun cdv A outer s H vs Q E hr h => ?_)
  · obtain ⟨b, v, d, rfl, _⟩ := h
    rfl
  obtain ⟨b, v, d, rfl, D, q⟩ := h
  refine ⟨_, pss_one (ps_ret (pe_and (pe_call GN hr rfl mN kN bN .nil pass0 (pa_cons (pv 0) pa_nil)) (pe_one (pe_cmpR op_ge (pv 0) pe_int (nomark _))))), ?_⟩
  refine ⟨_, rfl, b, v, d, rfl, D, isNum d, rfl, ?_⟩
  cases d with
  | int n =>
    have ev := D.int_of
    subst ev
    refine iteT ⟨_, rfl, _, _, rfl, rfl, ?_⟩
    exact q (decide ((0 : Int) ≤ n)) (by rw [decide_eq_true_iff]; exact ⟨fun h => ⟨n, rfl, h⟩, fun ⟨m, e, h⟩ => by injection e with e; subst e; exact h⟩)
  | _ => exact iteF (q false ⟨(fun e => nomatch e), fun ⟨_, z, _⟩ => nomatch z⟩)
abbrev NIS : List Str := ["thing", "word", "parts", "first", "binding"]
theorem scIsStep : FnScope NIS ["thing"] (defScope sIsStep) := ⟨rfl, rfl, rfl, by decide +kernel, rfl, by decide +kernel, by decide +kernel⟩
theorem ok_isst {f fA fP fB fS fN : Addr} {fd dA dP dB dS dN : FuncData} (F : Fun K "is_step" "is_step" sIsStep f fd)
    (GA : FnOk P w K mg base CX0 4 fA dA ["thing"] spIsAm) (kA : PySem.W.keepIn K (.ref fA) = true) (bA : Binds K dA ["thing"] []) (mA : mg "is_atom" = some (.ref fA))
    (GP : FnOk P w K mg base CX0 2 fP dP ["thing"] spPl) (kP : PySem.W.keepIn K (.ref fP) = true) (bP : Binds K dP ["thing"] []) (mP : mg "is_place" = some (.ref fP))
    (GB : FnOk P w K mg base CX0 5 fB dB ["thing"] spIsBd) (kB : PySem.W.keepIn K (.ref fB) = true) (bB : Binds K dB ["thing"] []) (mB : mg "is_binding" = some (.ref fB))
    (GS : FnOk P w K mg base CX0 5 fS dS ["thing"] spIsSy) (kS : PySem.W.keepIn K (.ref fS) = true) (bS : Binds K dS ["thing"] []) (mS : mg "is_saying" = some (.ref fS))
    (GN : FnOk P w K mg base CX0 1 fN dN ["thing"] spIsNm) (kN : PySem.W.keepIn K (.ref fN) = true) (bN : Binds K dN ["thing"] []) (mN : mg "is_name" = some (.ref fN)) (M : SameG mg) : FnOk P w K mg base CX0 6 f fd ["thing"] spIsSt := by
  refine F.ok scIsStep (fun vs H Q E h => ?_) (fun cdv A outer s H vs Q E hr h => ?_)
  · obtain ⟨b, v, d, rfl, _⟩ := h
    rfl
  obtain ⟨b, v, d, rfl, D, ok, q⟩ := h
  have r1 : Room 1 _ := hr.mono (by decide)
  have r2 : Room 2 _ := hr.mono (by decide)
  have r4 : Room 4 _ := hr.mono (by decide)
  have sS : ∀ x : Str, (PyData.str x).canLay0 = true → SeqAt.shaped (.str x) = true := fun x h => shaped_of h (by show 0 ≤ 64; omega)
  refine ⟨_, pss_cons (ps_if (PW.pt (pw_or (pt_not (pt_val (pe_callB (id := "isinstance") call_isi (by rfl) M.isi (by decide +kernel) (pa_cons (pv 0) (pa_cons (pe_bltn (v := .ty "tuple") (by rfl) M.tuple (by decide +kernel) rfl) pa_nil)))))
      (pw_or1 (pt_not (pt_chain op_le op_le pe_int (pe_callB call_len_seq (by rfl) M.len PySem.boot_len (pa_cons (pv 0) pa_nil)) pe_int))))) (pss_one (ps_ret pe_bl)) pss_nil)
    (pss_cons (ps_asg (pv 0) (pg_starT rfl (pgs_cons (pg_name (i := 1) scIsStep.nd rfl (Or.inl rfl)) (pgs_star (pg_name (i := 2) scIsStep.nd rfl (Or.inl rfl)) pgs_nil))))
    (pss_cons (ps_if (pt_cmpR op_eq (pe_callB call_len_seq (by rfl) M.len PySem.boot_len (pa_cons (pv 2) pa_nil)) pe_int (nomark _)) (pss_one (ps_ret (pe_cmpR (op_eqD hr.units) (pv 1) pe_str (nomark _)))) pss_nil)
    (pss_cons (ps_if (pt_cmpR op_eq (pe_callB call_len_seq (by rfl) M.len PySem.boot_len (pa_cons (pv 2) pa_nil)) pe_int (nomark _)) (pss_one (ps_ret (pe_ifExp (pt_cmpR (op_eqD hr.units) (pv 1) pe_str (nomark _))
        (pe_call GA r4 rfl mA kA bA .nil pass0 (pa_cons (pe_ix ix_list (pv 2) pe_int (fun _ _ => rfl)) pa_nil))
        (pe_and (pe_cmpR (op_inT (hu65 hr)) (pv 1) (pe_tup (pa_cons pe_str (pa_cons pe_str pa_nil))) (by rfl)) (pe_one (pe_call GP r2 rfl mP kP bP .nil pass0 (pa_cons (pe_ix ix_list (pv 2) pe_int (fun _ _ => rfl)) pa_nil))))))) pss_nil)
    (pss_cons (ps_asg (pv 2) (pg_unl rfl (pgs_cons (pg_name (i := 3) scIsStep.nd rfl (Or.inl rfl)) (pgs_cons (pg_name (i := 4) scIsStep.nd rfl (Or.inl rfl)) pgs_nil))))
    (pss_cons (ps_if (pt_cmpR (op_eqD hr.units) (pv 1) pe_str (nomark _)) (pss_one (ps_ret (pe_and (pe_call GP r2 rfl mP kP bP .nil pass0 (pa_cons (pv 3) pa_nil)) (pe_one (pe_call GB hr rfl mB kB bB .nil pass0 (pa_cons (pv 4) pa_nil)))))) pss_nil)
    (pss_cons (ps_if (pt_cmpR (op_eqD hr.units) (pv 1) pe_str (nomark _)) (pss_one (ps_ret (pe_and (pe_call GS hr rfl mS kS bS .nil pass0 (pa_cons (pv 3) pa_nil)) (pe_one (pe_call GB hr rfl mB kB bB .nil pass0 (pa_cons (pv 4) pa_nil)))))) pss_nil)
    (pss_one (ps_ret (pe_and (pe_cmpR (op_eqD hr.units) (pv 1) pe_str (nomark _)) (pe_and (pe_call GN r1 rfl mN kN bN .nil pass0 (pa_cons (pv 3) pa_nil)) (pe_one (pe_call GB hr rfl mB kB bB .nil pass0 (pa_cons (pv 4) pa_nil))))))))))))), ?_⟩
  have big : (10000 : Nat) ≤ sizeLine := by decide
  have no : ∀ {H' : Hp}, Same H H' → ¬ IsSt d → Q (.bl false) H' := fun s h => q false _ ⟨(fun e => nomatch e), fun z => absurd z h⟩ s
  refine ⟨_, rfl, _, _, _, _, isU d, rfl, .ty "tuple", D.tyx, kitU d, isU d, rfl, ?_⟩
  cases d with
  | tuple ds =>
    obtain ⟨p, xs, rfl, hp, Ax⟩ := D.tup_of
    have xl := Ax.len
    refine iteF ?_
    refine ⟨_, rfl, p, _, rfl, .inr (.inl hp), _, _, rfl, rfl, decide ((1 : Int) ≤ (xs.length : Nat)), rfl, ?_⟩
    by_cases h1 : (1 : Int) ≤ (xs.length : Nat)
    · rw [decide_eq_true h1]
      refine iteT ⟨_, _, rfl, rfl, decide (((xs.length : Nat) : Int) ≤ 3), rfl, ?_⟩
      by_cases h3 : ((xs.length : Nat) : Int) ≤ 3
      · rw [decide_eq_true h3]
        refine iteF ?_
        match ds, xs, Ax, xl, h1, h3 with
        | [], [], _, _, h1, _ => exact absurd h1 (by decide)
        | d0 :: es, x0 :: ys, Ax, xl, h1, h3 =>
          obtain ⟨_, _, e', D0, A1⟩ := Ax.head
          injection e' with e1 e2
          subst e1 e2
          have yl := A1.len
          rw [List.length_cons] at h1 h3
          have ok0 := ok.tup d0 (by simp)
          have sh0 : SeqAt.shaped d0 = true := shaped_of ok0.ok.1 (by have := ok0.ok.2; omega)
          refine ⟨_, rfl, p, x0, ys, rfl, .inl hp, by omega, fun l hl => ⟨_, _, rfl, _, _, rfl, rfl, ?_⟩⟩
          have s1 := same_new hl (.lst ys)
          have hl1 : (upd H l (.lst ys)) l = some (.lst ys) := upd_same
          generalize upd H l (.lst ys) = H1 at s1 hl1 ⊢
          have fin1 : ∀ (r : Bool) (H' : Hp), (r = true ↔ IsSt (.tuple (d0 :: es))) → Same H1 H' → Q (.bl r) H' := fun r H' h s => q r H' h (s1.trans s)
          have hl' : SqL K H1 l ys := .inl (.inl hl1)
          have E0 := D0.same s1
          have B1 := A1.same s1
          clear q hp D0 A1 no
          refine ⟨_, rfl, l, _, rfl, .inl hl', rfl, ?_⟩
          match es, ys, B1, yl, h3 with
          | [], [], _, _, _ =>
            refine ⟨true, rfl, iteT ⟨_, rfl, d0, .str "by", E0.dp, .str _, sh0, sS _ (by decide +kernel), fin1 _ _ ?_ (Same.refl _)⟩⟩
            exact eqv_strR
          | [e], [y], B1, _, _ =>
            obtain ⟨_, _, e', E1, _⟩ := B1.head
            injection e' with e1 e2
            subst e1 e2
            have ok1 := ok.tup e (by simp)
            refine ⟨false, rfl, iteF ⟨_, rfl, l, _, rfl, .inl hl', rfl, true, rfl, iteT ⟨_, rfl, d0, .str "cut", E0.dp, .str _, sh0, sS _ (by decide +kernel), PyData.eqv d0 (.str "cut"), rfl, ?_⟩⟩⟩
            by_cases hc : PyData.eqv d0 (.str "cut") = true
            · rw [hc]
              have hc' := eqv_strR.mp hc
              subst hc'
              refine iteT ⟨_, rfl, l, _, _, _, rfl, rfl, .inl (.inl hl1), at_of (j := 0) rfl rfl, b, y, e, rfl, E1, ok1.ok, ok1.sz, ok1.sh.am, fun r H2 hr2 s2 => fin1 r H2 ?_ s2⟩
              rw [hr2]
              exact ⟨fun h => .inl ⟨rfl, h⟩, fun h => by
                rcases h with ⟨_, h⟩ | ⟨h | h, _⟩
                · exact h
                · injection h with h; exact absurd h (by decide +kernel)
                · injection h with h; exact absurd h (by decide +kernel)⟩
            · rw [Bool.not_eq_true] at hc
              rw [hc]
              refine iteF ?_
              refine ⟨_, rfl, (by show 2 ≤ sizeLine; decide), fun g hg => ?_⟩
              have s2 := same_new hg (.tup [V.str "split", V.str "use"])
              refine ⟨d0, [.str "split", .str "use"], (E0.same s2).dp, .tup (.inl (.inl upd_same)) (.cons (.str _) (.cons (.str _) .nil)), sh0, by decide +kernel, ([PyData.str "split", .str "use"].any fun y => PyData.eqv y d0), rfl, ?_⟩
              have nc : d0 ≠ .str "cut" := fun z => by rw [eqv_strR.mpr z] at hc; cases hc
              have an : ([PyData.str "split", .str "use"].any fun y => PyData.eqv y d0) = true ↔ (d0 = .str "split" ∨ d0 = .str "use") := by
                simp only [List.any_cons, List.any_nil, Bool.or_false, Bool.or_eq_true, eqv_str]
              by_cases hs : ([PyData.str "split", .str "use"].any fun y => PyData.eqv y d0) = true
              · rw [hs]
                have hs' := an.mp hs
                refine iteT ⟨_, rfl, l, _, _, _, rfl, rfl, .inl (.inl (s2 _ _ hl1)), at_of (j := 0) rfl rfl, b, y, e, rfl, E1.same s2, fun r hr2 => fin1 r _ ?_ s2⟩
                rw [hr2]
                exact ⟨fun h => .inr ⟨hs', h⟩, fun h => by
                  rcases h with ⟨h, _⟩ | ⟨_, h⟩
                  · exact absurd h nc
                  · exact h⟩
              · rw [Bool.not_eq_true] at hs
                rw [hs]
                refine iteF (fin1 false _ ⟨(fun e => nomatch e), fun h => ?_⟩ s2)
                rcases h with ⟨h, _⟩ | ⟨h, _⟩
                · exact absurd h nc
                · rw [an.mpr h] at hs; cases hs
          | [e, f'], [y, z], B1, _, _ =>
            obtain ⟨_, _, e', E1, B2⟩ := B1.head
            injection e' with e1 e2
            subst e1 e2
            obtain ⟨_, _, e', E2, _⟩ := B2.head
            injection e' with e1 e2
            subst e1 e2
            have ok1 := ok.tup e (by simp)
            have ok2 := ok.tup f' (by simp)
            refine ⟨false, rfl, iteF ⟨_, rfl, l, _, rfl, .inl hl', rfl, false, rfl, iteF ?_⟩⟩
            refine ⟨_, rfl, l, _, rfl, hl', rfl, _, _, rfl, _, _, rfl, rfl, ?_⟩
            refine ⟨_, rfl, d0, .str "back", E0.dp, .str _, sh0, sS _ (by decide +kernel), PyData.eqv d0 (.str "back"), rfl, ?_⟩
            by_cases hb : PyData.eqv d0 (.str "back") = true
            · rw [hb]
              have hb' := eqv_strR.mp hb
              subst hb'
              have it : IsSt (.tuple [.str "back", e, f']) ↔ IsPl e ∧ IsBdD f' := ⟨fun h => by
                rcases h with ⟨_, h⟩ | ⟨h, _⟩ | ⟨h, _⟩
                · exact h
                · injection h with h; exact absurd h (by decide +kernel)
                · injection h with h; exact absurd h (by decide +kernel), fun h => .inl ⟨rfl, h⟩⟩
              refine iteT ⟨_, rfl, b, y, e, rfl, E1, fun r hr1 => ⟨r, rfl, ?_⟩⟩
              cases r with
              | false => exact iteF (fin1 false _ ⟨(fun e => nomatch e), fun h => hr1.mpr (it.mp h).1⟩ (Same.refl _))
              | true => exact iteT ⟨_, rfl, b, z, f', rfl, E2, ok2.ok, ok2.sz, fun r H2 hr2 s2 => fin1 r H2 (by rw [hr2, it]; exact ⟨fun h => ⟨hr1.mp rfl, h⟩, fun h => h.2⟩) s2⟩
            · have nb : d0 ≠ .str "back" := fun z => hb (eqv_strR.mpr z)
              rw [Bool.not_eq_true] at hb
              rw [hb]
              refine iteF ⟨_, rfl, d0, .str "as", E0.dp, .str _, sh0, sS _ (by decide +kernel), PyData.eqv d0 (.str "as"), rfl, ?_⟩
              by_cases ha : PyData.eqv d0 (.str "as") = true
              · rw [ha]
                have ha' := eqv_strR.mp ha
                subst ha'
                have it : IsSt (.tuple [.str "as", e, f']) ↔ IsSy e ∧ IsBdD f' := ⟨fun h => by
                  rcases h with ⟨h, _⟩ | ⟨_, h⟩ | ⟨h, _⟩
                  · exact absurd h nb
                  · exact h
                  · injection h with h; exact absurd h (by decide +kernel), fun h => .inr (.inl ⟨rfl, h⟩)⟩
                refine iteT ⟨_, rfl, b, y, e, rfl, E1, ok1, fun r H2 hr1 s2 => ⟨r, rfl, ?_⟩⟩
                cases r with
                | false => exact iteF (fin1 false _ ⟨(fun e => nomatch e), fun h => hr1.mpr (it.mp h).1⟩ s2)
                | true => exact iteT ⟨_, rfl, b, z, f', rfl, E2.same s2, ok2.ok, ok2.sz, fun r H3 hr2 s3 => fin1 r H3 (by rw [hr2, it]; exact ⟨fun h => ⟨hr1.mp rfl, h⟩, fun h => h.2⟩) (s2.trans s3)⟩
              · have na : d0 ≠ .str "as" := fun z => ha (eqv_strR.mpr z)
                rw [Bool.not_eq_true] at ha
                rw [ha]
                refine iteF ⟨_, rfl, d0, .str "lean", E0.dp, .str _, sh0, sS _ (by decide +kernel), PyData.eqv d0 (.str "lean"), rfl, ?_⟩
                have it : IsSt (.tuple [d0, e, f']) ↔ d0 = .str "lean" ∧ IsNm e ∧ IsBdD f' := ⟨fun h => by
                  rcases h with ⟨h, _⟩ | ⟨h, _⟩ | h
                  · exact absurd h nb
                  · exact absurd h na
                  · exact h, fun h => .inr (.inr h)⟩
                by_cases hn : PyData.eqv d0 (.str "lean") = true
                · rw [hn]
                  have hn' := eqv_strR.mp hn
                  refine iteT ⟨_, rfl, b, y, e, rfl, E1, fun x hx => by subst hx; exact ok1.sh.str, fun r H2 hr1 s2 => ⟨r, rfl, ?_⟩⟩
                  cases r with
                  | false => exact iteF (fin1 false _ ⟨(fun e => nomatch e), fun h => hr1.mpr (it.mp h).2.1⟩ s2)
                  | true => exact iteT ⟨_, rfl, b, z, f', rfl, E2.same s2, ok2.ok, ok2.sz, fun r H3 hr2 s3 => fin1 r H3 (by rw [hr2, it]; exact ⟨fun h => ⟨hn', hr1.mp rfl, h⟩, fun h => h.2.2⟩) (s2.trans s3)⟩
                · have nn : d0 ≠ .str "lean" := fun z => hn (eqv_strR.mpr z)
                  rw [Bool.not_eq_true] at hn
                  rw [hn]
                  exact iteF (fin1 false _ ⟨(fun e => nomatch e), fun h => absurd (it.mp h).1 nn⟩ (Same.refl _))
          | _ :: _ :: _ :: _, _ :: _ :: _ :: _, _, _, h3 => exact absurd h3 (by simp only [List.length_cons]; omega)
      · rw [decide_eq_false h3]
        exact iteT (no (Same.refl H) (isSt_len (by omega)))
    · rw [decide_eq_false h1]
      exact iteF ⟨false, rfl, iteT (no (Same.refl H) (isSt_len (by omega)))⟩
  | _ => exact iteT (no (Same.refl H) fun z => z)
end
end Rp

set_option maxHeartbeats 8000000
/-! The law's own looks at counts and TERMs. -/
namespace Rp
open PySem PySem.Spec PyProof.Rows L2 TL RZ StX
def IsCt (t : Int) (d : PyData) : Prop := ∃ n : Int, d = .int n ∧ 0 ≤ n ∧ n < t
def spCt : Sp := fun vs H Q _ => ∃ (b : Addr) (v : V) (d : PyData) (t : Int), vs = [v, .int t] ∧ DAt H b v d ∧ ∀ r : Bool, (r = true ↔ IsCt t d) → Q (.bl r) H
def spTmW (n : Nat) : Sp := fun vs H Q _ => ∃ (b : Addr) (v : V) (d : PyData), vs = [v] ∧ DAt H b v d ∧ okD d ∧ d.depth + 1 < n ∧ ∀ (r : Bool) (H' : Hp), (r = true ↔ IsT d) → Same H H' → Q (.bl r) H'
theorem eqv_nil {ds : List PyData} : PyData.eqv (.tuple ds) (.tuple []) = ds.isEmpty := by
  rw [eqv_tup]
  cases ds <;> simp [PyData.eqvAll]
theorem isCt_T {d : PyData} (h : isI d = true) : IsCt 100 d ↔ IsT d := by
  cases d with
  | int n => rw [isT_int]; exact ⟨fun ⟨m, e, h1, h2⟩ => by injection e with e; subst e; exact ⟨h1, by omega⟩, fun ⟨h1, h2⟩ => ⟨n, rfl, h1, by omega⟩⟩
  | bool c => exact ⟨fun ⟨_, e, _⟩ => (nomatch e), fun z => absurd z (isT_other (fun ⟨x, ds, e, _⟩ => nomatch e) (fun _ e => nomatch e))⟩
  | _ => cases h
def arity : List (Key × V) := [(.inr "0", .int 1), (.inr "s", .int 2), (.inr "f", .int 3)]
def ar (x : Str) : Nat := if x = "f" then 3 else if x = "s" then 2 else if x = "0" then 1 else 0
theorem arity_at (x : Str) : (valV (mergeK [] arity) (.inr x)).getD (.int 0) = .int (ar x : Nat) := by
  show (valV (putK (putK (putK ([] : List (Key × V)) (.inr "0") (.int 1)) (.inr "s") (.int 2)) (.inr "f") (.int 3)) (.inr x)).getD (.int 0) = _
  rw [valV_put, valV_put, valV_put]
  unfold ar
  by_cases h : x = "f"
  · rw [if_pos (by rw [h]), if_pos h]; rfl
  rw [if_neg (fun z => h (Sum.inr.inj z)), if_neg h]
  by_cases h : x = "s"
  · rw [if_pos (by rw [h]), if_pos h]; rfl
  rw [if_neg (fun z => h (Sum.inr.inj z)), if_neg h]
  by_cases h : x = "0"
  · rw [if_pos (by rw [h]), if_pos h]; rfl
  rw [if_neg (fun z => h (Sum.inr.inj z)), if_neg h]
  rfl
theorem ar_shape {x : Str} {k : Nat} : k + 1 = ar x ↔ ((x = "0" ∧ k = 0) ∨ (x = "s" ∧ k = 1) ∨ (x = "f" ∧ k = 2)) := by
  have s0 : ("0" : Str) ≠ "s" := by decide +kernel
  have s1 : ("0" : Str) ≠ "f" := by decide +kernel
  have s2 : ("s" : Str) ≠ "f" := by decide +kernel
  unfold ar
  by_cases h : x = "f"
  · subst h
    rw [if_pos rfl]
    exact ⟨fun h => .inr (.inr ⟨rfl, by omega⟩), fun h => by
      rcases h with ⟨h, _⟩ | ⟨h, _⟩ | ⟨_, h⟩
      · exact absurd h.symm s1
      · exact absurd h.symm s2
      · omega⟩
  rw [if_neg h]
  by_cases h' : x = "s"
  · subst h'
    rw [if_pos rfl]
    exact ⟨fun h => .inr (.inl ⟨rfl, by omega⟩), fun h => by
      rcases h with ⟨h, _⟩ | ⟨_, h⟩ | ⟨h, _⟩
      · exact absurd h.symm s0
      · omega
      · exact absurd h s2⟩
  rw [if_neg h']
  by_cases h2 : x = "0"
  · subst h2
    rw [if_pos rfl]
    exact ⟨fun h => .inl ⟨rfl, by omega⟩, fun h => by
      rcases h with ⟨_, h⟩ | ⟨h, _⟩ | ⟨h, _⟩
      · omega
      · exact absurd h s0
      · exact absurd h s1⟩
  rw [if_neg h2]
  exact ⟨fun h => by omega, fun z => by
    rcases z with ⟨z, _⟩ | ⟨z, _⟩ | ⟨z, _⟩
    · exact absurd z h2
    · exact absurd z h'
    · exact absurd z h⟩
section
variable {P : Program} {w : World} {K : PySem.W.Frag} {mg : Str → Option Value} {base : Heap}
theorem scCt : FnScope ["_law_thing", "_law_top"] ["_law_thing", "_law_top"] (defScope sCountW) := ⟨rfl, rfl, rfl, by decide +kernel, rfl, by decide +kernel, by decide +kernel⟩
theorem ok_ct {f : Addr} {fd : FuncData} (F : Fun K "_law_is_count" "_law_is_count" sCountW f fd) (M : SameG mg) : FnOk P w K mg base CX0 1 f fd ["_law_thing", "_law_top"] spCt := by
  refine F.ok scCt (fun vs H Q E h => ?_) (fun cdv A outer s H vs Q E hr h => ?_)
  · obtain ⟨b, v, d, t, rfl, _⟩ := h
    rfl
  obtain ⟨b, v, d, t, rfl, D, q⟩ := h
  refine ⟨_, pss_one (ps_ret (pe_and (pe_callB (id := "isinstance") call_isi (by rfl) M.isi (by decide +kernel) (pa_cons (pv 0) (pa_cons (pe_bltn (v := .ty "int") (by rfl) M.int (by decide +kernel) rfl) pa_nil)))
    (pe_and (pe_not (pe_callB (id := "isinstance") call_isi (by rfl) M.isi (by decide +kernel) (pa_cons (pv 0) (pa_cons (pe_bltn (v := .ty "bool") (by rfl) M.bool (by decide +kernel) rfl) pa_nil)))) (pe_one (pe_chain op_le op_lt pe_int (pv 0) (pv 1)))))), ?_⟩
  refine ⟨_, rfl, _, _, _, _, isI d, rfl, .ty "int", D.tyx, kitI d, isI d, rfl, ?_⟩
  cases d with
  | int n =>
    cases D.int_of
    refine iteT ⟨_, rfl, _, _, _, _, false, rfl, .ty "bool", D.tyx, kitB' _, false, rfl, true, rfl, iteT ?_⟩
    refine ⟨_, rfl, _, _, rfl, rfl, decide (0 ≤ n), rfl, ?_⟩
    cases e : decide (0 ≤ n) with
    | false => exact iteF (q _ ⟨(fun e => nomatch e), fun ⟨m, h, h1, _⟩ => by injection h with h; subst h; simp at e; omega⟩)
    | true => exact iteT ⟨_, rfl, _, _, rfl, rfl, q (decide (n < t)) ⟨fun h => ⟨n, rfl, by simpa using e, by simpa using h⟩, fun ⟨m, h, _, h2⟩ => by injection h with h; subst h; simpa using h2⟩⟩
  | bool c =>
    refine iteT ⟨_, rfl, _, _, _, _, true, rfl, .ty "bool", D.tyx, kitB' _, true, rfl, false, rfl, iteF ?_⟩
    exact q false ⟨(fun e => nomatch e), fun ⟨_, z, _⟩ => nomatch z⟩
  | _ => exact iteF (q false ⟨(fun e => nomatch e), fun ⟨_, z, _⟩ => nomatch z⟩)
theorem scTmW : FnScope ["_law_thing", "_law_part"] ["_law_thing"] (defScope sTermW) := ⟨rfl, rfl, rfl, by decide +kernel, rfl, by decide +kernel, by decide +kernel⟩
theorem ok_tmw {n : Nat} {f fC : Addr} {fd dC : FuncData} (F : Fun K "_law_is_term" "_law_is_term" sTermW f fd) (bF : Binds K fd ["_law_thing"] []) (mF : mg "_law_is_term" = some (.ref f))
    (GC : FnOk P w K mg base CX0 1 fC dC ["_law_thing", "_law_top"] spCt) (kC : PySem.W.keepIn K (.ref fC) = true) (bC : Binds K dC ["_law_thing", "_law_top"] []) (mC : mg "_law_is_count" = some (.ref fC))
    (G : FnOk P w K mg base CX0 n f fd ["_law_thing"] (spTmW n)) (M : SameG mg) : FnOk P w K mg base CX0 (n + 1) f fd ["_law_thing"] (spTmW (n + 1)) := by
  refine F.ok scTmW (fun vs H Q E h => ?_) (fun cdv A outer s H vs Q E hr h => ?_)
  · obtain ⟨b, v, d, rfl, _⟩ := h
    rfl
  obtain ⟨b, v, d, rfl, D, ok, hd, q⟩ := h
  have r1 : Room 1 _ := hr.mono (by omega)
  refine ⟨_, pss_cons (ps_if (pt_val (pe_callB (id := "isinstance") call_isi (by rfl) M.isi (by decide +kernel) (pa_cons (pv 0) (pa_cons (pe_bltn (v := .ty "int") (by rfl) M.int (by decide +kernel) rfl) pa_nil))))
      (pss_one (ps_ret (pe_call GC r1 rfl mC kC bC .nil pass0 (pa_cons (pv 0) (pa_cons pe_int pa_nil))))) pss_nil)
    (pss_cons (ps_if (PW.pt (pw_or (pt_not (pt_val (pe_callB (id := "isinstance") call_isi (by rfl) M.isi (by decide +kernel) (pa_cons (pv 0) (pa_cons (pe_bltn (v := .ty "tuple") (by rfl) M.tuple (by decide +kernel) rfl) pa_nil)))))
      (pw_or (pt_cmpR (op_eqD hr.units) (pv 0) (pe_tup pa_nil) (nomark _))
      (pw_or1 (pt_not (pt_val (pe_callB (id := "isinstance") call_isi (by rfl) M.isi (by decide +kernel) (pa_cons (pe_ix ix_tup (pv 0) pe_int (fun _ _ => rfl)) (pa_cons (pe_bltn (v := .ty "str") (by rfl) M.str (by decide +kernel) rfl) pa_nil)))))))))
      (pss_one (ps_ret pe_bl)) pss_nil)
    (pss_cons (ps_if (pt_cmpR op_ne (pe_callB call_len_seq (by rfl) M.len PySem.boot_len (pa_cons (pv 0) pa_nil))
        (pe_dget2 (hu_of hr) (pe_disp (pps_cons pe_str pe_int (pps_cons pe_str pe_int (pps_cons pe_str pe_int pps_nil))) rfl rfl (by simp) (by decide)) (pe_ix ix_tup (pv 0) pe_int (fun _ _ => rfl)) pe_int ⟨rfl, rfl, rfl, rfl⟩) (nomark _)) (pss_one (ps_ret pe_bl)) pss_nil)
    (pss_one (ps_ret (pe_callB (cr_all rfl) (by rfl) M.all (by decide +kernel) (pa_cons (pe_lc (own := [("_law_part", 1)]) (g := gName 1) (tt := tYes) (te := tCall (spTmW n) [] E0 (tCons (tVar 1) tNil)) rfl scTmW.nd
            (pi_tup (pe_slice sl_tup (pv 0) (po_some pe_int) po_none))
            (blkOk_by (N := ["_law_thing", "_law_part"]) (sc := defScope sTermW) (by decide +kernel)) (fun _ _ _ _ _ => pg_name (i := 1) scTmW.nd rfl (Or.inl rfl))
            (fun _ _ _ _ _ => pts_nil) (fun _ _ _ _ _ => pe_call G hr (by rfl) mF F.kp bF .nil pass0 (pa_cons (pv 1) pa_nil))) pa_nil)))))), ?_⟩
  refine ⟨_, rfl, _, _, _, _, isI d, rfl, .ty "int", D.tyx, kitI d, isI d, rfl, ?_⟩
  cases hi : isI d with
  | true => exact iteT ⟨_, rfl, b, v, d, 100, rfl, D, fun r hr1 => q r H (hr1.trans (isCt_T hi)) (Same.refl H)⟩
  | false =>
  refine iteF ?_
  have noInt : ∀ n, d ≠ .int n := fun n e => by subst e; cases hi
  have no : ∀ {H' : Hp}, Same H H' → ¬ Shaped d → Q (.bl false) H' := fun s h => q false _ ⟨(fun e => nomatch e), fun z => absurd z (isT_other h noInt)⟩ s
  refine ⟨_, rfl, _, _, _, _, isU d, rfl, .ty "tuple", D.tyx, kitU d, isU d, rfl, ?_⟩
  cases d with
  | tuple ds =>
    obtain ⟨a, xs, rfl, ha, A'⟩ := D.tup_of
    refine iteF ?_
    refine ⟨_, rfl, (by show 0 ≤ sizeLine; decide), fun p hp => ?_⟩
    have s1 := same_new hp (.tup ([] : List V))
    refine ⟨.tuple ds, .tuple [], (D.same s1).dp, .tup (.inl (.inl upd_same)) .nil, shaped_of ok.1 (by have := ok.2; omega), by decide +kernel, ds.isEmpty, congrArg V.bl eqv_nil, ?_⟩
    cases xs with
    | nil =>
      have e0 : ds = [] := by have := A'.len; cases ds with | nil => rfl | cons => simp at this
      subst e0
      refine iteT (no s1 ?_)
      rintro ⟨x, ds', e, _⟩
      injection e with e
      cases e
    | cons x0 xr =>
      obtain ⟨d0, dr, rfl, D0, Dr⟩ := A'.head
      refine iteF ?_
      have ha1 := ha.same s1
      refine ⟨_, rfl, a, _, _, _, rfl, rfl, .inl ha1, at_of (j := 0) rfl rfl, _, _, _, _, isS d0, rfl, .ty "str", (D0.same s1).tyx, kitS d0, isS d0, rfl, ?_⟩
      have shaped_no : (∀ x, d0 ≠ .str x) → ¬ Shaped (.tuple (d0 :: dr)) := by
        rintro no ⟨x', ds', e, h⟩
        injection e with e
        injection e with e1 e2
        exact no _ e1
      cases d0 with
      | str x =>
        refine iteF ?_
        cases D0.str_of
        refine ⟨_, rfl, a, _, rfl, .inr (.inl ha1), fun p2 hp2 => ?_⟩
        refine ⟨upd_same, arity, rfl, by decide, ?_⟩
        rw [upd_upd]
        have s3 := same_new hp2 (.dK (mergeK [] arity))
        have hp3 : (upd (upd H p (.tup ([] : List V))) p2 (.dK (mergeK [] arity))) p2 = some (.dK (mergeK [] arity)) := upd_same
        have s13 := s1.trans s3
        generalize upd (upd H p (.tup ([] : List V))) p2 (.dK (mergeK [] arity)) = H3 at s3 hp3 s13 ⊢
        have ha3 := ha.same s13
        refine ⟨p2, rfl, .inl ⟨_, .inl hp3⟩, _, rfl, a, _, _, _, rfl, rfl, .inl ha3, at_of (j := 0) rfl rfl, _, DGet.k (k := .inr x) hp3, ?_⟩
        rw [arity_at]
        have el := Dr.len
        have sh : (((V.str x :: xr).length : Nat) : Int) = (ar x : Nat) ↔ ((x = "0" ∧ dr.length = 0) ∨ (x = "s" ∧ dr.length = 1) ∨ (x = "f" ∧ dr.length = 2)) := by
          rw [List.length_cons, el, ← ar_shape]
          omega
        refine ⟨rfl, !decide (V.int (((V.str x :: xr).length : Nat) : Int) = V.int (ar x : Nat)), rfl, ?_⟩
        by_cases he : (((V.str x :: xr).length : Nat) : Int) = (ar x : Nat)
        · have hs := sh.mp he
          have ld : dr.length ≤ 2 := by rcases hs with ⟨_, h⟩ | ⟨_, h⟩ | ⟨_, h⟩ <;> omega
          rw [decide_eq_true (by rw [he])]
          refine iteF ?_
          refine ⟨_, rfl, 1, rfl, a, _, rfl, .inl ha3, cut_part _ _, fun p4 hp4 => ?_⟩
          rw [cut_tail]
          have s4 := same_new hp4 (.tup xr)
          have s14 := s13.trans s4
          refine ⟨p4, rfl, ⟨_, .inl (.inl upd_same)⟩, fun D5 hD5 => lc_pred (K := K) (b := b) (ds := dr) (Pd := IsT) (Nat.lt_succ_self 1) hD5 (.inl upd_same) (Dr.same s14) (by omega)
            (fun x' e H2 Q' he De _ k => ⟨b, x', e, rfl, De, ok.tup e (by simp [he]), ?_, k⟩) fun bs H2 hb2 all2 s5 => ?_⟩
          · have h1 : PyData.depthAll (.str x :: dr) + 1 + 1 < n + 1 := hd
            have := depthAll_iff.mp (Nat.le_refl (PyData.depthAll (.str x :: dr))) e (by simp [he])
            omega
          · refine ⟨D5, bs, rfl, .inl (.inl hb2), q _ _ ?_ (s14.trans s5)⟩
            rw [isT_shaped hs, all2]
        · rw [decide_eq_false (fun z => he (by injection z))]
          refine iteT (no s13 ?_)
          rintro ⟨x', ds', e, h⟩
          injection e with e
          injection e with e1 e2
          injection e1 with e1
          subst e1 e2
          exact he (sh.mpr h)
      | _ => exact iteT (no s1 (shaped_no (fun _ e => nomatch e)))
  | _ => exact iteT (no (Same.refl H) fun ⟨x, ds, e, _⟩ => nomatch e)
theorem tmw_ok {f fC : Addr} {fd dC : FuncData} (F : Fun K "_law_is_term" "_law_is_term" sTermW f fd) (bF : Binds K fd ["_law_thing"] []) (mF : mg "_law_is_term" = some (.ref f))
    (GC : FnOk P w K mg base CX0 1 fC dC ["_law_thing", "_law_top"] spCt) (kC : PySem.W.keepIn K (.ref fC) = true) (bC : Binds K dC ["_law_thing", "_law_top"] []) (mC : mg "_law_is_count" = some (.ref fC)) (M : SameG mg) :
    ∀ n : Nat, FnOk P w K mg base CX0 n f fd ["_law_thing"] (spTmW n)
  | 0 => none_left fun vs H Q E h => by
    obtain ⟨b, v, d, _, _, _, h, _⟩ := h
    omega
  | n + 1 => ok_tmw F bF mF GC kC bC mC (tmw_ok F bF mF GC kC bC mC M n) M
end
end Rp

set_option maxHeartbeats 8000000
/-! The law's own looks at NAMEs and ATOMs. -/
namespace Rp
open PySem PySem.Spec PyProof.Rows L2 TL RZ StX
theorem two_in {n : Nat} : inV (.int (n : Nat)) [.int 2, .int 3] = decide (n = 2 ∨ n = 3) := by
  have e : ∀ a : Nat, eqV (.int (a : Nat)) (.int (n : Nat)) = decide (n = a) := fun a => by unfold eqV; rw [Bool.eq_iff_iff]; simp; omega
  have e2 := e 2
  have e3 := e 3
  simp only [inV, List.any_cons, List.any_nil, Bool.or_false]
  rw [show (V.int 2) = .int ((2 : Nat) : Int) from rfl, show (V.int 3) = .int ((3 : Nat) : Int) from rfl, e2, e3, Bool.decide_or]
section
variable {P : Program} {w : World} {K : PySem.W.Frag} {mg : Str → Option Value} {base : Heap}
theorem scWordW : FnScope ["_law_thing", "_law_sign"] ["_law_thing"] (defScope sWordW) := ⟨rfl, rfl, rfl, by decide +kernel, rfl, by decide +kernel, by decide +kernel⟩
theorem ok_wordw {f : Addr} {fd : FuncData} (F : Fun K "_law_is_word" "_law_is_word" sWordW f fd) (M : SameG mg) : FnOk P w K mg base CX0 1 f fd ["_law_thing"] spIsNm := by
  refine F.ok scWordW (fun vs H Q E h => ?_) (fun cdv A outer s H vs Q E hr h => ?_)
  · obtain ⟨b, v, d, rfl, _⟩ := h
    rfl
  obtain ⟨b, v, d, rfl, D, sz, q⟩ := h
  refine ⟨_, pss_cons (ps_if (PW.pt (pw_or (pt_not (pt_val (pe_callB (id := "isinstance") call_isi (by rfl) M.isi (by decide +kernel) (pa_cons (pv 0) (pa_cons (pe_bltn (v := .ty "str") (by rfl) M.str (by decide +kernel) rfl) pa_nil)))))
      (pw_or (pt_not (pt_chain op_lt op_lt pe_int (pe_callB call_len_str (by rfl) M.len PySem.boot_len (pa_cons (pv 0) pa_nil)) pe_int))
      (pw_or1 (pt_cmpR op_eq (pv 0) pe_str (nomark _)))))) (pss_one (ps_ret pe_bl)) pss_nil)
    (pss_one (ps_ret (pe_callB (cr_all rfl) (by rfl) M.all (by decide +kernel) (pa_cons (pe_lc (own := [("_law_sign", 1)]) (g := gName 1) (tt := tYes) (te := tOp rInS (tVar 1) (tC (.str letters))) rfl scWordW.nd
        (pi_str (pv 0)) (blkOk_by (N := ["_law_thing", "_law_sign"]) (sc := defScope sWordW) (by decide +kernel)) (fun _ _ _ _ _ => pg_name (i := 1) scWordW.nd rfl (Or.inl rfl))
        (fun _ _ _ _ _ => pts_nil) (fun _ _ _ _ _ => pe_cmpR op_inS (pv 1) pe_str (by rfl))) pa_nil)))), ?_⟩
  have big : (10000 : Nat) ≤ sizeLine := by decide
  have no : ∀ {H' : Hp}, Same H H' → ¬ IsNm d → Q (.bl false) H' := fun s h => q false _ ⟨(fun e => nomatch e), fun z => absurd z h⟩ s
  refine ⟨_, rfl, _, _, _, _, isS d, rfl, .ty "str", D.tyx, kitS d, isS d, rfl, ?_⟩
  cases d with
  | str x =>
    cases D.str_of
    have z1 := sz x rfl
    refine iteF ?_
    refine ⟨_, rfl, x, rfl, by omega, _, _, rfl, rfl, decide ((0 : Int) < (x.length : Nat)), rfl, ?_⟩
    by_cases h1 : (0 : Int) < (x.length : Nat)
    · rw [decide_eq_true h1]
      refine iteT ⟨_, _, rfl, rfl, decide (((x.length : Nat) : Int) < 7), rfl, ?_⟩
      by_cases h6 : ((x.length : Nat) : Int) < 7
      · rw [decide_eq_true h6]
        refine iteF ⟨_, rfl, rfl, decide (V.str x = V.str "if"), rfl, ?_⟩
        by_cases hif : x = "if"
        · rw [decide_eq_true (by rw [hif])]
          exact iteT (no (Same.refl H) fun z => (isNm_str.mp z).nif hif)
        · rw [decide_eq_false (fun z => hif (by injection z))]
          refine iteF ?_
          refine ⟨_, rfl, x, rfl, fun D hD => lc_it (walk_str (z := x)) (fun i H2 => H2 D = some (.lst ((((tl x).take i).map fun c => decide (c ∈ letters.cps.toList)).map V.bl)) ∧ Same H H2) ⟨upd_same, same_new hD _⟩ (fun _ _ _ _ => trivial) ?_ ?_⟩
          · rintro i y H2 H3 hi ⟨h2, s2⟩ ⟨rfl, c, hc, rfl⟩
            have li : x.cps.size = x.length := rfl
            have hc' : (tl x)[i]? = some c := by show x.cps.toList[i]? = some c; rw [Array.getElem?_toList]; exact hc
            have tk : (tl x).take (i + 1) = (tl x).take i ++ [c] := by rw [List.take_add_one, hc']; rfl
            refine ⟨rfl, ?_⟩
            refine ⟨_, rfl, c, letters, rfl, rfl, _, h2, ?_, ?_, ?_⟩
            · rw [List.length_map, List.length_map, List.length_take]; omega
            · rw [upd_same, tk, List.map_append, List.map_append]; rfl
            · intro a o z
              rw [upd_ne (ne_of_none z hD)]
              exact s2 _ _ z
          · rintro H2 ⟨h2, s2⟩
            have full : (tl x).take x.cps.size = tl x := List.take_of_length_le (by show x.cps.toList.length ≤ _; simp)
            rw [full] at h2
            refine ⟨D, (tl x).map fun c => decide (c ∈ letters.cps.toList), rfl, .inl (.inl h2), ?_⟩
            refine q _ H2 ?_ s2
            have e : ((tl x).map fun c => decide (c ∈ letters.cps.toList)).all id = lowB x := by unfold lowB; rw [List.all_map]; rfl
            rw [e, isNm_str, lowB_iff]
            exact ⟨fun h => ⟨by omega, by omega, h, hif⟩, fun h => h.low⟩
      · rw [decide_eq_false h6]
        exact iteT (no (Same.refl H) fun z => by have := (isNm_str.mp z).few; omega)
    · rw [decide_eq_false h1]
      exact iteF ⟨false, rfl, iteT (no (Same.refl H) fun z => by have := (isNm_str.mp z).pos; omega)⟩
  | _ => exact iteT (no (Same.refl H) fun ⟨_, z, _⟩ => nomatch z)
theorem scAtomW : FnScope ["_law_thing", "_law_part"] ["_law_thing"] (defScope sAtomW) := ⟨rfl, rfl, rfl, by decide +kernel, rfl, by decide +kernel, by decide +kernel⟩
theorem ok_atomw {f fN fT : Addr} {fd dN dT : FuncData} (F : Fun K "_law_is_atom" "_law_is_atom" sAtomW f fd)
    (GN : FnOk P w K mg base CX0 1 fN dN ["_law_thing"] spIsNm) (kN : PySem.W.keepIn K (.ref fN) = true) (bN : Binds K dN ["_law_thing"] []) (mN : mg "_law_is_word" = some (.ref fN))
    (GT : FnOk P w K mg base CX0 62 fT dT ["_law_thing"] (spTmW 62)) (kT : PySem.W.keepIn K (.ref fT) = true) (bT : Binds K dT ["_law_thing"] []) (mT : mg "_law_is_term" = some (.ref fT)) (M : SameG mg) : FnOk P w K mg base CX0 63 f fd ["_law_thing"] spIsAm := by
  refine F.ok scAtomW (fun vs H Q E h => ?_) (fun cdv A outer s H vs Q E hr h => ?_)
  · obtain ⟨b, v, d, rfl, _⟩ := h
    rfl
  obtain ⟨b, v, d, rfl, D, ok, sz, tx, q⟩ := h
  have r1 : Room 1 _ := hr.mono (by decide)
  refine ⟨_, pss_cons (ps_if (PW.pt (pw_or (pt_not (pt_val (pe_callB (id := "isinstance") call_isi (by rfl) M.isi (by decide +kernel) (pa_cons (pv 0) (pa_cons (pe_bltn (v := .ty "tuple") (by rfl) M.tuple (by decide +kernel) rfl) pa_nil)))))
      (pw_or (pt_cmpR op_notIn_seq (pe_callB call_len_seq (by rfl) M.len PySem.boot_len (pa_cons (pv 0) pa_nil)) (pe_tup (pa_cons pe_int (pa_cons pe_int pa_nil))) (by rfl))
      (pw_or1 (pt_not (pt_val (pe_call GN r1 rfl mN kN bN .nil pass0 (pa_cons (pe_ix ix_tup (pv 0) pe_int (fun _ _ => rfl)) pa_nil)))))))) (pss_one (ps_ret pe_bl)) pss_nil)
    (pss_one (ps_ret (pe_callB (cr_all rfl) (by rfl) M.all (by decide +kernel) (pa_cons (pe_lc (own := [("_law_part", 1)]) (g := gName 1) (tt := tYes) (te := tCall (spTmW 62) [] E0 (tCons (tVar 1) tNil)) rfl scAtomW.nd
        (pi_tup (pe_slice sl_tup (pv 0) (po_some pe_int) po_none)) (blkOk_by (N := ["_law_thing", "_law_part"]) (sc := defScope sAtomW) (by decide +kernel)) (fun _ _ _ _ _ => pg_name (i := 1) scAtomW.nd rfl (Or.inl rfl))
        (fun _ _ _ _ _ => pts_nil) (fun _ _ _ _ _ => pe_call GT hr (by rfl) mT kT bT .nil pass0 (pa_cons (pv 1) pa_nil))) pa_nil)))), ?_⟩
  have no : ∀ {H' : Hp}, Same H H' → ¬ IsAm d → Q (.bl false) H' := fun s h => q false _ ⟨(fun e => nomatch e), fun z => absurd z h⟩ s
  refine ⟨_, rfl, _, _, _, _, isU d, rfl, .ty "tuple", D.tyx, kitU d, isU d, rfl, ?_⟩
  cases d with
  | tuple ds =>
    obtain ⟨a, xs, rfl, ha, Ax⟩ := D.tup_of
    have xl := Ax.len
    refine iteF ?_
    refine ⟨_, rfl, a, _, rfl, .inr (.inl ha), (by show 2 ≤ sizeLine; decide), fun g hg => ⟨g, _, rfl, .inr (.inl (.inl upd_same)), rfl, rfl, !decide (xs.length = 2 ∨ xs.length = 3), by rw [← two_in]; rfl, ?_⟩⟩
    have s1 := same_new hg (.tup [V.int 2, .int 3])
    generalize upd H g (.tup [V.int 2, .int 3]) = H1 at s1 ⊢
    by_cases h2 : xs.length = 2 ∨ xs.length = 3
    · rw [decide_eq_true h2]
      refine iteF ?_
      match ds, xs, Ax, xl, h2 with
      | [], [], _, _, h2 => exact absurd h2 (by decide)
      | d0 :: es, x0 :: ys, Ax, xl, h2 =>
        obtain ⟨_, _, e', D0, A1⟩ := Ax.head
        injection e' with e1 e2
        subst e1 e2
        have yl := A1.len
        rw [List.length_cons] at h2
        refine ⟨_, rfl, a, _, _, _, rfl, rfl, .inl (ha.same s1), at_of (j := 0) rfl rfl, b, x0, d0, rfl, D0.same s1, fun x e => tx x es (by rw [e]), fun r H2 hr1 s2 => ⟨r, rfl, ?_⟩⟩
        have s12 := s1.trans s2
        cases r with
        | false =>
          refine iteT (no s12 fun z => ?_)
          have := hr1.mpr (isAm_cons.mp z).1
          cases this
        | true =>
          refine iteF ?_
          refine ⟨_, rfl, 1, rfl, a, _, rfl, .inl (ha.same s12), cut_part _ _, fun g2 hg2 => ?_⟩
          rw [cut_tail]
          have s3 := same_new hg2 (.tup ys)
          have s13 := s12.trans s3
          refine ⟨g2, rfl, ⟨_, .inl (.inl upd_same)⟩, fun D1 hD => lc_pred (K := K) (b := b) (ds := es) (Pd := IsT) (Nat.lt_succ_self 1) hD (.inl upd_same) (A1.same s13) (by omega)
            (fun x e H3 Q' he De _ k => ⟨b, x, e, rfl, De, ok.tup e (by simp [he]), by have := (ok.tup e (by simp [he])).2; omega, k⟩) fun bs H3 hb2 all2 s4 => ?_⟩
          refine ⟨D1, bs, rfl, .inl (.inl hb2), q _ H3 ?_ (s13.trans s4)⟩
          rw [all2, isAm_cons]
          exact ⟨fun h => ⟨hr1.mp rfl, by omega, by omega, h⟩, fun h => h.2.2.2⟩
    · rw [decide_eq_false h2]
      exact iteT (no s1 (isAm_len (by omega)))
  | _ => exact iteT (no (Same.refl H) fun ⟨_, _, z, _⟩ => nomatch z)
end
end Rp

set_option maxHeartbeats 8000000
/-! The law's own looks at SAYINGs. -/
namespace Rp
open PySem PySem.Spec PyProof.Rows L2 TL RZ StX
theorem unlG_nd : ∀ {as acc : List At}, (∀ a ∈ as, a ∉ acc) → as.Nodup → unlG acc as = acc ++ as
  | [], acc, _, _ => by simp [unlG]
  | a :: as, acc, h1, h2 => by
    have e : unlG acc (a :: as) = unlG (if a ∈ acc then acc else acc ++ [a]) as := rfl
    rw [List.nodup_cons] at h2
    rw [e, if_neg (h1 a (by simp)), unlG_nd (fun x hx hm => ?_) h2.2]
    · simp
    · rcases List.mem_append.mp hm with hm | hm
      · exact h1 x (by simp [hx]) hm
      · obtain rfl : x = a := by simpa using hm
        exact h2.1 hx
theorem unl_id {as : List At} : unl as = as ↔ as.Nodup := by
  constructor
  · intro h
    rw [← unl_len, h]
  · intro h
    have := unlG_nd (as := as) (acc := []) (by simp) h
    show unlG [] as = as
    rw [this]
    rfl
theorem eqv_ats : ∀ {as bs : List At}, PyData.eqvAll (as.map atD) (bs.map atD) = true ↔ as = bs
  | [], [] => by simp [PyData.eqvAll]
  | [], _ :: _ => by simp [PyData.eqvAll]
  | _ :: _, [] => by simp [PyData.eqvAll]
  | t :: ts, u :: us => by rw [List.map_cons, List.map_cons, eqvAll_cons, Bool.and_eq_true, eqv_at, eqv_ats]; simp
theorem lay_tup {k : Nat} {ds : List PyData} (h : ∀ d ∈ ds, okD d) : SeqAt.shaped (.tuple ds) = true := by
  have z := lay_all h
  refine shaped_of ?_ ?_
  · show PyData.canLayAll0 _ = true
    exact z.1
  · show PyData.depthAll _ + 1 ≤ 64
    omega
section
variable {P : Program} {w : World} {K : PySem.W.Frag} {mg : Str → Option Value} {base : Heap}
theorem scUnlikeL : FnScope ["_law_atoms", "_law_found", "_law_atom_here"] ["_law_atoms"] (defScope sUnlikeL) := ⟨rfl, rfl, rfl, by decide +kernel, rfl, by decide +kernel, by decide +kernel⟩
theorem ok_unlW {f : Addr} {fd : FuncData} (F : Fun K "_law_unlike" "_law_unlike" sUnlikeL f fd) (mTuple : mg "tuple" = none) : FnOk P w K mg base CX0 1 f fd ["_law_atoms"] spUnl := by
  refine F.ok scUnlikeL (fun vs H Q E h => ?_) (fun cdv A outer s H vs Q E hr h => ?_)
  · obtain ⟨b, q, xs, as, rfl, _⟩ := h
    rfl
  obtain ⟨b, q, xs, as, rfl, hq, A1, ok, few, fin⟩ := h
  refine ⟨_, pss_cons (ps_set (i := 1) scUnlikeL.nd rfl (Or.inl rfl) (pe_lst pa_nil))
    (pss_cons (ps_for PassesOwn.never rfl (pi_tup (pv 0)) (pg_name (i := 2) scUnlikeL.nd rfl (Or.inl rfl))
      (pss_one (ps_if (pt_cmpR (op_notInD (hu65 hr)) (pv 2) (pv 1) (by rfl)) (pss_one (ps_expr (pe_bm PySem.F.plainAttrs_list PySem.F.slot_list_append PySem.F.type_list_append mt_append (pv 1) (pa_cons (pv 2) pa_nil)))) pss_nil)))
    (pss_one (ps_ret (pe_callTy call_tuple_of (by rfl) mTuple (by decide +kernel) (pa_cons (pv 1) pa_nil))))), ?_⟩
  have big : (10000 : Nat) ≤ sizeLine := by decide
  have xl := A1.len
  rw [List.length_map] at xl
  refine ⟨(by show 0 ≤ sizeLine; decide), fun l hl => ?_⟩
  have s1 := same_new hl (.lst ([] : List V))
  have hq1 := hq.same s1
  refine ⟨_, rfl, q, rfl, ⟨_, .inl hq1⟩, for_tup (K := K) (a := q) (xs := xs) (fun i σ H2 => ∃ (x2 : Option V) (ys : List V), σ = [some (.ref q), some (.ref l), x2] ∧ H2 l = some (.lst ys) ∧ DAtAll H b ys ((unl (as.take i)).map atD) ∧ Same H H2)
    ⟨none, [], rfl, upd_same, DAtAll.nil, s1⟩ (fun i σ H2 _ ⟨_, _, _, _, _, h⟩ => .inl (hq.same h)) ?_ ?_⟩
  · rintro i x σ H2 hi ⟨x2, ys, rfl, h2, Y2, s2⟩
    obtain ⟨d, hd, T⟩ := A1.get hi
    rw [List.getElem?_map] at hd
    obtain ⟨a, ha, rfl⟩ := Option.map_eq_some_iff.mp hd
    have am := List.mem_of_getElem? ha
    have li : i < as.length := (List.getElem?_eq_some_iff.mp ha).1
    have yl := Y2.len
    rw [List.length_map] at yl
    have ul := unl_le (as := as.take i)
    rw [List.length_take] at ul
    have tk : unl (as.take (i + 1)) = if a ∈ unl (as.take i) then unl (as.take i) else unl (as.take i) ++ [a] := by rw [List.take_add_one, ha]; exact unl_snoc
    refine ⟨_, rfl, _, rfl, atD a, (unl (as.take i)).map atD, (T.same s2).dp, .lst (.inl (.inl h2)) (Y2.same s2).dp, shaped_of (ok a am).1 (by have := (ok a am).2; omega), lay_list fun e he => ?_, !decide (a ∈ unl (as.take i)), by rw [in_ats], ?_⟩
    · obtain ⟨c, hc, rfl⟩ := List.mem_map.mp he
      exact ok c (List.mem_of_mem_take (mem_unl hc))
    by_cases hm : a ∈ unl (as.take i)
    · rw [decide_eq_true hm]
      rw [if_pos hm] at tk
      exact iteF ⟨_, ys, rfl, h2, by rw [tk]; exact Y2, s2⟩
    · rw [decide_eq_false hm]
      rw [if_neg hm] at tk
      refine iteT ?_
      refine ⟨_, rfl, .inl ⟨rfl, _, .inl (.inl h2)⟩, _, rfl, l, _, _, rfl, rfl, h2, by omega, ?_⟩
      have s3 : Same H (upd H2 l (.lst (ys ++ [x]))) := fun c o z => by rw [upd_ne (ne_of_none z hl)]; exact s2 _ _ z
      refine ⟨_, ys ++ [x], rfl, upd_same, ?_, s3⟩
      rw [tk, List.map_append]
      exact Y2.append (.cons T .nil)
  · rintro σ H2 ⟨x2, ys, rfl, h2, Y2, s2⟩
    rw [List.take_of_length_le (by omega)] at Y2
    exact ⟨_, rfl, l, _, rfl, .inl ⟨.inl (.inl h2), fun p hp => fin p _ _ upd_same (Y2.same (s2.trans (same_new hp _))) (s2.trans (same_new hp _))⟩⟩
theorem scSayW : FnScope ["_law_thing", "_law_hyp"] ["_law_thing"] (defScope sSayingW) := ⟨rfl, rfl, rfl, by decide +kernel, rfl, by decide +kernel, by decide +kernel⟩
theorem ok_sayw {f fA fU : Addr} {fd dA dU : FuncData} (F : Fun K "_law_is_saying" "_law_is_saying" sSayingW f fd)
    (GA : FnOk P w K mg base CX0 63 fA dA ["_law_thing"] spIsAm) (kA : PySem.W.keepIn K (.ref fA) = true) (bA : Binds K dA ["_law_thing"] []) (mA : mg "_law_is_atom" = some (.ref fA))
    (GU : FnOk P w K mg base CX0 1 fU dU ["_law_atoms"] spUnl) (kU : PySem.W.keepIn K (.ref fU) = true) (bU : Binds K dU ["_law_atoms"] []) (mU : mg "_law_unlike" = some (.ref fU)) (M : SameG mg) : FnOk P w K mg base CX0 64 f fd ["_law_thing"] spIsSy := by
  refine F.ok scSayW (fun vs H Q E h => ?_) (fun cdv A outer s H vs Q E hr h => ?_)
  · obtain ⟨b, v, d, rfl, _⟩ := h
    rfl
  obtain ⟨b, v, d, rfl, D, ok, q⟩ := h
  have r1 : Room 1 _ := hr.mono (by decide)
  refine ⟨_, pss_cons (ps_if (PW.pt (pw_or (pt_not (pt_val (pe_callB (id := "isinstance") call_isi (by rfl) M.isi (by decide +kernel) (pa_cons (pv 0) (pa_cons (pe_bltn (v := .ty "tuple") (by rfl) M.tuple (by decide +kernel) rfl) pa_nil)))))
      (pw_or (pt_cmpR op_ne (pe_callB call_len_seq (by rfl) M.len PySem.boot_len (pa_cons (pv 0) pa_nil)) pe_int (nomark _))
      (pw_or (pt_not (pt_val (pe_callB (id := "isinstance") call_isi (by rfl) M.isi (by decide +kernel) (pa_cons (pe_ix ix_tup (pv 0) pe_int (fun _ _ => rfl)) (pa_cons (pe_bltn (v := .ty "tuple") (by rfl) M.tuple (by decide +kernel) rfl) pa_nil)))))
      (pw_or1 (pt_cmpR op_gt (pe_callB call_len_seq (by rfl) M.len PySem.boot_len (pa_cons (pe_ix ix_tup (pv 0) pe_int (fun _ _ => rfl)) pa_nil)) pe_int (nomark _))))))) (pss_one (ps_ret pe_bl)) pss_nil)
    (pss_cons (ps_if (PW.pt (pw_or (pt_not (pt_val (pe_callB (cr_all rfl) (by rfl) M.all (by decide +kernel) (pa_cons (pe_lc (own := [("_law_hyp", 1)]) (g := gName 1) (tt := tYes) (te := tCall spIsAm [] E0 (tCons (tVar 1) tNil)) rfl scSayW.nd
        (pi_tup (pe_ix ix_tup (pv 0) pe_int (fun _ _ => rfl))) (blkOk_by (N := ["_law_thing", "_law_hyp"]) (sc := defScope sSayingW) (by decide +kernel)) (fun _ _ _ _ _ => pg_name (i := 1) scSayW.nd rfl (Or.inl rfl))
        (fun _ _ _ _ _ => pts_nil) (fun _ _ _ _ _ => pe_call GA hr (by rfl) mA kA bA .nil pass0 (pa_cons (pv 1) pa_nil))) pa_nil))))
      (pw_or1 (pt_not (pt_val (pe_call GA hr (by rfl) mA kA bA .nil pass0 (pa_cons (pe_ix ix_tup (pv 0) pe_int (fun _ _ => rfl)) pa_nil))))))) (pss_one (ps_ret pe_bl)) pss_nil)
    (pss_one (ps_ret (pe_cmpR (op_eqD hr.units) (pe_call GU r1 (by rfl) mU kU bU .nil pass0 (pa_cons (pe_ix ix_tup (pv 0) pe_int (fun _ _ => rfl)) pa_nil)) (pe_ix ix_tup (pv 0) pe_int (fun _ _ => rfl)) (nomark _))))), ?_⟩
  have no : ∀ {H' : Hp}, Same H H' → ¬ IsSy d → Q (.bl false) H' := fun s h => q false _ ⟨(fun e => nomatch e), fun z => absurd z h⟩ s
  refine ⟨_, rfl, _, _, _, _, isU d, rfl, .ty "tuple", D.tyx, kitU d, isU d, rfl, ?_⟩
  cases d with
  | tuple ds =>
    obtain ⟨p, xs, rfl, hp, A'⟩ := D.tup_of
    have el := A'.len
    refine iteF ?_
    refine ⟨_, rfl, p, _, rfl, .inr (.inl hp), rfl, !decide (V.int ((xs.length : Nat) : Int) = V.int 2), rfl, ?_⟩
    by_cases h2 : xs.length = 2
    · rw [decide_eq_true (by rw [h2]; rfl)]
      refine iteF ?_
      match ds, xs, A', h2 with
      | [dh, dg], [x0, x1], A', _ =>
        obtain ⟨_, _, e', D0, A1⟩ := A'.head
        injection e' with e1 e2
        subst e1 e2
        obtain ⟨_, _, e', D1, _⟩ := A1.head
        injection e' with e1 e2
        subst e1
        have ok0 := ok.tup dh (by simp)
        have ok1 := ok.tup dg (by simp)
        refine ⟨_, rfl, p, _, _, _, rfl, rfl, .inl hp, at_of (j := 0) rfl rfl, _, _, _, _, isU dh, rfl, .ty "tuple", D0.tyx, kitU dh, isU dh, rfl, ?_⟩
        cases dh with
        | tuple hs =>
          obtain ⟨u, ys, rfl, hu, Y⟩ := D0.tup_of
          have yl := Y.len
          refine iteF ?_
          refine ⟨_, rfl, p, _, _, _, rfl, rfl, .inl hp, at_of (j := 0) rfl rfl, u, _, rfl, .inr (.inl hu), _, _, rfl, rfl, decide ((6 : Int) < (ys.length : Nat)), rfl, ?_⟩
          by_cases h6 : (6 : Int) < (ys.length : Nat)
          · rw [decide_eq_true h6]
            exact iteT (no (Same.refl H) fun z => by have := (isSy_two.mp z).few; omega)
          · rw [decide_eq_false h6]
            refine iteF ?_
            have big : (10000 : Nat) ≤ sizeLine := by decide
            refine ⟨_, rfl, p, _, _, _, rfl, rfl, .inl hp, at_of (j := 0) rfl rfl, u, rfl, ⟨_, .inl hu⟩, fun DD hD => lc_pred (K := K) (b := b) (ds := hs) (Pd := IsAm) (by show 1 < 2; decide) hD hu Y (by omega)
              (fun x e H2 Q' he De _ k => ⟨b, x, e, rfl, De, (ok0.tup e he).ok, (ok0.tup e he).sz, (ok0.tup e he).sh.am, k⟩) fun bs H2 hb2 all2 s2 => ⟨DD, bs, rfl, .inl (.inl hb2), bs.all id, rfl, ?_⟩⟩
            by_cases ha : bs.all id = true
            · rw [ha]
              refine iteF ⟨_, rfl, p, _, _, _, rfl, rfl, .inl (hp.same s2), at_of (j := 1) rfl rfl, b, x1, dg, rfl, D1.same s2, ok1.ok, ok1.sz, ok1.sh.am, fun r H3 hr3 s3 => ⟨r, rfl, ?_⟩⟩
              have s23 := s2.trans s3
              cases r with
              | false =>
                refine iteT (no s23 fun z => ?_)
                have := hr3.mpr (isSy_two.mp z).g
                cases this
              | true =>
                refine iteF ?_
                have each := all2.mp ha
                obtain ⟨as, rfl, aok⟩ := ats_of each
                rw [List.length_map] at yl
                have oka : ∀ a ∈ as, okD (atD a) := fun a ha => (ok0.tup _ (List.mem_map.mpr ⟨a, ha, rfl⟩)).ok
                refine ⟨_, rfl, p, _, _, _, rfl, rfl, .inl (hp.same s23), at_of (j := 0) rfl rfl, b, u, ys, as, rfl, hu.same s23, Y.same s23, oka, by omega, fun o zs H4 ho Z s4 => ?_⟩
                have s24 := s23.trans s4
                refine ⟨_, rfl, p, _, _, _, rfl, rfl, .inl (hp.same s24), at_of (j := 0) rfl rfl, .tuple ((unl as).map atD), .tuple (as.map atD), .tup (.inl (.inl ho)) Z.dp, .tup (.inl (hu.same s24)) (Y.same s24).dp, lay_tup (k := 0) (fun d hd => ?_), lay_tup (k := 0) (fun d hd => ?_), q _ H4 ?_ s24⟩
                · obtain ⟨a, ha, rfl⟩ := List.mem_map.mp hd
                  exact oka a (mem_unl ha)
                · obtain ⟨a, ha, rfl⟩ := List.mem_map.mp hd
                  exact oka a ha
                · rw [eqv_tup, eqv_ats, unl_id, isSy_two]
                  exact ⟨fun h => ⟨by rw [List.length_map]; omega, each, hr3.mp rfl, nodup_atD.mpr h⟩, fun h => nodup_atD.mp h.nd⟩
            · rw [Bool.not_eq_true] at ha
              rw [ha]
              refine iteT (no s2 fun z => ?_)
              have := all2.mpr (isSy_two.mp z).am
              rw [ha] at this
              cases this
        | _ => exact iteT (no (Same.refl H) fun ⟨_, _, z, _⟩ => nomatch z)
    · rw [decide_eq_false (by intro e; injection e with e; omega)]
      exact iteT (no (Same.refl H) (isSy_len (by omega)))
  | _ => exact iteT (no (Same.refl H) fun ⟨_, _, z, _⟩ => nomatch z)
end
end Rp

set_option maxHeartbeats 8000000
/-! The law's own look at BINDINGs. -/
namespace Rp
open PySem PySem.Spec PyProof.Rows L2 TL RZ StX
theorem adjB_two {x y : Int} {r : List Int} : adjB (x :: y :: r) = true ↔ x < y ∧ adjB (y :: r) = true := by
  unfold adjB
  simp only [List.length_cons, Nat.add_sub_cancel]
  rw [List.range_succ_eq_map, List.all_cons, Bool.and_eq_true, List.all_map]
  refine and_congr ?_ ?_
  · exact decide_eq_true_iff
  · exact Iff.rfl
theorem adjB_up : ∀ {ks : List Int}, adjB ks = true ↔ ks.Pairwise (· < ·)
  | [] => by simp [adjB]
  | [x] => by simp [adjB]
  | x :: y :: r => by
    rw [adjB_two, adjB_up (ks := y :: r), List.pairwise_cons (a := x)]
    constructor
    · rintro ⟨h, p⟩
      refine ⟨fun z hz => ?_, p⟩
      rcases List.mem_cons.mp hz with rfl | hz
      · exact h
      · exact Int.lt_trans h ((List.pairwise_cons.mp p).1 z hz)
    · rintro ⟨h, p⟩
      exact ⟨h y (by simp), p⟩
theorem up_ext : ∀ {a b : List Int}, a.Pairwise (· < ·) → b.Pairwise (· < ·) → (∀ k, k ∈ a ↔ k ∈ b) → a = b
  | [], [], _, _, _ => rfl
  | [], y :: b, _, _, h => absurd ((h y).mpr (by simp)) (by simp)
  | x :: a, [], _, _, h => absurd ((h x).mp (by simp)) (by simp)
  | x :: a, y :: b, p, q, h => by
    have p' := List.pairwise_cons.mp p
    have q' := List.pairwise_cons.mp q
    have xy : x = y := by
      have h1 := (h x).mp (by simp)
      have h2 := (h y).mpr (by simp)
      rcases List.mem_cons.mp h1 with h1 | h1
      · exact h1
      · rcases List.mem_cons.mp h2 with h2 | h2
        · exact h2.symm
        · have := p'.1 y h2
          have := q'.1 x h1
          omega
    subst xy
    rw [up_ext p'.2 q'.2 fun k => ?_]
    constructor
    · intro hk
      rcases List.mem_cons.mp ((h k).mp (by simp [hk])) with e | e
      · have := p'.1 k hk; omega
      · exact e
    · intro hk
      rcases List.mem_cons.mp ((h k).mpr (by simp [hk])) with e | e
      · have := q'.1 k hk; omega
      · exact e
def intsD (ns : List Int) : PyData := .list (ns.map PyData.int)
theorem eqvAll_ints : ∀ {a b : List Int}, PyData.eqvAll (a.map PyData.int) (b.map PyData.int) = true ↔ a = b
  | [], [] => by simp [PyData.eqvAll]
  | [], _ :: _ => by simp [PyData.eqvAll]
  | _ :: _, [] => by simp [PyData.eqvAll]
  | t :: ts, u :: us => by rw [List.map_cons, List.map_cons, eqvAll_cons, Bool.and_eq_true, eqv_int, eqvAll_ints]; simp
theorem eqv_ints {a b : List Int} : PyData.eqv (intsD a) (intsD b) = true ↔ a = b := by
  unfold intsD
  rw [show PyData.eqv (.list (a.map PyData.int)) (.list (b.map PyData.int)) = PyData.eqvAll (a.map PyData.int) (b.map PyData.int) by simp only [PyData.eqv], eqvAll_ints]
theorem ints_dp {K : PySem.W.Frag} {H : Hp} : ∀ {ns : List Int}, DpAll K H (ns.map V.int) (ns.map PyData.int)
  | [] => .nil
  | n :: ns => .cons (.int n) ints_dp
theorem ints_shaped (ns : List Int) : SeqAt.shaped (intsD ns) = true := by
  refine lay_list fun d hd => ?_
  obtain ⟨n, _, rfl⟩ := List.mem_map.mp hd
  exact ⟨rfl, by show 0 ≤ 60; omega⟩
abbrev NBw : List Str := ["_law_thing", "_law_pair", "_law_spots"]
def spBdW : Sp := fun vs H Q _ => ∃ (b : Addr) (v : V) (d : PyData), vs = [v] ∧ DAt H b v d ∧ DOk d ∧ ∀ (r : Bool) (H' : Hp), (r = true ↔ IsBdD d) → Same H H' → Q (.bl r) H'
section
variable {P : Program} {w : World} {K : PySem.W.Frag} {mg : Str → Option Value} {base : Heap}
theorem scBdW : FnScope NBw ["_law_thing"] (defScope sBindingW) := ⟨rfl, rfl, rfl, by decide +kernel, rfl, by decide +kernel, by decide +kernel⟩
theorem ok_bdw {f fC fT : Addr} {fd dC dT : FuncData} (F : Fun K "_law_is_binding" "_law_is_binding" sBindingW f fd)
    (GC : FnOk P w K mg base CX0 1 fC dC ["_law_thing", "_law_top"] spCt) (kC : PySem.W.keepIn K (.ref fC) = true) (bC : Binds K dC ["_law_thing", "_law_top"] []) (mC : mg "_law_is_count" = some (.ref fC))
    (GT : FnOk P w K mg base CX0 62 fT dT ["_law_thing"] (spTmW 62)) (kT : PySem.W.keepIn K (.ref fT) = true) (bT : Binds K dT ["_law_thing"] []) (mT : mg "_law_is_term" = some (.ref fT))
    (mSorted : mg "sorted" = none) (mSet : mg "set" = none) (M : SameG mg) : FnOk P w K mg base CX0 63 f fd ["_law_thing"] spBdW := by
  refine F.ok scBdW (fun vs H Q E h => ?_) (fun cdv A outer s H vs Q E hr h => ?_)
  · obtain ⟨b, v, d, rfl, _⟩ := h
    rfl
  obtain ⟨b, v, d, rfl, D, ok, q⟩ := h
  have r1 : Room 1 _ := hr.mono (by decide)
  refine ⟨_, (pss_cons (ps_if (pt_not (pt_val (pe_callB (id := "isinstance") call_isi (by rfl) M.isi (by decide +kernel) (pa_cons (pv 0) (pa_cons (pe_bltn (v := .ty "tuple") (by rfl) M.tuple (by decide +kernel) rfl) pa_nil))))) (pss_one (ps_ret pe_bl)) pss_nil)
    (pss_cons (ps_for PassesOwn.never rfl (pi_tup (pv 0)) (pg_name (i := 1) scBdW.nd rfl (Or.inl rfl))
      (pss_cons (ps_if (PW.pt (pw_or (pt_not (pt_val (pe_callB (id := "isinstance") call_isi (by rfl) M.isi (by decide +kernel) (pa_cons (pv 1) (pa_cons (pe_bltn (v := .ty "tuple") (by rfl) M.tuple (by decide +kernel) rfl) pa_nil))))) (pw_or1 (pt_cmpR op_ne (pe_callB call_len_seq (by rfl) M.len PySem.boot_len (pa_cons (pv 1) pa_nil)) pe_int (nomark _))))) (pss_one (ps_ret pe_bl)) pss_nil)
      (pss_one (ps_if (PW.pt (pw_or (pt_not (pt_val (pe_call GC r1 rfl mC kC bC .nil pass0 (pa_cons (pe_ix ix_tup (pv 1) pe_int (fun _ _ => rfl)) (pa_cons pe_int pa_nil))))) (pw_or1 (pt_not (pt_val (pe_call GT hr rfl mT kT bT .nil pass0 (pa_cons (pe_ix ix_tup (pv 1) pe_int (fun _ _ => rfl)) pa_nil))))))) (pss_one (ps_ret pe_bl)) pss_nil))))
    (pss_cons (ps_setLc (i := 2) (own := [("_law_pair", 1)]) (g := gName 1) (tt := tYes) (te := tOp (rIxT K) (tVar 1) (tC (.int 0))) rfl scBdW.nd rfl rfl (by rfl) (pi_tup (pv 0)) (blkOk_by (N := NBw) (sc := defScope sBindingW) (by decide +kernel))
        (fun _ _ _ _ _ => pg_name (i := 1) scBdW.nd rfl (Or.inl rfl)) (fun _ _ _ _ _ => pts_nil) (fun _ _ _ _ _ => pe_ix ix_tup (pv 1) pe_int (fun _ _ => rfl)))
    (pss_one (ps_ret (pe_cmpR (op_eqD hr.units) (pv 2) (pe_callB (cr_sortedSet rfl) (by rfl) mSorted (by decide +kernel) (pa_cons (pe_callTy (cr_setI rfl) (by rfl) mSet (by decide +kernel) (pa_cons (pv 2) pa_nil)) pa_nil)) (nomark _))))))), ?_⟩
  refine ⟨_, rfl, _, _, _, _, isU d, rfl, .ty "tuple", D.tyx, kitU d, isU d, rfl, ?_⟩
  cases d with
  | tuple ds =>
    obtain ⟨a, xs, rfl, ha, A'⟩ := D.tup_of
    have el := A'.len
    have few : ds.length ≤ 60 := ok.sh.wide
    have big : (2000 : Nat) ≤ sizeLine := by decide
    refine iteF ?_
    refine ⟨_, rfl, a, rfl, ⟨_, .inl ha⟩, for_tup (K := K) (a := a) (xs := xs) (fun i σ H2 => ∃ c1 : Option V, σ = [some (.ref a), c1, none] ∧ (∀ e ∈ ds.take i, IsPr e) ∧ Same H H2)
      ⟨_, rfl, by simp, Same.refl H⟩ (fun i σ H2 _ ⟨_, _, _, s⟩ => .inl (ha.same s)) ?_ ?_⟩
    · rintro i x σ H2 hi ⟨c1, rfl, prs, s2⟩
      obtain ⟨e, he, De⟩ := A'.get hi
      have em := List.mem_of_getElem? he
      have De := De.same s2
      have oke := ok.tup e em
      have no : ∀ {H3 : Hp}, ¬ IsPr e → Same H H3 → Q (.bl false) H3 := fun h s => q false _ ⟨(fun e => nomatch e), fun z => absurd ((isBd_tup.mp z).1 e em) h⟩ s
      have tk : ds.take (i + 1) = ds.take i ++ [e] := by rw [List.take_add_one, he]; rfl
      refine ⟨_, rfl, _, _, _, _, isU e, rfl, .ty "tuple", De.tyx, kitU e, isU e, rfl, ?_⟩
      cases e with
      | tuple es =>
        obtain ⟨p, ys, rfl, hp, Ae⟩ := De.tup_of
        have yl := Ae.len
        refine iteF ?_
        refine ⟨_, rfl, p, _, rfl, .inr (.inl hp), rfl, !decide (V.int ((ys.length : Nat) : Int) = V.int 2), rfl, ?_⟩
        by_cases h2 : ys.length = 2
        · rw [decide_eq_true (by rw [h2]; rfl)]
          refine iteF ?_
          match es, ys, Ae, h2 with
          | [d0, d1], [y0, y1], Ae, _ =>
            obtain ⟨_, _, e', D0, A1⟩ := Ae.head
            injection e' with e1 e2
            subst e1 e2
            obtain ⟨_, _, e', D1, _⟩ := A1.head
            injection e' with e1 e2
            subst e1
            have ok0 := oke.tup d0 (by simp)
            have ok1 := oke.tup d1 (by simp)
            refine ⟨_, rfl, p, _, _, _, rfl, rfl, .inl hp, at_of (j := 0) rfl rfl, b, y0, d0, 100, rfl, D0, fun r0 hr0 => ⟨r0, rfl, ?_⟩⟩
            cases r0 with
            | false =>
              refine iteT (no (fun ⟨n, z, h, n0, n9, _⟩ => ?_) s2)
              injection h with h
              injection h with h _
              have := hr0.mpr ⟨n, h, n0, by omega⟩
              cases this
            | true =>
              obtain ⟨n, rfl, n0, n9⟩ := hr0.mp rfl
              refine iteF ⟨_, rfl, p, _, _, _, rfl, rfl, .inl hp, at_of (j := 1) rfl rfl, b, y1, d1, rfl, D1, ok1.ok, by have := ok1.ok.2; omega, fun r1 H4 hr1 s4 => ⟨r1, rfl, ?_⟩⟩
              cases r1 with
              | false =>
                refine iteT (no (fun ⟨n, z, h, _, _, h5⟩ => ?_) (s2.trans s4))
                injection h with h
                injection h with _ h
                injection h with h _
                have := hr1.mpr (h ▸ h5)
                cases this
              | true =>
                refine iteF ⟨_, rfl, fun e' he' => ?_, s2.trans s4⟩
                rw [tk] at he'
                rcases List.mem_append.mp he' with z | z
                · exact prs e' z
                · rw [List.mem_singleton.mp z]; exact ⟨n, d1, rfl, n0, by omega, hr1.mp rfl⟩
        · rw [decide_eq_false (fun z => h2 (by injection z with z; omega))]
          exact iteT (no (isPr_two (by omega)) s2)
      | _ => exact iteT (no (fun ⟨_, _, z, _⟩ => nomatch z) s2)
    · rintro σ H2 ⟨c1, rfl, prs, s2⟩
      rw [el, List.take_length] at prs
      have ha2 := ha.same s2
      have A2 := A'.same s2
      refine ⟨_, rfl, a, rfl, ⟨_, .inl ha2⟩, fun D hD => lc_tup (K := K) (a := a) (xs := xs) (fun i H3 => H3 D = some (.lst (((ds.take i).map keyD).map V.int)) ∧ Same H2 H3)
        ⟨upd_same, same_new hD _⟩ (fun i H3 _ h => .inl (ha2.same h.2)) ?_ ?_⟩
      · rintro i x H3 hi ⟨h3, s3⟩
        obtain ⟨e, he, De⟩ := A2.get hi
        have em := List.mem_of_getElem? he
        have li : i < ds.length := (List.getElem?_eq_some_iff.mp he).1
        have tk : ds.take (i + 1) = ds.take i ++ [e] := by rw [List.take_add_one, he]; rfl
        obtain ⟨n, e1, rfl, n0, n9, _⟩ := prs e em
        obtain ⟨p, ys, rfl, hp, Ae⟩ := (De.same s3).tup_of
        obtain ⟨y0, yr, rfl, D0, _⟩ := Ae.cons_of
        cases D0.int_of
        refine ⟨rfl, _, rfl, p, _, _, _, rfl, rfl, .inl hp, at_of (j := 0) rfl rfl, _, h3, ?_, ?_, ?_⟩
        · rw [List.length_map, List.length_map, List.length_take]; omega
        · rw [upd_same, tk, List.map_append, List.map_append]; rfl
        · intro c o z
          rw [upd_ne (ne_of_none z hD)]
          exact s3 _ _ z
      · rintro H3 ⟨h3, s3⟩
        rw [el, List.take_length] at h3
        obtain ⟨ns, en⟩ : ∃ ns, ds.map keyD = ns := ⟨_, rfl⟩
        have nl : ns.length = ds.length := by rw [← en, List.length_map]
        rw [en] at h3
        refine ⟨_, rfl, _, rfl, D, ns, rfl, .inl (.inl h3), by omega, fun p c hp cl => ?_⟩
        have s4 := same_new hp (SetO w p (fun j => decide (j ∈ ns)) c)
        refine ⟨p, _, c, rfl, upd_same, by omega, fun ks o up mem _ ho => ?_⟩
        have s5 := same_new ho (.lst (ks.map V.int))
        refine ⟨intsD ns, intsD ks, .lst (.inl (.inl (s5 _ _ (s4 _ _ h3)))) ints_dp, .lst (.inl (.inl upd_same)) ints_dp, ints_shaped ns, ints_shaped ks, q _ _ ?_ (((s2.trans s3).trans s4).trans s5)⟩
        rw [eqv_ints, isBd_tup, en, adjB_up]
        have mem' : ∀ k, k ∈ ks ↔ k ∈ ns := fun k => (mem k).trans decide_eq_true_iff
        exact ⟨fun h => ⟨prs, by rw [h]; exact up⟩, fun h => up_ext h.2 up fun k => (mem' k).symm⟩
  | _ => exact iteT (q false H ⟨(fun e => nomatch e), fun z => absurd z (isBd_no (fun ds e => nomatch e))⟩ (Same.refl H))
end
end Rp

set_option maxHeartbeats 8000000
/-! The law's own look at STEPs. -/
namespace Rp
open PySem PySem.Spec PyProof.Rows L2 TL RZ StX
def wordsW : List (Key × V) := [(.inr "by", .int 0), (.inr "split", .int 1), (.inr "use", .int 1), (.inr "cut", .int 1), (.inr "back", .int 2), (.inr "as", .int 2), (.inr "lean", .int 2)]
def arW (x : Str) : Nat := if x = "lean" then 2 else if x = "as" then 2 else if x = "back" then 2 else if x = "cut" then 1 else if x = "use" then 1 else if x = "split" then 1 else if x = "by" then 0 else 9
theorem arW_at (x : Str) : (valV (mergeK [] wordsW) (.inr x)).getD (.int 9) = .int (arW x : Nat) := by
  show (valV (putK (putK (putK (putK (putK (putK (putK ([] : List (Key × V)) (.inr "by") (.int 0)) (.inr "split") (.int 1)) (.inr "use") (.int 1)) (.inr "cut") (.int 1)) (.inr "back") (.int 2)) (.inr "as") (.int 2)) (.inr "lean") (.int 2)) (.inr x)).getD (.int 9) = _
  rw [valV_put, valV_put, valV_put, valV_put, valV_put, valV_put, valV_put]
  unfold arW
  by_cases h : x = "lean"
  · rw [if_pos (by rw [h]), if_pos h]; rfl
  rw [if_neg (fun z => h (Sum.inr.inj z)), if_neg h]
  by_cases h : x = "as"
  · rw [if_pos (by rw [h]), if_pos h]; rfl
  rw [if_neg (fun z => h (Sum.inr.inj z)), if_neg h]
  by_cases h : x = "back"
  · rw [if_pos (by rw [h]), if_pos h]; rfl
  rw [if_neg (fun z => h (Sum.inr.inj z)), if_neg h]
  by_cases h : x = "cut"
  · rw [if_pos (by rw [h]), if_pos h]; rfl
  rw [if_neg (fun z => h (Sum.inr.inj z)), if_neg h]
  by_cases h : x = "use"
  · rw [if_pos (by rw [h]), if_pos h]; rfl
  rw [if_neg (fun z => h (Sum.inr.inj z)), if_neg h]
  by_cases h : x = "split"
  · rw [if_pos (by rw [h]), if_pos h]; rfl
  rw [if_neg (fun z => h (Sum.inr.inj z)), if_neg h]
  by_cases h : x = "by"
  · rw [if_pos (by rw [h]), if_pos h]; rfl
  rw [if_neg (fun z => h (Sum.inr.inj z)), if_neg h]
  rfl
theorem isSt_ar {x : Str} : ∀ {es : List PyData}, IsSt (.tuple (.str x :: es)) → es.length = arW x
  | [], h => by
    have h : PyData.str x = .str "by" := h
    injection h with h
    subst h
    decide +kernel
  | [e], h => by
    rcases h with ⟨h, _⟩ | ⟨h | h, _⟩
    all_goals
      injection h with h
      subst h
      show 1 = arW _
      decide +kernel
  | [e, f], h => by
    rcases h with ⟨h, _⟩ | ⟨h, _⟩ | ⟨h, _⟩
    all_goals
      injection h with h
      subst h
      show 2 = arW _
      decide +kernel
  | _ :: _ :: _ :: _, h => h.elim
theorem su_in {x : Str} : inV (.str x) [.str "split", .str "use"] = decide (x = "split" ∨ x = "use") := by
  have e : ∀ a : Str, eqV (.str a) (.str x) = decide (x = a) := fun a => by unfold eqV; rw [Bool.eq_iff_iff]; simp; exact eq_comm
  simp [inV, e]
theorem isPl_I {d : PyData} (h : isI d = false) : ¬ IsPl d := fun ⟨n, e, _⟩ => by subst e; cases h
/-- the words that have two parts -/
theorem arW_two {x : Str} (h : arW x ≤ 8) (h1 : ¬ (x = "split" ∨ x = "use")) (h2 : x ≠ "cut") (h3 : x ≠ "by") : arW x = 2 ∧ (x = "back" ∨ x = "as" ∨ x = "lean") := by
  unfold arW at h ⊢
  by_cases a : x = "lean"
  · rw [if_pos a]; exact ⟨rfl, .inr (.inr a)⟩
  rw [if_neg a] at h ⊢
  by_cases a : x = "as"
  · rw [if_pos a]; exact ⟨rfl, .inr (.inl a)⟩
  rw [if_neg a] at h ⊢
  by_cases a : x = "back"
  · rw [if_pos a]; exact ⟨rfl, .inl a⟩
  rw [if_neg a] at h ⊢
  rw [if_neg h2, if_neg (fun z => h1 (.inr z)), if_neg (fun z => h1 (.inl z)), if_neg h3] at h
  omega
abbrev NSw : List Str := ["_law_thing", "_law_word", "_law_parts"]
def spStW : Sp := fun vs H Q _ => ∃ (b : Addr) (v : V) (d : PyData), vs = [v] ∧ DAt H b v d ∧ DOk d ∧ (∀ ds, d = .tuple ds → ds.length ≤ 9) ∧ ∀ (r : Bool) (H' : Hp), (r = true ↔ IsSt d) → Same H H' → Q (.bl r) H'
section
variable {P : Program} {w : World} {K : PySem.W.Frag} {mg : Str → Option Value} {base : Heap}
theorem scStW : FnScope NSw ["_law_thing"] (defScope sStepW) := ⟨rfl, rfl, rfl, by decide +kernel, rfl, by decide +kernel, by decide +kernel⟩
theorem ok_stw {f fA fB fS fN : Addr} {fd dA dB dS dN : FuncData} (F : Fun K "_law_is_step" "_law_is_step" sStepW f fd)
    (GA : FnOk P w K mg base CX0 63 fA dA ["_law_thing"] spIsAm) (kA : PySem.W.keepIn K (.ref fA) = true) (bA : Binds K dA ["_law_thing"] []) (mA : mg "_law_is_atom" = some (.ref fA))
    (GB : FnOk P w K mg base CX0 63 fB dB ["_law_thing"] spBdW) (kB : PySem.W.keepIn K (.ref fB) = true) (bB : Binds K dB ["_law_thing"] []) (mB : mg "_law_is_binding" = some (.ref fB))
    (GS : FnOk P w K mg base CX0 64 fS dS ["_law_thing"] spIsSy) (kS : PySem.W.keepIn K (.ref fS) = true) (bS : Binds K dS ["_law_thing"] []) (mS : mg "_law_is_saying" = some (.ref fS))
    (GN : FnOk P w K mg base CX0 1 fN dN ["_law_thing"] spIsNm) (kN : PySem.W.keepIn K (.ref fN) = true) (bN : Binds K dN ["_law_thing"] []) (mN : mg "_law_is_word" = some (.ref fN)) (M : SameG mg) : FnOk P w K mg base CX0 65 f fd ["_law_thing"] spStW := by
  refine F.ok scStW (fun vs H Q E h => ?_) (fun cdv A outer s H vs Q E hr h => ?_)
  · obtain ⟨b, v, d, rfl, _⟩ := h
    rfl
  obtain ⟨b, v, d, rfl, D, ok, nine, q⟩ := h
  have r1 : Room 1 _ := hr.mono (by decide)
  have r63 : Room 63 _ := hr.mono (by decide)
  refine ⟨_, pss_cons (ps_if (PW.pt (pw_or (pt_not (pt_val (pe_callB (id := "isinstance") call_isi (by rfl) M.isi (by decide +kernel) (pa_cons (pv 0) (pa_cons (pe_bltn (v := .ty "tuple") (by rfl) M.tuple (by decide +kernel) rfl) pa_nil)))))
      (pw_or (pt_cmpR (op_eqD hr.units) (pv 0) (pe_tup pa_nil) (nomark _))
      (pw_or1 (pt_not (pt_val (pe_callB (id := "isinstance") call_isi (by rfl) M.isi (by decide +kernel) (pa_cons (pe_ix ix_tup (pv 0) pe_int (fun _ _ => rfl)) (pa_cons (pe_bltn (v := .ty "str") (by rfl) M.str (by decide +kernel) rfl) pa_nil)))))))))
      (pss_one (ps_ret pe_bl)) pss_nil)
    (pss_cons (ps_par (i := 1) (j := 2) rfl scStW.nd rfl rfl (by decide) rfl rfl (pa_cons (pe_ix ix_tup (pv 0) pe_int (fun _ _ => rfl)) (pa_cons (pe_slice sl_tup (pv 0) (po_some pe_int) po_none) pa_nil)) (by rfl))
    (pss_cons (ps_if (pt_cmpR op_ne (pe_callB call_len_seq (by rfl) M.len PySem.boot_len (pa_cons (pv 2) pa_nil))
        (pe_dget2 (hu_of hr) (pe_disp (pps_cons pe_str pe_int (pps_cons pe_str pe_int (pps_cons pe_str pe_int (pps_cons pe_str pe_int (pps_cons pe_str pe_int (pps_cons pe_str pe_int (pps_cons pe_str pe_int pps_nil))))))) rfl rfl (by simp) (by decide)) (pv 1) pe_int ⟨rfl, rfl, rfl, rfl⟩) (nomark _)) (pss_one (ps_ret pe_bl)) pss_nil)
    (pss_cons (ps_if (pt_cmpR op_in_seq (pv 1) (pe_tup (pa_cons pe_str (pa_cons pe_str pa_nil))) (by rfl)) (pss_one (ps_ret (pe_and (pe_callB (id := "isinstance") call_isi (by rfl) M.isi (by decide +kernel) (pa_cons (pe_ix ix_tup (pv 2) pe_int (fun _ _ => rfl)) (pa_cons (pe_bltn (v := .ty "int") (by rfl) M.int (by decide +kernel) rfl) pa_nil)))
        (pe_and (pe_not (pe_callB (id := "isinstance") call_isi (by rfl) M.isi (by decide +kernel) (pa_cons (pe_ix ix_tup (pv 2) pe_int (fun _ _ => rfl)) (pa_cons (pe_bltn (v := .ty "bool") (by rfl) M.bool (by decide +kernel) rfl) pa_nil)))) (pe_one (pe_cmpR op_ge (pe_ix ix_tup (pv 2) pe_int (fun _ _ => rfl)) pe_int (nomark _))))))) pss_nil)
    (pss_cons (ps_if (pt_cmpR op_eq (pv 1) pe_str (nomark _)) (pss_one (ps_ret (pe_call GA r63 rfl mA kA bA .nil pass0 (pa_cons (pe_ix ix_tup (pv 2) pe_int (fun _ _ => rfl)) pa_nil)))) pss_nil)
    (pss_cons (ps_if (PW.pt (pw_or (pt_cmpR op_eq (pv 1) pe_str (nomark _)) (pw_or1 (pt_not (pt_val (pe_call GB r63 rfl mB kB bB .nil pass0 (pa_cons (pe_ix ix_tup (pv 2) pe_int (fun _ _ => rfl)) pa_nil))))))) (pss_one (ps_ret (pe_cmpR op_eq (pv 1) pe_str (nomark _)))) pss_nil)
    (pss_cons (ps_if (pt_cmpR op_eq (pv 1) pe_str (nomark _)) (pss_one (ps_ret (pe_and (pe_callB (id := "isinstance") call_isi (by rfl) M.isi (by decide +kernel) (pa_cons (pe_ix ix_tup (pv 2) pe_int (fun _ _ => rfl)) (pa_cons (pe_bltn (v := .ty "int") (by rfl) M.int (by decide +kernel) rfl) pa_nil)))
        (pe_and (pe_not (pe_callB (id := "isinstance") call_isi (by rfl) M.isi (by decide +kernel) (pa_cons (pe_ix ix_tup (pv 2) pe_int (fun _ _ => rfl)) (pa_cons (pe_bltn (v := .ty "bool") (by rfl) M.bool (by decide +kernel) rfl) pa_nil)))) (pe_one (pe_cmpR op_ge (pe_ix ix_tup (pv 2) pe_int (fun _ _ => rfl)) pe_int (nomark _))))))) pss_nil)
    (pss_one (ps_ret (pe_ifExp (pt_cmpR op_eq (pv 1) pe_str (nomark _)) (pe_call GS hr rfl mS kS bS .nil pass0 (pa_cons (pe_ix ix_tup (pv 2) pe_int (fun _ _ => rfl)) pa_nil)) (pe_call GN r1 rfl mN kN bN .nil pass0 (pa_cons (pe_ix ix_tup (pv 2) pe_int (fun _ _ => rfl)) pa_nil))))))))))), ?_⟩
  have no : ∀ {H' : Hp}, Same H H' → ¬ IsSt d → Q (.bl false) H' := fun s h => q false _ ⟨(fun e => nomatch e), fun z => absurd z h⟩ s
  refine ⟨_, rfl, _, _, _, _, isU d, rfl, .ty "tuple", D.tyx, kitU d, isU d, rfl, ?_⟩
  cases d with
  | tuple ds =>
    obtain ⟨a, xs, rfl, ha, A'⟩ := D.tup_of
    refine iteF ?_
    refine ⟨_, rfl, (by show 0 ≤ sizeLine; decide), fun p hp => ?_⟩
    have s1 := same_new hp (.tup ([] : List V))
    refine ⟨.tuple ds, .tuple [], (D.same s1).dp, .tup (.inl (.inl upd_same)) .nil, shaped_of ok.ok.1 (by have := ok.ok.2; omega), by decide +kernel, ds.isEmpty, congrArg V.bl eqv_nil, ?_⟩
    generalize upd H p (.tup ([] : List V)) = H1 at s1 ⊢
    cases xs with
    | nil =>
      have e0 : ds = [] := by have := A'.len; cases ds with | nil => rfl | cons => simp at this
      subst e0
      exact iteT (no s1 (isSt_len (by simp)))
    | cons x0 ys =>
      obtain ⟨d0, es, rfl, D0, A1⟩ := A'.head
      have n9 := nine _ rfl
      rw [List.length_cons] at n9
      have yl := A1.len
      refine iteF ?_
      have ha1 := ha.same s1
      refine ⟨_, rfl, a, _, _, _, rfl, rfl, .inl ha1, at_of (j := 0) rfl rfl, _, _, _, _, isS d0, rfl, .ty "str", (D0.same s1).tyx, kitS d0, isS d0, rfl, ?_⟩
      cases d0 with
      | str x =>
        refine iteF ?_
        cases D0.str_of
        refine ⟨_, rfl, a, _, _, _, rfl, rfl, .inl ha1, at_of (j := 0) rfl rfl, _, rfl, 1, rfl, a, _, rfl, .inl ha1, cut_part _ _, fun g hg => ?_⟩
        rw [cut_tail]
        have s2 := same_new hg (.tup ys)
        have hg2 : (upd H1 g (.tup ys)) g = some (.tup ys) := upd_same
        have s12 := s1.trans s2
        generalize upd H1 g (.tup ys) = H2 at s2 hg2 s12 ⊢
        refine ⟨_, _, rfl, _, rfl, g, _, rfl, .inr (.inl (.inl hg2)), fun p2 hp2 => ?_⟩
        refine ⟨upd_same, wordsW, rfl, by decide, ?_⟩
        rw [upd_upd]
        have s3 := same_new hp2 (.dK (mergeK [] wordsW))
        have hp3 : (upd H2 p2 (.dK (mergeK [] wordsW))) p2 = some (.dK (mergeK [] wordsW)) := upd_same
        have s13 := s12.trans s3
        have hg3 := s3 _ _ hg2
        generalize upd H2 p2 (.dK (mergeK [] wordsW)) = H3 at s3 hp3 s13 hg3 ⊢
        refine ⟨p2, rfl, .inl ⟨_, .inl hp3⟩, _, rfl, _, DGet.k (k := .inr x) hp3, ?_⟩
        rw [arW_at]
        refine ⟨rfl, !decide (V.int ((ys.length : Nat) : Int) = V.int (arW x : Nat)), rfl, ?_⟩
        by_cases he : ys.length = arW x
        · rw [decide_eq_true (by rw [he])]
          have hl : es.length = arW x := by omega
          refine iteF ⟨_, rfl, (by show 2 ≤ sizeLine; decide), fun g3 hg3' => ⟨g3, _, rfl, .inr (.inl (.inl upd_same)), rfl, rfl, decide (x = "split" ∨ x = "use"), by rw [← su_in]; rfl, ?_⟩⟩
          have s4 := same_new hg3' (.tup [V.str "split", V.str "use"])
          have hg4 := s4 _ _ hg3
          have s14 := s13.trans s4
          have B1 := A1.same s14
          generalize upd H3 g3 (.tup [V.str "split", V.str "use"]) = H4 at s4 hg4 s14 B1 ⊢
          clear s1 s2 s3 s4 s12 s13 hg2 hg3 hp3 ha1
          have bs : ("by" : Str) ≠ "split" := by decide +kernel
          have bu : ("by" : Str) ≠ "use" := by decide +kernel
          have bc : ("by" : Str) ≠ "cut" := by decide +kernel
          have cs : ("cut" : Str) ≠ "split" := by decide +kernel
          have cu : ("cut" : Str) ≠ "use" := by decide +kernel
          by_cases hsu : x = "split" ∨ x = "use"
          · rw [decide_eq_true hsu]
            have h1 : arW x = 1 := by rcases hsu with rfl | rfl <;> decide +kernel
            rw [h1] at hl
            match es, ys, B1, hl with
            | [e], [y], B1, _ =>
              obtain ⟨_, _, e', E1, _⟩ := B1.head
              injection e' with e1 e2
              subst e1 e2
              have it : IsSt (.tuple [.str x, e]) ↔ IsPl e := ⟨fun h => by
                rcases h with ⟨h, _⟩ | ⟨_, h⟩
                · injection h with h; subst h; exact absurd hsu (fun z => z.elim cs cu)
                · exact h, fun h => .inr ⟨hsu.imp (fun z => by rw [z]) (fun z => by rw [z]), h⟩⟩
              refine iteT ⟨_, rfl, g, _, _, _, rfl, rfl, .inl (.inl hg4), at_of (j := 0) rfl rfl, _, _, _, _, isI e, rfl, .ty "int", E1.tyx, kitI e, isI e, rfl, ?_⟩
              cases e with
              | int n =>
                cases E1.int_of
                refine iteT ⟨_, rfl, g, _, _, _, rfl, rfl, .inl (.inl hg4), at_of (j := 0) rfl rfl, _, _, _, _, false, rfl, .ty "bool", E1.tyx, kitB' _, false, rfl, true, rfl, iteT ?_⟩
                refine ⟨_, rfl, g, _, _, _, rfl, rfl, .inl (.inl hg4), at_of (j := 0) rfl rfl, _, _, rfl, rfl, q (decide ((0 : Int) ≤ n)) H4 ?_ s14⟩
                rw [decide_eq_true_iff, it]
                exact ⟨fun h => ⟨n, rfl, h⟩, fun h => by obtain ⟨m, z, h⟩ := (h); injection z with z; subst z; exact h⟩
              | bool c =>
                refine iteT ⟨_, rfl, g, _, _, _, rfl, rfl, .inl (.inl hg4), at_of (j := 0) rfl rfl, _, _, _, _, true, rfl, .ty "bool", E1.tyx, kitB' _, true, rfl, false, rfl, iteF ?_⟩
                exact no s14 (fun h => by obtain ⟨m, z, _⟩ := (it.mp h); cases z)
              | _ => exact iteF (no s14 (fun h => by obtain ⟨m, z, _⟩ := (it.mp h); cases z))
          · rw [decide_eq_false hsu]
            refine iteF ⟨_, rfl, rfl, decide (V.str x = V.str "cut"), rfl, ?_⟩
            by_cases hc : x = "cut"
            · rw [decide_eq_true (by rw [hc])]
              subst hc
              rw [show arW "cut" = 1 by decide +kernel] at hl
              match es, ys, B1, hl with
              | [e], [y], B1, _ =>
                obtain ⟨_, _, e', E1, _⟩ := B1.head
                injection e' with e1 e2
                subst e1 e2
                have ok1 := ok.tup e (by simp)
                have it : IsSt (.tuple [.str "cut", e]) ↔ IsAm e := ⟨fun h => by
                  rcases h with ⟨_, h⟩ | ⟨h | h, _⟩
                  · exact h
                  · injection h with h; exact absurd h cs
                  · injection h with h; exact absurd h cu, fun h => .inl ⟨rfl, h⟩⟩
                exact iteT ⟨_, rfl, g, _, _, _, rfl, rfl, .inl (.inl hg4), at_of (j := 0) rfl rfl, b, y, e, rfl, E1, ok1.ok, ok1.sz, ok1.sh.am, fun r H5 hr5 s5 => q r H5 (hr5.trans it.symm) (s14.trans s5)⟩
            · rw [decide_eq_false (fun z => hc (by injection z))]
              refine iteF ⟨_, rfl, rfl, decide (V.str x = V.str "by"), rfl, ?_⟩
              by_cases hb : x = "by"
              · rw [decide_eq_true (by rw [hb])]
                subst hb
                rw [show arW "by" = 0 by decide +kernel] at hl
                obtain rfl := List.length_eq_zero_iff.mp hl
                refine iteT ⟨_, rfl, rfl, ?_⟩
                exact q (decide (V.str "by" = V.str "by")) H4 ⟨fun _ => (rfl : PyData.str "by" = .str "by"), fun _ => decide_eq_true rfl⟩ s14
              · rw [decide_eq_false (fun z => hb (by injection z))]
                obtain ⟨h2, hw⟩ := arW_two (x := x) (by omega) hsu hc hb
                rw [h2] at hl
                match es, ys, B1, hl with
                | [e, f'], [y, z'], B1, _ =>
                  obtain ⟨_, _, e', E1, B2⟩ := B1.head
                  injection e' with e1 e2
                  subst e1 e2
                  obtain ⟨_, _, e', E2, _⟩ := B2.head
                  injection e' with e1 e2
                  subst e1 e2
                  have ok1 := ok.tup e (by simp)
                  have ok2 := ok.tup f' (by simp)
                  have bd : IsSt (.tuple [.str x, e, f']) → IsBdD f' := fun h => by rcases h with ⟨_, _, h⟩ | ⟨_, _, h⟩ | ⟨_, _, h⟩ <;> exact h
                  refine iteF ⟨_, rfl, g, _, _, _, rfl, rfl, .inl (.inl hg4), at_of (j := 1) rfl rfl, b, z', f', rfl, E2, ok2, fun r H5 hr5 s5 => ⟨r, rfl, ?_⟩⟩
                  have hg4 := s5 _ _ hg4
                  have E1 := E1.same s5
                  have s14 := s14.trans s5
                  clear s5
                  cases r with
                  | false =>
                    refine iteT ⟨_, rfl, rfl, ?_⟩
                    rw [decide_eq_false (fun z => hb (by injection z))]
                    refine no s14 fun h => ?_
                    have := hr5.mpr (bd h)
                    cases this
                  | true =>
                    have bdt := hr5.mp rfl
                    have H4 := H5
                    refine iteF ⟨_, rfl, rfl, decide (V.str x = V.str "back"), rfl, ?_⟩
                    by_cases hk : x = "back"
                    · rw [decide_eq_true (by rw [hk])]
                      have it : IsSt (.tuple [.str x, e, f']) ↔ IsPl e := ⟨fun h => by
                        subst hk
                        rcases h with ⟨_, h, _⟩ | ⟨h, _⟩ | ⟨h, _⟩
                        · exact h
                        · injection h with h; exact absurd h (by decide +kernel)
                        · injection h with h; exact absurd h (by decide +kernel), fun h => .inl ⟨by rw [hk], h, bdt⟩⟩
                      refine iteT ⟨_, rfl, g, _, _, _, rfl, rfl, .inl (.inl hg4), at_of (j := 0) rfl rfl, _, _, _, _, isI e, rfl, .ty "int", E1.tyx, kitI e, isI e, rfl, ?_⟩
                      cases e with
                      | int n =>
                        cases E1.int_of
                        refine iteT ⟨_, rfl, g, _, _, _, rfl, rfl, .inl (.inl hg4), at_of (j := 0) rfl rfl, _, _, _, _, false, rfl, .ty "bool", E1.tyx, kitB' _, false, rfl, true, rfl, iteT ?_⟩
                        refine ⟨_, rfl, g, _, _, _, rfl, rfl, .inl (.inl hg4), at_of (j := 0) rfl rfl, _, _, rfl, rfl, q (decide ((0 : Int) ≤ n)) H5 ?_ s14⟩
                        rw [decide_eq_true_iff, it]
                        exact ⟨fun h => ⟨n, rfl, h⟩, fun h => by obtain ⟨m, z, h⟩ := (h); injection z with z; subst z; exact h⟩
                      | bool c =>
                        refine iteT ⟨_, rfl, g, _, _, _, rfl, rfl, .inl (.inl hg4), at_of (j := 0) rfl rfl, _, _, _, _, true, rfl, .ty "bool", E1.tyx, kitB' _, true, rfl, false, rfl, iteF ?_⟩
                        exact no s14 (fun h => by obtain ⟨m, z, _⟩ := (it.mp h); cases z)
                      | _ => exact iteF (no s14 (fun h => by obtain ⟨m, z, _⟩ := (it.mp h); cases z))
                    · rw [decide_eq_false (fun z => hk (by injection z))]
                      refine iteF ⟨_, rfl, rfl, decide (V.str x = V.str "as"), rfl, ?_⟩
                      by_cases ha' : x = "as"
                      · rw [decide_eq_true (by rw [ha'])]
                        have it : IsSt (.tuple [.str x, e, f']) ↔ IsSy e := ⟨fun h => by
                          rcases h with ⟨h, _⟩ | ⟨_, h, _⟩ | ⟨h, _⟩
                          · injection h with h; exact absurd h hk
                          · exact h
                          · subst ha'; injection h with h; exact absurd h (by decide +kernel), fun h => .inr (.inl ⟨by rw [ha'], h, bdt⟩)⟩
                        exact iteT ⟨_, rfl, g, _, _, _, rfl, rfl, .inl (.inl hg4), at_of (j := 0) rfl rfl, b, y, e, rfl, E1, ok1, fun r H6 hr6 s6 => q r H6 (hr6.trans it.symm) (s14.trans s6)⟩
                      · rw [decide_eq_false (fun z => ha' (by injection z))]
                        have hl' : x = "lean" := by rcases hw with h | h | h; exact absurd h hk; exact absurd h ha'; exact h
                        have it : IsSt (.tuple [.str x, e, f']) ↔ IsNm e := ⟨fun h => by
                          rcases h with ⟨h, _⟩ | ⟨h, _⟩ | ⟨_, h, _⟩
                          · injection h with h; exact absurd h hk
                          · injection h with h; exact absurd h ha'
                          · exact h, fun h => .inr (.inr ⟨by rw [hl'], h, bdt⟩)⟩
                        exact iteF ⟨_, rfl, g, _, _, _, rfl, rfl, .inl (.inl hg4), at_of (j := 0) rfl rfl, b, y, e, rfl, E1, fun x hx => by subst hx; exact ok1.sh.str, fun r H6 hr6 s6 => q r H6 (hr6.trans it.symm) (s14.trans s6)⟩
        · rw [decide_eq_false (fun z => he (by injection z with z; omega))]
          exact iteT (no s13 fun z => he (by have := isSt_ar z; omega))
      | _ => exact iteT (no s1 (fun z => by
          match es, z with
          | [], z => exact nomatch (show _ = PyData.str "by" from z)
          | [_], z => rcases z with ⟨z, _⟩ | ⟨z | z, _⟩ <;> cases z
          | [_, _], z => rcases z with ⟨z, _⟩ | ⟨z, _⟩ | ⟨z, _⟩ <;> cases z
          | _ :: _ :: _ :: _, z => exact z))
  | _ => exact iteT (no (Same.refl H) fun z => z)
end
end Rp

set_option maxHeartbeats 8000000
/-! How deep, wide and long data may be. -/
namespace Rp
open PySem PySem.Spec PyProof.Rows L2 TL RZ StX
mutual
/-- widths to W, texts to L, of ASCII signs, ints to 1000 + L -/
def shG (W L : Nat) : PyData → Prop
  | .str x => x.length ≤ L ∧ (∀ c ∈ tl x, c < 128) | .int n => -((1000 + L : Nat) : Int) ≤ n ∧ n ≤ ((1000 + L : Nat) : Int) | .list ds => ds.length ≤ W ∧ shGs W L ds | .tuple ds => ds.length ≤ W ∧ shGs W L ds | _ => True
def shGs (W L : Nat) : List PyData → Prop
  | [] => True
  | d :: ds => shG W L d ∧ shGs W L ds
end
theorem shGs_iff {W L : Nat} : ∀ {ds : List PyData}, shGs W L ds ↔ ∀ d ∈ ds, shG W L d
  | [] => by simp [shGs]
  | d :: ds => by simp only [shGs, shGs_iff (ds := ds), List.mem_cons, forall_eq_or_imp]
theorem shG_tup {W L : Nat} {ds : List PyData} : shG W L (.tuple ds) ↔ ds.length ≤ W ∧ ∀ d ∈ ds, shG W L d := by
  rw [← shGs_iff]; simp only [shG]
theorem shG_list {W L : Nat} {ds : List PyData} : shG W L (.list ds) ↔ ds.length ≤ W ∧ ∀ d ∈ ds, shG W L d := by
  rw [← shGs_iff]; simp only [shG]
mutual
theorem shG.more {W L W' L' : Nat} (hW : W ≤ W') (hL : L ≤ L') : ∀ {d : PyData}, shG W L d → shG W' L' d
  | .str x, h => by unfold shG at h ⊢; exact ⟨Nat.le_trans h.1 hL, h.2⟩
  | .int n, h => by unfold shG at h ⊢; omega
  | .list ds, h => by unfold shG at h ⊢; exact ⟨Nat.le_trans h.1 hW, shGs.more hW hL h.2⟩
  | .tuple ds, h => by unfold shG at h ⊢; exact ⟨Nat.le_trans h.1 hW, shGs.more hW hL h.2⟩
  | .none, _ => by unfold shG; trivial
  | .bool _, _ => by unfold shG; trivial
  | .dict _, _ => by unfold shG; trivial
theorem shGs.more {W L W' L' : Nat} (hW : W ≤ W') (hL : L ≤ L') : ∀ {ds : List PyData}, shGs W L ds → shGs W' L' ds
  | [], _ => by unfold shGs; trivial
  | d :: ds, h => by unfold shGs at h ⊢; exact ⟨shG.more hW hL h.1, shGs.more hW hL h.2⟩
end
mutual
theorem shG.sh {W L : Nat} (hW : W ≤ 60) (hL : L ≤ 1000) : ∀ {d : PyData}, shG W L d → shS d
  | .str x, h => by unfold shG at h; unfold shS; exact Nat.le_trans h.1 hL
  | .int n, h => by unfold shS; trivial
  | .list ds, h => by unfold shG at h; unfold shS; exact ⟨by omega, shGs.sh hW hL h.2⟩
  | .tuple ds, h => by unfold shG at h; unfold shS; exact ⟨by omega, shGs.sh hW hL h.2⟩
  | .none, _ => by unfold shS; trivial
  | .bool _, _ => by unfold shS; trivial
  | .dict _, _ => by unfold shS; trivial
theorem shGs.sh {W L : Nat} (hW : W ≤ 60) (hL : L ≤ 1000) : ∀ {ds : List PyData}, shGs W L ds → shAll ds
  | [], _ => by unfold shAll; trivial
  | d :: ds, h => by unfold shGs at h; unfold shAll; exact ⟨shG.sh hW hL h.1, shGs.sh hW hL h.2⟩
end
/-- fine: may be laid, to depth k, width W, texts L -/
structure Fq (k W L : Nat) (d : PyData) : Prop where
  lay : d.canLay0 = true
  dp : d.depth ≤ k
  sh : shG W L d
theorem Fq.more {k W L k' W' L' : Nat} {d : PyData} (h : Fq k W L d) (hk : k ≤ k') (hW : W ≤ W') (hL : L ≤ L') : Fq k' W' L' d := ⟨h.lay, Nat.le_trans h.dp hk, h.sh.more hW hL⟩
theorem Fq.dok {k W L : Nat} {d : PyData} (h : Fq k W L d) (hk : k ≤ 60) (hW : W ≤ 60) (hL : L ≤ 1000) (hn : nd d ≤ 1000) : DOk d := ⟨⟨h.lay, Nat.le_trans h.dp hk⟩, hn, h.sh.sh hW hL⟩
theorem fq_tup {k W L : Nat} {ds : List PyData} : Fq (k + 1) W L (.tuple ds) ↔ ds.length ≤ W ∧ ∀ d ∈ ds, Fq k W L d := by
  constructor
  · rintro ⟨h1, h2, h3⟩
    have h3 := shG_tup.mp h3
    have h1 : PyData.canLayAll0 ds = true := h1
    have h2 : PyData.depthAll ds + 1 ≤ k + 1 := h2
    exact ⟨h3.1, fun d hd => ⟨(okAll h1 k (by omega) d hd).1, (okAll h1 k (by omega) d hd).2, h3.2 d hd⟩⟩
  · rintro ⟨h1, h2⟩
    have z := lay_all (k := k) fun d hd => ⟨(h2 d hd).lay, (h2 d hd).dp⟩
    exact ⟨z.1, (by show PyData.depthAll ds + 1 ≤ k + 1; omega), shG_tup.mpr ⟨h1, fun d hd => (h2 d hd).sh⟩⟩
theorem fq_list {k W L : Nat} {ds : List PyData} : Fq (k + 1) W L (.list ds) ↔ ds.length ≤ W ∧ ∀ d ∈ ds, Fq k W L d := by
  constructor
  · rintro ⟨h1, h2, h3⟩
    have h3 := shG_list.mp h3
    have h1 : PyData.canLayAll0 ds = true := h1
    have h2 : PyData.depthAll ds + 1 ≤ k + 1 := h2
    exact ⟨h3.1, fun d hd => ⟨(okAll h1 k (by omega) d hd).1, (okAll h1 k (by omega) d hd).2, h3.2 d hd⟩⟩
  · rintro ⟨h1, h2⟩
    have z := lay_all (k := k) fun d hd => ⟨(h2 d hd).lay, (h2 d hd).dp⟩
    exact ⟨z.1, (by show PyData.depthAll ds + 1 ≤ k + 1; omega), shG_list.mpr ⟨h1, fun d hd => (h2 d hd).sh⟩⟩
/-- an item put in place of another -/
theorem ndAll_set : ∀ {ds : List PyData} {i : Nat} {e : PyData}, ndAll (ds.set i e) ≤ ndAll ds + nd e
  | [], _, _ => by simp [ndAll]
  | d :: ds, 0, e => by simp only [List.set_cons_zero, ndAll]; omega
  | d :: ds, i + 1, e => by have := ndAll_set (ds := ds) (i := i) (e := e); simp only [List.set_cons_succ, ndAll]; omega
theorem ndAll_erase : ∀ {ds : List PyData} {i : Nat}, ndAll (ds.eraseIdx i) ≤ ndAll ds
  | [], _ => by simp [ndAll]
  | d :: ds, 0 => by simp only [List.eraseIdx_cons_zero, ndAll]; omega
  | d :: ds, i + 1 => by have := ndAll_erase (ds := ds) (i := i); simp only [List.eraseIdx_cons_succ, ndAll]; omega
theorem ndAll_back : ∀ {ds : List PyData}, ndAll ds.reverse = ndAll ds
  | [] => rfl
  | d :: ds => by rw [List.reverse_cons, ndAll_append, ndAll_back]; simp only [ndAll]; omega
theorem ndAll_cut {ds : List PyData} {i : Nat} : ndAll (ds.take i) + ndAll (ds.drop i) = ndAll ds := by
  rw [← ndAll_append, List.take_append_drop]
end Rp

set_option maxHeartbeats 8000000
/-! What a bend makes of a text or an int. -/
namespace Rp
open PySem PySem.Spec PyProof.Rows L2 TL RZ StX
/-- a text of few ASCII signs -/
def Asc (L : Nat) (x : Str) : Prop := x.length ≤ L ∧ ∀ c ∈ tl x, c < 128
theorem Asc.fq {k W L : Nat} {x : Str} (h : Asc L x) : Fq k W L (.str x) := by
  refine ⟨?_, Nat.zero_le _, ?_⟩
  · show x.cps.all (· < 0x110000) = true
    rw [Array.all_eq_true']
    intro c hc
    have := h.2 c (Array.mem_toList_iff.mpr hc)
    exact decide_eq_true (by omega)
  · unfold shG; exact h
theorem Fq.asc {k W L : Nat} {x : Str} (h : Fq k W L (.str x)) : Asc L x := by
  have := h.sh
  unfold shG at this
  exact this
theorem Asc.more {L L' : Nat} {x : Str} (h : Asc L x) (hL : L ≤ L') : Asc L' x := ⟨Nat.le_trans h.1 hL, h.2⟩
theorem asc_upper {L : Nat} {x : Str} (h : Asc L x) : Asc L (Txt.upper x) := by
  rw [upper_ascii h.2]
  refine ⟨?_, fun c hc => ?_⟩
  · show (Array.map up1 x.cps).size ≤ L
    rw [Array.size_map]
    exact h.1
  · have hc : c ∈ (Array.map up1 x.cps).toList := hc
    rw [Array.toList_map] at hc
    obtain ⟨e, he, rfl⟩ := List.mem_map.mp hc
    have := h.2 e he
    unfold up1
    split <;> omega
theorem asc_add {L M : Nat} {x y : Str} (h : Asc L x) (h' : Asc M y) : Asc (L + M) (x ++ y) := by
  refine ⟨?_, fun c hc => ?_⟩
  · show (x.cps ++ y.cps).size ≤ L + M
    rw [Array.size_append]
    have h1 : x.cps.size ≤ L := h.1
    have h2 : y.cps.size ≤ M := h'.1
    omega
  · have hc : c ∈ (x.cps ++ y.cps).toList := hc
    rw [Array.toList_append] at hc
    rcases List.mem_append.mp hc with hc | hc
    · exact h.2 c hc
    · exact h'.2 c hc
theorem asc_cut {L : Nat} {x : Str} {lo hi : Option Int} (h : Asc L x) : Asc L (cutS x lo hi) := by
  have sub : ∀ c ∈ tl (cutS x lo hi), c ∈ tl x := fun c hc => by
    have hc : c ∈ (List.take (HT.sIx x.length x.length hi - HT.sIx x.length 0 lo) (List.drop (HT.sIx x.length 0 lo) x.cps.toList)).toArray.toList := hc
    rw [List.toList_toArray] at hc
    exact List.mem_of_mem_drop (List.mem_of_mem_take hc)
  refine ⟨?_, fun c hc => h.2 c (sub c hc)⟩
  have h1 : x.cps.size ≤ L := h.1
  show (List.take (HT.sIx x.length x.length hi - HT.sIx x.length 0 lo) (List.drop (HT.sIx x.length 0 lo) x.cps.toList)).toArray.size ≤ L
  rw [List.size_toArray, List.length_take, List.length_drop, Array.length_toList]
  omega
theorem fq_int {k W L : Nat} {n : Int} (h : -((1000 + L : Nat) : Int) ≤ n ∧ n ≤ ((1000 + L : Nat) : Int)) : Fq k W L (.int n) := ⟨rfl, Nat.zero_le _, by unfold shG; exact h⟩
theorem Fq.int {k W L : Nat} {n : Int} (h : Fq k W L (.int n)) : -((1000 + L : Nat) : Int) ≤ n ∧ n ≤ ((1000 + L : Nat) : Int) := by
  have := h.sh
  unfold shG at this
  exact this
theorem asc_int {n : Int} (h : -1000000 ≤ n ∧ n ≤ 1000000) : Asc 9 (Str.ofString (toString n)) := by
  refine ⟨?_, ?_⟩
  · rw [PySem.ofString_length]
    exact Nat.le_trans (int_text_length_le10 (a := n) (k := 8) (by decide) (by omega)) (by decide)
  · cases n with
    | ofNat k =>
      intro c hc
      have e : tl (Str.ofString (toString (Int.ofNat k))) = numL k := tl_num k
      rw [e] at hc
      have := numL_digits k c hc
      omega
    | negSucc k =>
      intro c hc
      have e : tl (Str.ofString (toString (Int.negSucc k))) = 45 :: tl (Str.ofString (toString (((k + 1 : Nat) : Int)))) := by
        rw [TL.tl_ofString, TL.tl_ofString]
        show List.map Char.toNat ("-" ++ toString (k + 1)).toList = _
        rw [String.toList_append]
        rfl
      rw [e, tl_num] at hc
      rcases List.mem_cons.mp hc with hc | hc
      · omega
      · have := numL_digits (k + 1) c hc
        omega
end Rp

set_option maxHeartbeats 8000000
/-! Displays of data; the odd things of _law_otherwise. -/
namespace Rp
open PySem PySem.Spec PyProof.Rows L2 TL RZ StX
mutual
inductive Lq where
  | non
  | bl (b : Bool)
  | i (n : Int)
  | m (n : Int)
  | s (x : Str)
  | t (l : Lqs)
  | l (l : Lqs)
inductive Lqs where
  | nil
  | cons (a : Lq) (r : Lqs)
end
mutual
def Lq.te : Lq → TE
  | .non => tC .non
  | .bl b => tC (.bl b)
  | .i n => tC (.int n)
  | .m n => tUn (rU fun i => .int (-i)) (tC (.int n))
  | .s x => tC (.str x)
  | .t l => tTup l.ta
  | .l l => tLst l.ta
def Lqs.ta : Lqs → TA
  | .nil => tNil
  | .cons a r => tCons a.te r.ta
end
mutual
def Lq.d : Lq → PyData
  | .non => .none
  | .bl b => .bool b
  | .i n => .int n
  | .m n => .int (-n)
  | .s x => .str x
  | .t l => .tuple l.ds
  | .l l => .list l.ds
def Lqs.ds : Lqs → List PyData
  | .nil => []
  | .cons a r => a.d :: r.ds
end
def Lqs.len : Lqs → Nat
  | .nil => 0
  | .cons _ r => r.len + 1
mutual
def Lq.ok : Lq → Prop
  | .t l => l.len ≤ 1000 ∧ l.ok
  | .l l => l.len ≤ 1000 ∧ l.ok
  | _ => True
def Lqs.ok : Lqs → Prop
  | .nil => True
  | .cons a r => a.ok ∧ r.ok
end
theorem Lqs.ds_len : ∀ l : Lqs, l.ds.length = l.len
  | .nil => rfl
  | .cons _ r => congrArg (· + 1) r.ds_len
/-- no new list stands at b -/
def Apart (H H' : Hp) (b : Addr) : Prop := H' b = none ∨ ∃ o, H b = some o
theorem Apart.less {H H1 H' : Hp} {b : Addr} (s : Same H1 H') (h : Apart H H' b) : Apart H H1 b := h.imp (fun z => by
  cases e : H1 b with
  | none => rfl
  | some o => rw [s _ _ e] at z; cases z) id
theorem Apart.step {H H1 H' : Hp} {b : Addr} (s : Same H H1) (h : Apart H H' b) : Apart H1 H' b := h.imp id fun ⟨o, e⟩ => ⟨o, s _ _ e⟩
theorem Apart.ne {H H1 : Hp} {b p : Addr} {o : HO} (s : Same H H1) (hp : H1 p = none) (h : Apart H (upd H1 p o) b) : p ≠ b := by
  rintro rfl
  rcases h with h | ⟨u, h⟩
  · rw [upd_same] at h; cases h
  · rw [s _ _ h] at hp; cases hp
mutual
theorem Lq.run {σ : L2.St} : ∀ (L : Lq) {H : Hp} {Q : V → Hp → Prop}, L.ok → (∀ (v : V) (H' : Hp), (∀ b, Apart H H' b → DAt H' b v L.d) → Same H H' → Q v H') → L.te σ H Q
  | .non, H, Q, _, q => q _ H (fun b _ => by unfold Lq.d DAt; rfl) (Same.refl H)
  | .bl c, H, Q, _, q => q _ H (fun b _ => by unfold Lq.d DAt; rfl) (Same.refl H)
  | .i n, H, Q, _, q => q _ H (fun b _ => by unfold Lq.d DAt; rfl) (Same.refl H)
  | .m n, H, Q, _, q => ⟨n, rfl, q _ H (fun b _ => by unfold Lq.d DAt; rfl) (Same.refl H)⟩
  | .s x, H, Q, _, q => q _ H (fun b _ => by unfold Lq.d DAt; rfl) (Same.refl H)
  | .t l, H, Q, ⟨hl, ho⟩, q => Lqs.run l ho fun xs H1 hn hx s1 => by
    have big : (1000 : Nat) ≤ sizeLine := by decide
    refine ⟨by rw [hn]; exact Nat.le_trans hl big, fun p hp => ?_⟩
    have s2 := same_new hp (.tup xs)
    exact q _ _ (fun b hb => by unfold Lq.d DAt; exact ⟨p, xs, rfl, .inl upd_same, (hx b (hb.less s2)).same s2⟩) (s1.trans s2)
  | .l l, H, Q, ⟨hl, ho⟩, q => Lqs.run l ho fun xs H1 hn hx s1 => by
    have big : (1000 : Nat) ≤ sizeLine := by decide
    refine ⟨by rw [hn]; exact Nat.le_trans hl big, fun p hp => ?_⟩
    have s2 := same_new hp (.lst xs)
    exact q _ _ (fun b hb => by unfold Lq.d DAt; exact ⟨p, xs, rfl, hb.ne s1 hp, upd_same, (hx b (hb.less s2)).same s2⟩) (s1.trans s2)
theorem Lqs.run {σ : L2.St} : ∀ (L : Lqs) {H : Hp} {Q : List V → Hp → Prop}, L.ok → (∀ (v : List V) (H' : Hp), v.length = L.len → (∀ b, Apart H H' b → DAtAll H' b v L.ds) → Same H H' → Q v H') → L.ta σ H Q
  | .nil, H, Q, _, q => q _ H rfl (fun b _ => by unfold Lqs.ds; exact DAtAll.nil) (Same.refl H)
  | .cons a r, H, Q, ⟨h1, h2⟩, q => Lq.run a h1 fun v H1 hv s1 => Lqs.run r h2 fun xs H2 hn hx s2 =>
    q _ _ (congrArg (· + 1) hn) (fun b hb => by unfold Lqs.ds; exact DAtAll.cons ((hv b (hb.less s2)).same s2) (hx b (hb.step s1))) (s1.trans s2)
end
theorem Lq.runE {σ : L2.St} (L : Lq) (te : TE) (e : L.te = te) {H : Hp} {Q : V → Hp → Prop} (h : L.ok) (q : ∀ (v : V) (H' : Hp), (∀ b, Apart H H' b → DAt H' b v L.d) → Same H H' → Q v H') : te σ H Q := e ▸ Lq.run L h q
theorem seq_asg {te : TE} {g : TG} {rest : TS} {D : Ends} {σ : L2.St} {H : Hp} (h : te σ H fun v H1 => g v σ H1 fun σ2 H2 => rest D σ2 H2) : tSeq (tAsg te g) rest D σ H := h
def oddL : Lq := .l (.cons (.non) (.cons (.bl true) (.cons (.bl false) (.cons (.m 1) (.cons (.i 100) (.cons (.i 99) (.cons (.i 0) (.cons (.i 1) (.cons (.s "") (.cons (.s "s") (.cons (.s "f") (.cons (.s "0") (.cons (.s "if") (.cons (.s "nat") (.cons (.s "natural") (.cons (.t .nil) (.cons (.l .nil) (.cons (.t (.cons (.s "0") .nil)) (.cons (.l (.cons (.s "0") .nil)) (.nil))))))))))))))))))))
def oddDs : List PyData := match oddL.d with | .list ds => ds | _ => []
theorem odd_len : oddDs.length = 19 := rfl
theorem oddL_ok : oddL.ok := by simp [oddL, Lq.ok, Lqs.ok, Lqs.len]
theorem asc_of {L : Nat} {x : Str} (h : (decide (x.length ≤ L) && (tl x).all (fun c => decide (c < 128))) = true) : Asc L x := by
  rw [Bool.and_eq_true, decide_eq_true_iff, List.all_eq_true] at h
  exact ⟨h.1, fun c hc => of_decide_eq_true (h.2 c hc)⟩
theorem fq_non {k W L : Nat} : Fq k W L .none := ⟨rfl, Nat.zero_le _, by unfold shG; trivial⟩
theorem fq_bl {k W L : Nat} {c : Bool} : Fq k W L (.bool c) := ⟨rfl, Nat.zero_le _, by unfold shG; trivial⟩
theorem odd_fq : ∀ e ∈ oddDs, Fq 1 1 7 e ∧ nd e ≤ 2 := by
  intro e he
  have he : e ∈ [PyData.none, .bool true, .bool false, .int (-1), .int 100, .int 99, .int 0, .int 1, .str "", .str "s", .str "f", .str "0", .str "if", .str "nat", .str "natural", .tuple [], .list [], .tuple [.str "0"], .list [.str "0"]] := he
  have n1 : ∀ x : Str, nd (.str x) ≤ 2 := fun x => by simp [nd]
  have i1 : ∀ n : Int, nd (.int n) ≤ 2 := fun x => by simp [nd]
  have z : Fq 0 1 7 (.str "0") := Asc.fq (asc_of (by decide +kernel))
  simp only [List.mem_cons, List.not_mem_nil, or_false] at he
  rcases he with rfl | rfl | rfl | rfl | rfl | rfl | rfl | rfl | rfl | rfl | rfl | rfl | rfl | rfl | rfl | rfl | rfl | rfl | rfl
  · exact ⟨fq_non, by simp [nd]⟩
  · exact ⟨fq_bl, by simp [nd]⟩
  · exact ⟨fq_bl, by simp [nd]⟩
  · exact ⟨fq_int (by omega), i1 _⟩
  · exact ⟨fq_int (by omega), i1 _⟩
  · exact ⟨fq_int (by omega), i1 _⟩
  · exact ⟨fq_int (by omega), i1 _⟩
  · exact ⟨fq_int (by omega), i1 _⟩
  · exact ⟨Asc.fq (asc_of (by decide +kernel)), n1 _⟩
  · exact ⟨Asc.fq (asc_of (by decide +kernel)), n1 _⟩
  · exact ⟨Asc.fq (asc_of (by decide +kernel)), n1 _⟩
  · exact ⟨Asc.fq (asc_of (by decide +kernel)), n1 _⟩
  · exact ⟨Asc.fq (asc_of (by decide +kernel)), n1 _⟩
  · exact ⟨Asc.fq (asc_of (by decide +kernel)), n1 _⟩
  · exact ⟨Asc.fq (asc_of (by decide +kernel)), n1 _⟩
  · exact ⟨fq_tup.mpr ⟨by simp, by simp⟩, by simp [nd, ndAll]⟩
  · exact ⟨fq_list.mpr ⟨by simp, by simp⟩, by simp [nd, ndAll]⟩
  · exact ⟨fq_tup.mpr ⟨by simp, by simpa using z⟩, by simp [nd, ndAll]⟩
  · exact ⟨fq_list.mpr ⟨by simp, by simpa using z⟩, by simp [nd, ndAll]⟩
end Rp

set_option maxHeartbeats 8000000
/-! A row: a list or a tuple by turns, among data. -/
namespace Rp
open PySem PySem.Spec PyProof.Rows L2 TL RZ StX
def RowAt (H : Hp) (a : Addr) (kd : Bool) (xs : List V) : Prop := if kd = true then TupAt H a xs else H a = some (.lst xs)
def rowD (kd : Bool) (ds : List PyData) : PyData := if kd = true then .tuple ds else .list ds
theorem rowAt_sq {K : PySem.W.Frag} {H : Hp} {a : Addr} {kd : Bool} {xs : List V} (h : RowAt H a kd xs) : SqL K H a xs ∨ SqT K H a xs := by
  cases kd with
  | true => exact .inr (.inl h)
  | false => exact .inl (.inl (.inl h))
theorem RowAt.same {H H' : Hp} {a : Addr} {kd : Bool} {xs : List V} (s : Same H H') (h : RowAt H a kd xs) : RowAt H' a kd xs := by
  cases kd with
  | true => exact TupAt.same s h
  | false => exact s _ _ h
theorem RowAt.but {H H' : Hp} {b a : Addr} {ys xs : List V} {kd : Bool} (o : But b H H') (hb : H b = some (.lst ys)) (ab : a ≠ b) (h : RowAt H a kd xs) : RowAt H' a kd xs := by
  cases kd with
  | true => exact TupAt.but o hb h
  | false => exact o _ _ h ab
theorem row_of {H : Hp} {b : Addr} {v : V} {d : PyData} {ys : List V} (D : DAt H b v d) (hb : H b = some (.lst ys)) (h : (isL d || isU d) = true) : ∃ (a : Addr) (xs : List V) (ds : List PyData) (kd : Bool), v = .ref a ∧ a ≠ b ∧ RowAt H a kd xs ∧ DAtAll H b xs ds ∧ d = rowD kd ds := by
  cases d with
  | list ds =>
    obtain ⟨a, xs, rfl, ab, ha, A⟩ := D.lst_of
    exact ⟨a, xs, ds, false, rfl, ab, ha, A, rfl⟩
  | tuple ds =>
    obtain ⟨a, xs, rfl, ha, A⟩ := D.tup_of
    refine ⟨a, xs, ds, true, rfl, ?_, ha, A, rfl⟩
    rintro rfl
    rcases ha with ha | ⟨o, ha⟩ <;> (rw [ha] at hb; cases hb)
  | _ => cases h
theorem rowD_U {kd : Bool} {ds : List PyData} : isU (rowD kd ds) = kd := by cases kd <;> rfl
theorem rowD_L {kd : Bool} {ds : List PyData} : isL (rowD kd ds) = !kd := by cases kd <;> rfl
theorem fq_row {k W L : Nat} {kd : Bool} {ds : List PyData} : Fq (k + 1) W L (rowD kd ds) ↔ ds.length ≤ W ∧ ∀ d ∈ ds, Fq k W L d := by
  cases kd with
  | true => exact fq_tup
  | false => exact fq_list
theorem nd_row {kd : Bool} {ds : List PyData} : nd (rowD kd ds) = ndAll ds + 1 := by cases kd <;> (unfold rowD; simp [nd])
theorem dp_row {kd : Bool} {ds : List PyData} : (rowD kd ds).depth = PyData.depthAll ds + 1 := by cases kd <;> rfl
/-- an item put in place of another, told exactly -/
theorem ndAll_put : ∀ {ds : List PyData} {i : Nat} {e d : PyData}, ds[i]? = some d → ndAll (ds.set i e) + nd d = ndAll ds + nd e
  | [], _, _, _, h => by simp at h
  | c :: ds, 0, e, d, h => by
    simp at h
    subst h
    simp only [List.set_cons_zero, ndAll]; omega
  | c :: ds, i + 1, e, d, h => by
    have := ndAll_put (ds := ds) (i := i) (e := e) (d := d) (by simpa using h)
    simp only [List.set_cons_succ, ndAll]; omega
theorem DAtAll.put {H : Hp} {b : Addr} {x : V} {e : PyData} (D : DAt H b x e) : ∀ {xs : List V} {ds : List PyData} {i : Nat}, DAtAll H b xs ds → DAtAll H b (xs.set i x) (ds.set i e)
  | [], ds, i, h => by
    have := h.len
    cases ds with
    | nil => simpa using h
    | cons => simp at this
  | y :: xs, ds, 0, h => by
    obtain ⟨d, ds', rfl, h1, h2⟩ := h.head
    exact .cons D h2
  | y :: xs, ds, i + 1, h => by
    obtain ⟨d, ds', rfl, h1, h2⟩ := h.head
    exact .cons h1 (DAtAll.put D h2)
theorem DAtAll.erase {H : Hp} {b : Addr} : ∀ {xs : List V} {ds : List PyData} {i : Nat}, DAtAll H b xs ds → DAtAll H b (xs.eraseIdx i) (ds.eraseIdx i)
  | [], ds, i, h => by
    have := h.len
    cases ds with
    | nil => simpa using h
    | cons => simp at this
  | y :: xs, ds, 0, h => by
    obtain ⟨d, ds', rfl, h1, h2⟩ := h.head
    exact h2
  | y :: xs, ds, i + 1, h => by
    obtain ⟨d, ds', rfl, h1, h2⟩ := h.head
    exact .cons h1 (DAtAll.erase h2)
theorem row_dat {H : Hp} {b a : Addr} {kd : Bool} {xs : List V} {ds : List PyData} (ab : a ≠ b) (h : RowAt H a kd xs) (A : DAtAll H b xs ds) : DAt H b (.ref a) (rowD kd ds) := by
  cases kd with
  | true => unfold rowD; rw [if_pos rfl]; unfold DAt; exact ⟨a, xs, rfl, h, A⟩
  | false => unfold rowD; rw [if_neg (by decide)]; unfold DAt; exact ⟨a, xs, rfl, ab, h, A⟩
end Rp

set_option maxHeartbeats 8000000
namespace Rp
open PySem PySem.Spec PyProof.Rows L2 TL RZ StX
/-- what avoided a list still does -/
def Av (H H' : Hp) (b : Addr) (v : V) (d : PyData) (v' : V) (d' : PyData) : Prop := ∀ c ys, c ≠ b → H c = some (.lst ys) → DAt H c v d → DAt H' c v' d'
theorem tupAt_one {H : Hp} {a : Addr} {xs ys : List V} (h : TupAt H a xs) (h' : TupAt H a ys) : xs = ys := by
  rcases h with h | ⟨o, h⟩
  · rcases h' with h' | ⟨o', h'⟩
    · rw [h] at h'; cases h'; rfl
    · rw [h] at h'; cases h'
  · rcases h' with h' | ⟨o', h'⟩
    · rw [h] at h'; cases h'
    · rw [h] at h'; cases h'; rfl
mutual
theorem DAt.both {H H' : Hp} {b c : Addr} (et : ∀ a xs, TupAt H a xs → TupAt H' a xs) (el : ∀ a xs, a ≠ b → a ≠ c → H a = some (.lst xs) → H' a = some (.lst xs)) : ∀ (d : PyData) {v : V}, DAt H b v d → DAt H c v d → DAt H' c v d
  | .none, _, h, _ => by unfold DAt at h ⊢; exact h
  | .bool _, _, h, _ => by unfold DAt at h ⊢; exact h
  | .int _, _, h, _ => by unfold DAt at h ⊢; exact h
  | .str _, _, h, _ => by unfold DAt at h ⊢; exact h
  | .list ds, _, h, h' => by
    unfold DAt at h h' ⊢
    obtain ⟨a, xs, rfl, n, q, q'⟩ := h
    obtain ⟨a', xs', e, n', p, p'⟩ := h'
    cases e
    rw [q] at p
    cases p
    exact ⟨a, xs, rfl, n', el _ _ n n' q, DAtAll.both et el ds q' p'⟩
  | .tuple ds, _, h, h' => by
    unfold DAt at h h' ⊢
    obtain ⟨a, xs, rfl, q, q'⟩ := h
    obtain ⟨a', xs', e, p, p'⟩ := h'
    cases e
    cases tupAt_one q p
    exact ⟨a, xs, rfl, et _ _ q, DAtAll.both et el ds q' p'⟩
  | .dict _, _, h, _ => by unfold DAt at h; exact h.elim
theorem DAtAll.both {H H' : Hp} {b c : Addr} (et : ∀ a xs, TupAt H a xs → TupAt H' a xs) (el : ∀ a xs, a ≠ b → a ≠ c → H a = some (.lst xs) → H' a = some (.lst xs)) : ∀ (ds : List PyData) {xs : List V}, DAtAll H b xs ds → DAtAll H c xs ds → DAtAll H' c xs ds
  | [], _, h, _ => by unfold DAtAll at h ⊢; exact h
  | d :: ds, _, h, h' => by
    unfold DAtAll at h h' ⊢
    obtain ⟨x, r, rfl, q, q'⟩ := h
    obtain ⟨x', r', e, p, p'⟩ := h'
    cases e
    exact ⟨x, r, rfl, DAt.both et el d q p, DAtAll.both et el ds q' p'⟩
end
mutual
theorem DAt.shift {H H' : Hp} {b c : Addr} (et : ∀ a xs, TupAt H a xs → TupAt H' a xs) (el : ∀ a xs, a ≠ b → H a = some (.lst xs) → a ≠ c ∧ H' a = some (.lst xs)) : ∀ (d : PyData) {v : V}, DAt H b v d → DAt H' c v d
  | .none, _, h => by unfold DAt at h ⊢; exact h
  | .bool _, _, h => by unfold DAt at h ⊢; exact h
  | .int _, _, h => by unfold DAt at h ⊢; exact h
  | .str _, _, h => by unfold DAt at h ⊢; exact h
  | .list ds, _, h => by
    unfold DAt at h ⊢
    obtain ⟨a, xs, rfl, n, q, q'⟩ := h
    exact ⟨a, xs, rfl, (el _ _ n q).1, (el _ _ n q).2, DAtAll.shift et el ds q'⟩
  | .tuple ds, _, h => by
    unfold DAt at h ⊢
    obtain ⟨a, xs, rfl, q, q'⟩ := h
    exact ⟨a, xs, rfl, et _ _ q, DAtAll.shift et el ds q'⟩
  | .dict _, _, h => by unfold DAt at h; exact h.elim
theorem DAtAll.shift {H H' : Hp} {b c : Addr} (et : ∀ a xs, TupAt H a xs → TupAt H' a xs) (el : ∀ a xs, a ≠ b → H a = some (.lst xs) → a ≠ c ∧ H' a = some (.lst xs)) : ∀ (ds : List PyData) {xs : List V}, DAtAll H b xs ds → DAtAll H' c xs ds
  | [], _, h => by unfold DAtAll at h ⊢; exact h
  | d :: ds, _, h => by
    unfold DAtAll at h ⊢
    obtain ⟨x, r, rfl, q, q'⟩ := h
    exact ⟨x, r, rfl, DAt.shift et el d q, DAtAll.shift et el ds q'⟩
end
theorem But.tup {b : Addr} {ys : List V} {H H' : Hp} (o : But b H H') (hb : H b = some (.lst ys)) : ∀ a xs, TupAt H a xs → TupAt H' a xs := fun a xs h => TupAt.but o hb h
theorem DAt.both_but {H H' : Hp} {b c : Addr} {ys : List V} (o : But b H H') (hb : H b = some (.lst ys)) {d : PyData} {v : V} (h : DAt H b v d) (h' : DAt H c v d) : DAt H' c v d := DAt.both (o.tup hb) (fun a xs n _ q => o _ _ q n) d h h'
theorem DAtAll.both_but {H H' : Hp} {b c : Addr} {ys : List V} (o : But b H H') (hb : H b = some (.lst ys)) {d : List PyData} {v : List V} (h : DAtAll H b v d) (h' : DAtAll H c v d) : DAtAll H' c v d := DAtAll.both (o.tup hb) (fun a xs n _ q => o _ _ q n) d h h'
theorem DAtAll.item {H : Hp} {b : Addr} {xs : List V} {ds : List PyData} {i : Nat} {x : V} {e : PyData} (A : DAtAll H b xs ds) (hx : xs[i]? = some x) (he : ds[i]? = some e) : DAt H b x e := by
  obtain ⟨e', h1, h2⟩ := A.get hx
  rw [he] at h1
  cases h1
  exact h2
abbrev NOt : List Str := ["_law_box_here", "_law_thing", "_law_at", "_law_parts", "_law_way", "_law_odd"]
def spOth (n : Nat) : Sp := fun vs H Q _ => ∃ (b : Addr) (v : V) (d : PyData) (j k W L N : Nat), vs = [.ref b, v] ∧ BoxAt H b j ∧ j + 3 * n ≤ 1000000 ∧ DAt H b v d ∧ Fq k W L d ∧ nd d ≤ N ∧ N ≤ 1000 ∧ L ≤ 1000 ∧ d.depth < n ∧
  ∀ (v' : V) (d' : PyData) (H' : Hp), DAt H' b v' d' → Av H H' b v d v' d' → Fq (k + 1) (W + 1) (L + 9) d' → nd d' ≤ 2 * N + 3 → BoxAt H' b (j + 3 * n) → But b H H' → Q v' H'
theorem log_few {m : Nat} (h : m ≤ 10000) : m.log2 < 1920 := by
  have h2 : m.log2 ≤ m := Nat.log2_le_self m
  rcases Nat.lt_or_ge m.log2 1920 with z | z
  · exact z
  · have h0 : m ≠ 0 := by omega
    have := (Nat.le_log2 h0).mp z
    have big : (10000 : Nat) < 2 ^ 1920 := by decide +kernel
    omega
theorem ix_at {xs : List V} {i : Nat} (h : i < xs.length) : ixN xs.length (i : Nat) = some i := by
  unfold ixN
  rw [if_pos (by omega), if_pos (by omega)]
  rfl
theorem seqIx_of {i n : Nat} (h : i < n) : seqIndex? (i : Nat) n = some i := by
  have h2 : ¬ ((i : Nat) : Int) < 0 := by omega
  simp [seqIndex?, h2, h]
theorem row_ix {K : PySem.W.Frag} {H : Hp} {a : Addr} {kd : Bool} {xs : List V} {i : Nat} {v : V} {Q : V → Hp → Prop} (h : RowAt H a kd xs) (e : xs[i]? = some v) (q : Q v H) : rIx K (.ref a) (.int (i : Nat)) H Q := by
  rcases rowAt_sq (K := K) h with h | h
  · exact .inl ⟨a, xs, _, v, rfl, rfl, h, at_of (j := i) rfl e, q⟩
  · exact .inr (.inl ⟨a, xs, _, v, rfl, rfl, h, at_of (j := i) rfl e, q⟩)
theorem mem_put {α : Type} {xs : List α} {i : Nat} {y x : α} (h : x ∈ xs.set i y) : x ∈ xs ∨ x = y := by
  rcases List.mem_or_eq_of_mem_set h with h | h
  · exact .inl h
  · exact .inr h
theorem row_dc {H : Hp} {c a : Addr} {kd : Bool} {xs : List V} {ds : List PyData} (h : RowAt H a kd xs) (D : DAt H c (.ref a) (rowD kd ds)) : DAtAll H c xs ds := by
  cases kd with
  | true =>
    obtain ⟨a', xs', e, h', A⟩ := (show DAt H c (.ref a) (.tuple ds) from D).tup_of
    cases e
    cases tupAt_one h h'
    exact A
  | false =>
    obtain ⟨a', xs', e, _, h', A⟩ := (show DAt H c (.ref a) (.list ds) from D).lst_of
    cases e
    rw [show H a = some (.lst xs) from h] at h'
    cases h'
    exact A
section
variable {P : Program} {w : World} {K : PySem.W.Frag} {mg : Str → Option Value} {base : Heap}
theorem scOth : FnScope NOt ["_law_box_here", "_law_thing"] (defScope sOther) := ⟨rfl, rfl, rfl, by decide +kernel, rfl, by decide +kernel, by decide +kernel⟩
theorem ok_oth {n : Nat} {f fT : Addr} {fd dT : FuncData} (F : Fun K "_law_otherwise" "_law_otherwise" sOther f fd) (bF : Binds K fd ["_law_box_here", "_law_thing"] []) (mF : mg "_law_otherwise" = some (.ref f))
    (G : FnOk P w K mg base CX0 (n + 1) f fd ["_law_box_here", "_law_thing"] (spOth n))
    (GT : FnOk P w K mg base CX0 1 fT dT ["_law_box_here", "_law_reach"] spTake) (kT : PySem.W.keepIn K (.ref fT) = true) (bT : Binds K dT ["_law_box_here", "_law_reach"] []) (mT : mg "_law_take" = some (.ref fT)) (M : SameG mg) :
    FnOk P w K mg base CX0 (n + 2) f fd ["_law_box_here", "_law_thing"] (spOth (n + 1)) := by
  refine F.ok scOth (fun vs H Q E h => ?_) (fun cdv A outer s H vs Q E hr h => ?_)
  · obtain ⟨b, v, d, j, k, W, L, N, rfl, _⟩ := h
    rfl
  obtain ⟨b, v, d, j, k, W, L, N, rfl, B, hj, D, fq, hn, hN, hL, hdp, q⟩ := h
  have r1 : Room 1 _ := hr.mono (by omega)
  refine ⟨_, (pss_cons (ps_if (PW.pt (pw_and (pt_val (pe_callB (id := "isinstance") call_isiT (by rfl) M.isi (by decide +kernel) (pa_cons (pv 1) (pa_cons (pe_tup (pa_cons (pe_bltn (v := .ty "list") (by rfl) M.list (by decide +kernel) rfl) (pa_cons (pe_bltn (v := .ty "tuple") (by rfl) M.tuple (by decide +kernel) rfl) pa_nil))) pa_nil)))) (pw_and (pt_cmpR op_gt (pe_callB call_len_seq (by rfl) M.len PySem.boot_len (pa_cons (pv 1) pa_nil)) pe_int (nomark _)) (pw_and1 (pt_cmpR op_gt (pe_call GT r1 rfl mT kT bT .nil pass0 (pa_cons (pv 0) (pa_cons pe_int pa_nil))) pe_int (nomark _)))))) (pss_cons (ps_par3 (i := 2) (j := 3) (l := 4) rfl scOth.nd rfl rfl rfl (by decide) (by decide) (by decide) rfl rfl rfl (pa_cons (pe_call GT r1 rfl mT kT bT .nil pass0 (pa_cons (pv 0) (pa_cons (pe_callB call_len_seq (by rfl) M.len PySem.boot_len (pa_cons (pv 1) pa_nil)) pa_nil))) (pa_cons (pe_callTy call_list_of (by rfl) M.list (by decide +kernel) (pa_cons (pv 1) pa_nil)) (pa_cons (pe_call GT r1 rfl mT kT bT .nil pass0 (pa_cons (pv 0) (pa_cons pe_int pa_nil))) pa_nil))) (by rfl))
    (pss_cons (ps_if (pt_cmpR op_lt (pv 4) pe_int (nomark _)) (pss_one (ps_asg (pe_call G hr rfl mF F.kp bF .nil pass0 (pa_cons (pv 0) (pa_cons (pe_ix ix_seq (pv 1) (pv 2) (fun _ _ => rfl)) pa_nil))) (pg_sub (pv 3) (pv 2) set_list))) (pss_one (ps_if (pt_cmpR op_eq (pv 4) pe_int (nomark _)) (pss_one (ps_expr (pe_bm PySem.F.plainAttrs_list PySem.F.slot_list_pop PySem.F.type_list_pop mt_popAt (pv 3) (pa_cons (pv 2) pa_nil)))) (pss_one (ps_if (pt_cmpR op_eq (pv 4) pe_int (nomark _)) (pss_one (ps_expr (pe_bm PySem.F.plainAttrs_list PySem.F.slot_list_insert PySem.F.type_list_insert mt_insert (pv 3) (pa_cons (pv 2) (pa_cons (pe_ix ix_seq (pv 1) (pv 2) (fun _ _ => rfl)) pa_nil))))) (pss_one (ps_if (pt_cmpR op_eq (pv 4) pe_int (nomark _)) (pss_one (ps_expr (pe_bm0 PySem.F.plainAttrs_list PySem.F.slot_list_reverse PySem.F.type_list_reverse mt_reverse (pv 3)))) (pss_one (ps_ret (pe_ifExp (pt_val (pe_callB (id := "isinstance") call_isi (by rfl) M.isi (by decide +kernel) (pa_cons (pv 1) (pa_cons (pe_bltn (v := .ty "tuple") (by rfl) M.tuple (by decide +kernel) rfl) pa_nil)))) (pv 3) (pe_callTy call_tuple_of (by rfl) M.tuple (by decide +kernel) (pa_cons (pv 3) pa_nil))))))))))))
    (pss_one (ps_ret (pe_ifExp (pt_val (pe_callB (id := "isinstance") call_isi (by rfl) M.isi (by decide +kernel) (pa_cons (pv 1) (pa_cons (pe_bltn (v := .ty "list") (by rfl) M.list (by decide +kernel) rfl) pa_nil)))) (pv 3) (pe_callTy call_tuple_of (by rfl) M.tuple (by decide +kernel) (pa_cons (pv 3) pa_nil))))))) pss_nil)
    (pss_cons (ps_set (i := 5) scOth.nd rfl (Or.inl rfl) (pe_lst (pa_cons pe_non (pa_cons pe_bl (pa_cons pe_bl (pa_cons (pe_un un_neg pe_int) (pa_cons pe_int (pa_cons pe_int (pa_cons pe_int (pa_cons pe_int (pa_cons pe_str (pa_cons pe_str (pa_cons pe_str (pa_cons pe_str (pa_cons pe_str (pa_cons pe_str (pa_cons pe_str (pa_cons (pe_tup pa_nil) (pa_cons (pe_lst pa_nil) (pa_cons (pe_tup (pa_cons pe_str pa_nil)) (pa_cons (pe_lst (pa_cons pe_str pa_nil)) pa_nil)))))))))))))))))))))
    (pss_cons (ps_if (PW.pt (pw_and (pt_val (pe_callB (id := "isinstance") call_isi (by rfl) M.isi (by decide +kernel) (pa_cons (pv 1) (pa_cons (pe_bltn (v := .ty "str") (by rfl) M.str (by decide +kernel) rfl) pa_nil)))) (pw_and1 (pt_cmpR op_gt (pe_call GT r1 rfl mT kT bT .nil pass0 (pa_cons (pv 0) (pa_cons pe_int pa_nil))) pe_int (nomark _))))) (pss_one (ps_ret (pe_ix ix_list (pe_lst (pa_cons (pe_op op_add_str (pv 1) pe_str) (pa_cons (pe_slice sl_str (pv 1) (po_some pe_int) po_none) (pa_cons (pe_upper (pv 1)) (pa_cons (pe_op op_add_str (pv 1) pe_str) (pa_cons (pe_op op_add_str (pv 1) pe_str) pa_nil)))))) (pe_call GT r1 rfl mT kT bT .nil pass0 (pa_cons (pv 0) (pa_cons pe_int pa_nil))) (fun _ _ => rfl)))) pss_nil)
    (pss_cons (ps_if (PW.pt (pw_and (pt_val (pe_callB (id := "isinstance") call_isi (by rfl) M.isi (by decide +kernel) (pa_cons (pv 1) (pa_cons (pe_bltn (v := .ty "int") (by rfl) M.int (by decide +kernel) rfl) pa_nil)))) (pw_and (pt_not (pt_val (pe_callB (id := "isinstance") call_isi (by rfl) M.isi (by decide +kernel) (pa_cons (pv 1) (pa_cons (pe_bltn (v := .ty "bool") (by rfl) M.bool (by decide +kernel) rfl) pa_nil))))) (pw_and1 (pt_cmpR op_gt (pe_call GT r1 rfl mT kT bT .nil pass0 (pa_cons (pv 0) (pa_cons pe_int pa_nil))) pe_int (nomark _)))))) (pss_one (ps_ret (pe_ix ix_list (pe_lst (pa_cons (pe_op op_add (pv 1) pe_int) (pa_cons (pe_op op_sub (pv 1) pe_int) (pa_cons (pe_op op_sub pe_int (pv 1)) (pa_cons pe_int (pa_cons pe_int (pa_cons (pe_callTy call_str_int (by rfl) M.str (by decide +kernel) (pa_cons (pv 1) pa_nil)) pa_nil))))))) (pe_call GT r1 rfl mT kT bT .nil pass0 (pa_cons (pv 0) (pa_cons pe_int pa_nil))) (fun _ _ => rfl)))) pss_nil)
    (pss_one (ps_ret (pe_ix ix_list (pv 5) (pe_call GT r1 rfl mT kT bT .nil pass0 (pa_cons (pv 0) (pa_cons (pe_callB call_len_seq (by rfl) M.len PySem.boot_len (pa_cons (pv 5) pa_nil)) pa_nil))) (fun _ _ => rfl)))))))), ?_⟩
  obtain ⟨ys, hb⟩ := B.some
  refine ⟨_, rfl, (by show 2 ≤ sizeLine; decide), fun p0 hp0 => ?_⟩
  have s1 := same_new hp0 (.tup [V.ty "list", V.ty "tuple"])
  refine ⟨_, p0, _, _, [.type "list", .type "tuple"], isL d || isU d, rfl, upd_same, .cons (.ty _) (.cons (.ty _) .nil), (D.same s1).tyx, kit_lt (kitL (K := K) d) (kitU (K := K) d), _, rfl, ?_⟩
  have B1 := B.same s1
  have D1 := D.same s1
  have hb1 := s1 _ _ hb
  generalize upd H p0 (.tup [V.ty "list", V.ty "tuple"]) = H1 at s1 B1 D1 hb1 ⊢
  have o1 := but_of (b := b) s1
  cases hrow : (isL d || isU d) with
  | false =>
    refine iteF (iteF ?_)
    refine seq_asg (Lq.runE oddL _ rfl oddL_ok fun vo H2 Do s2 => ?_)
    obtain ⟨p, xs, rfl, pb, hp, Ao⟩ := (show DAt H2 b vo (.list oddDs) from Do b (.inr ⟨_, hb1⟩)).lst_of
    have Ac : ∀ c ys, c ≠ b → H c = some (.lst ys) → DAtAll H2 c xs oddDs := fun c ys cb hc => by
      obtain ⟨p', xs', e, _, h', A'⟩ := (show DAt H2 c (.ref p) (.list oddDs) from Do c (.inr ⟨_, o1 _ _ hc cb⟩)).lst_of
      cases e
      rw [hp] at h'
      cases h'
      exact A'
    have xl : xs.length = 19 := Ao.len
    have D2 := D1.same s2
    have B2 := B1.same s2
    have hb2 := s2 _ _ hb1
    have o2 : But b H H2 := o1.trans (but_of s2)
    refine ⟨_, rfl, _, _, _, _, isS d, rfl, .ty "str", D2.tyx, kitS d, isS d, rfl, ?_⟩
    cases d with
    | none =>
      refine iteF (iteF ?_)
      refine ⟨_, rfl, _, _, _, _, false, rfl, .ty "int", D2.tyx, kitI _, false, rfl, iteF (iteF ?_)⟩
      have hp3 := hp
      have B3 := B2
      have Ao3 := Ao
      have Ac3 := Ac
      have hb3 := hb2
      have o3 := o2
      refine ⟨_, rfl, _, rfl, _, rfl, p, xs, rfl, .inl (.inl (.inl hp3)), b, _, _, rfl, B3, by omega, by omega, by omega, fun r H4 c0 c1 B4 o4 => ?_⟩
      have hp4 := o4 _ _ hp3 pb
      obtain ⟨i, hi⟩ := Int.eq_ofNat_of_zero_le c0
      subst hi
      have il : i < xs.length := by omega
      obtain ⟨e, he, De⟩ := Ao3.get (List.getElem?_eq_getElem il)
      obtain ⟨fe, ne⟩ := odd_fq e (List.mem_of_getElem? he)
      have k1 : 1 ≤ k + 1 := by omega
      exact ⟨p, xs, _, xs[i], rfl, rfl, .inl (.inl hp4), at_of (j := i) rfl (List.getElem?_eq_getElem il), q xs[i] e H4 (De.but o4 hb3) (fun c ys cb hc _ => DAt.both_but o4 hb3 De ((Ac3 c ys cb hc).item (List.getElem?_eq_getElem il) he)) (fe.more k1 (by omega) (by omega)) (by omega) (B4.more (by omega)) (o3.trans o4)⟩
    | dict _ =>
      refine iteF (iteF ?_)
      refine ⟨_, rfl, _, _, _, _, false, rfl, .ty "int", D2.tyx, kitI _, false, rfl, iteF (iteF ?_)⟩
      have hp3 := hp
      have B3 := B2
      have Ao3 := Ao
      have Ac3 := Ac
      have hb3 := hb2
      have o3 := o2
      refine ⟨_, rfl, _, rfl, _, rfl, p, xs, rfl, .inl (.inl (.inl hp3)), b, _, _, rfl, B3, by omega, by omega, by omega, fun r H4 c0 c1 B4 o4 => ?_⟩
      have hp4 := o4 _ _ hp3 pb
      obtain ⟨i, hi⟩ := Int.eq_ofNat_of_zero_le c0
      subst hi
      have il : i < xs.length := by omega
      obtain ⟨e, he, De⟩ := Ao3.get (List.getElem?_eq_getElem il)
      obtain ⟨fe, ne⟩ := odd_fq e (List.mem_of_getElem? he)
      have k1 : 1 ≤ k + 1 := by omega
      exact ⟨p, xs, _, xs[i], rfl, rfl, .inl (.inl hp4), at_of (j := i) rfl (List.getElem?_eq_getElem il), q xs[i] e H4 (De.but o4 hb3) (fun c ys cb hc _ => DAt.both_but o4 hb3 De ((Ac3 c ys cb hc).item (List.getElem?_eq_getElem il) he)) (fe.more k1 (by omega) (by omega)) (by omega) (B4.more (by omega)) (o3.trans o4)⟩
    | bool c =>
      refine iteF (iteF ?_)
      refine ⟨_, rfl, _, _, _, _, true, rfl, .ty "int", D2.tyx, kitI _, true, rfl, iteT ⟨_, rfl, _, _, _, _, true, rfl, .ty "bool", D2.tyx, kitB' _, true, rfl, iteF (iteF ?_)⟩⟩
      have hp3 := hp
      have B3 := B2
      have Ao3 := Ao
      have Ac3 := Ac
      have hb3 := hb2
      have o3 := o2
      refine ⟨_, rfl, _, rfl, _, rfl, p, xs, rfl, .inl (.inl (.inl hp3)), b, _, _, rfl, B3, by omega, by omega, by omega, fun r H4 c0 c1 B4 o4 => ?_⟩
      have hp4 := o4 _ _ hp3 pb
      obtain ⟨i, hi⟩ := Int.eq_ofNat_of_zero_le c0
      subst hi
      have il : i < xs.length := by omega
      obtain ⟨e, he, De⟩ := Ao3.get (List.getElem?_eq_getElem il)
      obtain ⟨fe, ne⟩ := odd_fq e (List.mem_of_getElem? he)
      have k1 : 1 ≤ k + 1 := by omega
      exact ⟨p, xs, _, xs[i], rfl, rfl, .inl (.inl hp4), at_of (j := i) rfl (List.getElem?_eq_getElem il), q xs[i] e H4 (De.but o4 hb3) (fun c ys cb hc _ => DAt.both_but o4 hb3 De ((Ac3 c ys cb hc).item (List.getElem?_eq_getElem il) he)) (fe.more k1 (by omega) (by omega)) (by omega) (B4.more (by omega)) (o3.trans o4)⟩
    | str x =>
      cases D2.str_of
      have ax := fq.asc
      have big : (10000 : Nat) ≤ sizeLine := by decide
      have big2 : (10000 : Nat) ≤ 5592405 := by decide
      have xl' := ax.1
      refine iteT ⟨_, rfl, b, _, _, rfl, B2, by omega, by decide, by decide, fun r H3 c0 c1 B3 o3' => ?_⟩
      refine ⟨_, _, rfl, rfl, decide ((0 : Int) < r), rfl, ?_⟩
      by_cases hr0 : (0 : Int) < r
      · rw [decide_eq_true hr0]
        have a1 : ("a" : Str).length = 1 := by decide +kernel
        have a2 : ("1" : Str).length = 1 := by decide +kernel
        have a3 : ("aaaaaa" : Str).length = 6 := by decide +kernel
        refine iteT ⟨_, rfl, x, "a", rfl, rfl, by omega, _, rfl, 1, rfl, x, rfl, by omega, _, rfl, ⟨x, rfl⟩, x, rfl, rfl, by omega, _, rfl, x, "1", rfl, rfl, by omega, _, rfl, x, "aaaaaa", rfl, rfl, by omega, (by show 5 ≤ sizeLine; decide), fun p5 hp5 => ?_⟩
        obtain ⟨zs, hz⟩ : ∃ zs : List Str, zs = [x ++ "a", cutS x (some 1) none, Txt.upper x, x ++ "1", x ++ "aaaaaa"] := ⟨_, rfl⟩
        have each : ∀ y ∈ zs, Asc (L + 9) y := fun y hy => by
          rw [hz] at hy
          simp only [List.mem_cons, List.not_mem_nil, or_false] at hy
          rcases hy with rfl | rfl | rfl | rfl | rfl
          · exact (asc_add ax (asc_of (L := 1) (by decide +kernel))).more (by omega)
          · exact (asc_cut ax).more (by omega)
          · exact (asc_upper ax).more (by omega)
          · exact (asc_add ax (asc_of (L := 1) (by decide +kernel))).more (by omega)
          · exact (asc_add ax (asc_of (L := 6) (by decide +kernel))).more (by omega)
        have zl : zs.length = 5 := by rw [hz]; rfl
        rw [show [V.str (x ++ "a"), V.str (cutS x (some 1) none), V.str (Txt.upper x), V.str (x ++ "1"), V.str (x ++ "aaaaaa")] = zs.map V.str by rw [hz]; rfl]
        have s5 := same_new hp5 (.lst (zs.map V.str))
        obtain ⟨ys3, hb3⟩ := B3.some
        have p5b := (ne_of_none hb3 hp5).symm
        refine ⟨_, rfl, b, _, _, rfl, B3.same s5, by omega, by decide, by decide, fun r4 H4 d0 d1 B4 o4 => ?_⟩
        obtain ⟨i, hi⟩ := Int.eq_ofNat_of_zero_le d0
        subst hi
        have il : i < zs.length := by omega
        exact ⟨p5, zs.map V.str, _, .str zs[i], rfl, rfl, .inl (.inl (o4 _ _ upd_same p5b)), at_of (j := i) rfl (by rw [List.getElem?_map, List.getElem?_eq_getElem il]; rfl), q _ (.str zs[i]) H4 (by unfold DAt; rfl) (fun c ys _ _ _ => by unfold DAt; rfl) (Asc.fq (each _ (List.getElem_mem il))) (by simp only [nd]; omega) (B4.more (by omega)) (o2.trans (o3'.trans ((but_of s5).trans o4)))⟩
      · rw [decide_eq_false hr0]
        refine iteF ?_
        refine ⟨_, rfl, _, _, _, _, false, rfl, .ty "int", (D2.but o3' hb2).tyx, kitI _, false, rfl, iteF (iteF ?_)⟩
        have hp3 := o3' _ _ hp pb
        have Ao3 := Ao.but o3' hb2
        have Ac3 : ∀ c ys, c ≠ b → H c = some (.lst ys) → DAtAll H3 c xs oddDs := fun c ys cb hc => DAtAll.both_but o3' hb2 Ao (Ac c ys cb hc)
        have hb3 : ∃ ys, H3 b = some (.lst ys) := B3.some
        obtain ⟨ys3, hb3⟩ := hb3
        have o3 := o2.trans o3'
        refine ⟨_, rfl, _, rfl, _, rfl, p, xs, rfl, .inl (.inl (.inl hp3)), b, _, _, rfl, B3, by omega, by omega, by omega, fun r H4 c0 c1 B4 o4 => ?_⟩
        have hp4 := o4 _ _ hp3 pb
        obtain ⟨i, hi⟩ := Int.eq_ofNat_of_zero_le c0
        subst hi
        have il : i < xs.length := by omega
        obtain ⟨e, he, De⟩ := Ao3.get (List.getElem?_eq_getElem il)
        obtain ⟨fe, ne⟩ := odd_fq e (List.mem_of_getElem? he)
        have k1 : 1 ≤ k + 1 := by omega
        exact ⟨p, xs, _, xs[i], rfl, rfl, .inl (.inl hp4), at_of (j := i) rfl (List.getElem?_eq_getElem il), q xs[i] e H4 (De.but o4 hb3) (fun c ys cb hc _ => DAt.both_but o4 hb3 De ((Ac3 c ys cb hc).item (List.getElem?_eq_getElem il) he)) (fe.more k1 (by omega) (by omega)) (by omega) (B4.more (by omega)) (o3.trans o4)⟩
    | int n =>
      cases D2.int_of
      have fi := fq.int
      refine iteF (iteF ?_)
      refine ⟨_, rfl, _, _, _, _, true, rfl, .ty "int", D2.tyx, kitI _, true, rfl, iteT ⟨_, rfl, _, _, _, _, false, rfl, .ty "bool", D2.tyx, kitB' _, false, rfl, iteT ?_⟩⟩
      refine ⟨_, rfl, b, _, _, rfl, B2, by omega, by decide, by decide, fun r H3 c0 c1 B3 o3' => ?_⟩
      refine ⟨_, _, rfl, rfl, decide ((0 : Int) < r), rfl, ?_⟩
      by_cases hr0 : (0 : Int) < r
      · rw [decide_eq_true hr0]
        refine iteT ⟨_, rfl, _, _, rfl, rfl, _, rfl, _, _, rfl, rfl, _, rfl, _, _, rfl, rfl, _, rfl, n, rfl, log_few (by omega), (by show 6 ≤ sizeLine; decide), fun p5 hp5 => ?_⟩
        obtain ⟨zs, hz⟩ : ∃ zs : List V, zs = [V.int (n + 1), V.int (n - 1), V.int (0 - n), V.int 99, V.int 100, V.str (Str.ofString (toString n))] := ⟨_, rfl⟩
        obtain ⟨es, he⟩ : ∃ es : List PyData, es = [PyData.int (n + 1), .int (n - 1), .int (0 - n), .int 99, .int 100, .str (Str.ofString (toString n))] := ⟨_, rfl⟩
        have each : ∀ y ∈ es, Fq (k + 1) (W + 1) (L + 9) y ∧ nd y ≤ 1 := fun y hy => by
          rw [he] at hy
          simp only [List.mem_cons, List.not_mem_nil, or_false] at hy
          rcases hy with rfl | rfl | rfl | rfl | rfl | rfl
          · exact ⟨fq_int (by omega), by simp [nd]⟩
          · exact ⟨fq_int (by omega), by simp [nd]⟩
          · exact ⟨fq_int (by omega), by simp [nd]⟩
          · exact ⟨fq_int (by omega), by simp [nd]⟩
          · exact ⟨fq_int (by omega), by simp [nd]⟩
          · exact ⟨Asc.fq ((asc_int (by omega)).more (by omega)), by simp [nd]⟩
        have zl : zs.length = 6 := by rw [hz]; rfl
        rw [show [V.int (n + 1), V.int (n - 1), V.int (0 - n), V.int 99, V.int 100, V.str (Str.ofString (toString n))] = zs from hz.symm]
        have s5 := same_new hp5 (.lst zs)
        have dat : ∀ (HH : Hp) (b : Addr), DAtAll HH b zs es := fun HH b => by
          have iD : ∀ m : Int, DAt HH b (.int m) (.int m) := fun m => by unfold DAt; rfl
          rw [hz, he]
          exact .cons (iD _) (.cons (iD _) (.cons (iD _) (.cons (iD _) (.cons (iD _) (.cons (by unfold DAt; rfl) .nil)))))
        obtain ⟨ys3, hb3⟩ := B3.some
        have p5b := (ne_of_none hb3 hp5).symm
        refine ⟨_, rfl, b, _, _, rfl, B3.same s5, by omega, by decide, by decide, fun r4 H4 d0 d1 B4 o4 => ?_⟩
        obtain ⟨i, hi⟩ := Int.eq_ofNat_of_zero_le d0
        subst hi
        have il : i < zs.length := by omega
        obtain ⟨e, hei, De⟩ := (dat H4 b).get (List.getElem?_eq_getElem il)
        obtain ⟨fe, ne⟩ := each e (List.mem_of_getElem? hei)
        exact ⟨p5, zs, _, zs[i], rfl, rfl, .inl (.inl (o4 _ _ upd_same p5b)), at_of (j := i) rfl (List.getElem?_eq_getElem il), q zs[i] e H4 De (fun c ys _ _ _ => (dat H4 c).item (List.getElem?_eq_getElem il) hei) fe (by omega) (B4.more (by omega)) (o2.trans (o3'.trans ((but_of s5).trans o4)))⟩
      · rw [decide_eq_false hr0]
        refine iteF ?_
        have hp3 := o3' _ _ hp pb
        have Ao3 := Ao.but o3' hb2
        have Ac3 : ∀ c ys, c ≠ b → H c = some (.lst ys) → DAtAll H3 c xs oddDs := fun c ys cb hc => DAtAll.both_but o3' hb2 Ao (Ac c ys cb hc)
        obtain ⟨ys3, hb3⟩ := B3.some
        have o3 := o2.trans o3'
        refine ⟨_, rfl, _, rfl, _, rfl, p, xs, rfl, .inl (.inl (.inl hp3)), b, _, _, rfl, B3, by omega, by omega, by omega, fun r H4 c0 c1 B4 o4 => ?_⟩
        have hp4 := o4 _ _ hp3 pb
        obtain ⟨i, hi⟩ := Int.eq_ofNat_of_zero_le c0
        subst hi
        have il : i < xs.length := by omega
        obtain ⟨e, he, De⟩ := Ao3.get (List.getElem?_eq_getElem il)
        obtain ⟨fe, ne⟩ := odd_fq e (List.mem_of_getElem? he)
        have k1 : 1 ≤ k + 1 := by omega
        exact ⟨p, xs, _, xs[i], rfl, rfl, .inl (.inl hp4), at_of (j := i) rfl (List.getElem?_eq_getElem il), q xs[i] e H4 (De.but o4 hb3) (fun c ys cb hc _ => DAt.both_but o4 hb3 De ((Ac3 c ys cb hc).item (List.getElem?_eq_getElem il) he)) (fe.more k1 (by omega) (by omega)) (by omega) (B4.more (by omega)) (o3.trans o4)⟩
    | list _ => cases hrow
    | tuple _ => cases hrow
  | true =>
    refine iteT ?_
    obtain ⟨a, xs, ds, kd, rfl, ab, ha, A1, rfl⟩ := row_of D1 hb1 hrow
    have el := A1.len
    have rS : isS (rowD kd ds) = false := by cases kd <;> rfl
    have rI : isI (rowD kd ds) = false := by cases kd <;> rfl
    have kS := kitS (K := K) (rowD kd ds)
    rw [rS] at kS
    have kI := kitI (K := K) (rowD kd ds)
    rw [rI] at kI
    have kL := kitL (K := K) (rowD kd ds)
    rw [rowD_L] at kL
    have kU := kitU (K := K) (rowD kd ds)
    rw [rowD_U] at kU
    obtain ⟨k', hk⟩ : ∃ k', k = k' + 1 := ⟨k - 1, by have := fq.dp; rw [dp_row] at this; omega⟩
    have nr := nd_row (kd := kd) (ds := ds)
    have nl := ndAll_len ds
    have fr := fq_row.mp (hk ▸ fq)
    refine ⟨_, rfl, a, xs, rfl, rowAt_sq ha, _, _, rfl, rfl, decide ((0 : Int) < ((xs.length : Nat) : Int)), rfl, ?_⟩
    by_cases hne : (0 : Int) < ((xs.length : Nat) : Int)
    · rw [decide_eq_true hne]
      refine iteT ⟨_, rfl, b, _, _, rfl, B1, by omega, by decide, by decide, fun r0 H2 c0 c1 B2 o2' => ?_⟩
      have ha2 := ha.but o2' hb1 ab
      have A2 := A1.but o2' hb1
      have D2 := D1.but o2' hb1
      obtain ⟨ys2, hb2⟩ := B2.some
      have o2 := o1.trans o2'
      refine ⟨_, _, rfl, rfl, decide ((0 : Int) < r0), rfl, ?_⟩
      by_cases hr0 : (0 : Int) < r0
      · rw [decide_eq_true hr0]
        subst hk
        refine iteT ⟨_, rfl, _, rfl, a, xs, rfl, rowAt_sq ha2, b, _, _, rfl, B2, by omega, by omega, by omega, fun at_ H3 a0 a1 B3 o3' => ?_⟩
        have ha3 := ha2.but o3' hb2 ab
        have A3 := A2.but o3' hb2
        have D3 := D2.but o3' hb2
        obtain ⟨ys3, hb3⟩ := B3.some
        have o3 := o2.trans o3'
        refine ⟨_, rfl, a, xs, rfl, rowAt_sq ha3, fun r hr0 => ?_⟩
        have s3 := same_new hr0 (.lst xs)
        have rb : r ≠ b := fun e => by subst e; rw [hb3] at hr0; cases hr0
        refine ⟨_, rfl, b, _, _, rfl, B3.same s3, by omega, by decide, by decide, fun way H4 w0 w1 B4 o4 => ?_⟩
        refine ⟨_, _, _, rfl, ?_⟩
        obtain ⟨i, hi⟩ := Int.eq_ofNat_of_zero_le a0
        subst hi
        have il : i < xs.length := by omega
        have ild : i < ds.length := by omega
        have hr4 : H4 r = some (.lst xs) := o4 _ _ upd_same rb
        have o34 : But b H3 H4 := (but_of s3).trans o4
        have o4h := o3.trans o34
        have ha4 := ha3.but o34 hb3 ab
        have A4 := A3.but o34 hb3
        have D4 := D3.but o34 hb3
        have hb4 := B4.some.choose_spec
        have hei : ds[i]? = some ds[i] := List.getElem?_eq_getElem ild
        have hxi : xs[i]? = some xs[i] := List.getElem?_eq_getElem il
        have big : (3000 : Nat) ≤ sizeLine := by decide
        -- what avoids r, and what avoids c
        have A4r : DAtAll H4 r xs ds := DAtAll.shift (o34.tup hb3) (fun x zs xb hx => ⟨ne_of_none hx hr0, o34 _ _ hx xb⟩) ds A3
        have A4c : ∀ c ys, c ≠ b → H c = some (.lst ys) → DAt H c (.ref a) (rowD kd ds) → DAtAll H4 c xs ds := fun c ys cb hc Dc =>
          row_dc ha4 (DAt.both_but o4h hb D Dc)
        have hc4 : ∀ c ys, c ≠ b → H c = some (.lst ys) → H4 c = some (.lst ys) ∧ c ≠ r := fun c ys cb hc => ⟨o4h _ _ hc cb, ne_of_none (o3 _ _ hc cb) hr0⟩
        -- the list of parts changed at last
        have bt : ∀ (H5 : Hp) (o : HO), But b H4 H5 → But b H3 (upd H5 r o) := fun H5 o oo c u hc cb => by
          rw [upd_ne (ne_of_none hc hr0)]
          exact oo _ _ (o34 _ _ hc cb) cb
        have bb : ∀ (H5 : Hp) (o : HO) (m : Nat), BoxAt H5 b m → m ≤ j + 3 * (n + 1) → BoxAt (upd H5 r o) b (j + 3 * (n + 1)) := fun H5 o m BB hm => by
          obtain ⟨x, y, z, e, h1, h2, h3, h4, h5⟩ := BB.ex
          exact ⟨x, y, z, by rw [upd_ne (Ne.symm rb)]; exact e, h1, h2, h3, h4, by omega⟩
        have ru : ∀ (H5 : Hp) (o : List V) (c : Addr) (zs : List V) (es : List PyData), H5 r = some (.lst xs) → DAtAll H5 r zs es → DAtAll H5 c zs es → DAtAll (upd H5 r (.lst o)) c zs es := fun H5 o c zs es h5 Ar Ac =>
          DAtAll.both (b := r) (fun x us h => by
            have xr : x ≠ r := fun e => by subst e; rcases h with h | ⟨o, h⟩ <;> (rw [h5] at h; cases h)
            unfold TupAt
            rw [upd_ne xr]
            exact h) (fun x us xr xc h => by rw [upd_ne xr]; exact h) es Ar Ac
        have rd : ∀ (H5 : Hp) (o : List V) (c : Addr) (z : V) (e : PyData), H5 r = some (.lst xs) → DAt H5 r z e → DAt H5 c z e → DAt (upd H5 r (.lst o)) c z e := fun H5 o c z e h5 Ar Ac =>
          DAt.both (b := r) (fun x us h => by
            have xr : x ≠ r := fun e => by subst e; rcases h with h | ⟨o, h⟩ <;> (rw [h5] at h; cases h)
            unfold TupAt
            rw [upd_ne xr]
            exact h) (fun x us xr xc h => by rw [upd_ne xr]; exact h) e Ar Ac
        have fin : ∀ (zs : List V) (es : List PyData) (H5 : Hp), H5 r = some (.lst zs) → DAtAll H5 b zs es → (∀ c ys, c ≠ b → H c = some (.lst ys) → DAt H c (.ref a) (rowD kd ds) → DAtAll H5 c zs es) → es.length ≤ W + 1 → (∀ e ∈ es, Fq (k' + 1) (W + 1) (L + 9) e) → ndAll es + 1 ≤ 2 * N + 3 → BoxAt H5 b (j + 3 * (n + 1)) → But b H3 H5 →
            (∀ l, H5 l = none → Q (.ref l) (upd H5 l (.tup zs))) ∧ Q (.ref r) H5 := by
          intro zs es H5 h5 A5 A5c f1 f2 f3 B5 o5
          refine ⟨fun l hl => ?_, ?_⟩
          · have s := same_new hl (.tup zs)
            exact q (.ref l) (.tuple es) _ (by unfold DAt; exact ⟨l, zs, rfl, .inl upd_same, A5.same s⟩) (fun c ys cb hc Dc => by unfold DAt; exact ⟨l, zs, rfl, .inl upd_same, (A5c c ys cb hc Dc).same s⟩) (fq_tup.mpr ⟨f1, f2⟩) (by simp only [nd]; omega) (B5.same s) (o3.trans (o5.trans (but_of s)))
          · exact q (.ref r) (.list es) H5 (by unfold DAt; exact ⟨r, zs, rfl, rb, h5, A5⟩) (fun c ys cb hc Dc => by unfold DAt; exact ⟨r, zs, rfl, (hc4 c ys cb hc).2.symm, h5, A5c c ys cb hc Dc⟩) (fq_list.mpr ⟨f1, f2⟩) (by simp only [nd]; omega) B5 (o3.trans o5)
        have fe : ∀ e ∈ ds, Fq (k' + 1) (W + 1) (L + 9) e := fun e he => (fr.2 e he).more (by omega) (by omega) (by omega)
        refine ⟨_, rfl, _, _, rfl, rfl, decide (way < 6), rfl, ?_⟩
        refine ite2 (fun _ => ?_) (fun _ => ?_)
        · -- the item bent
          obtain ⟨e, he, De⟩ := A4.get hxi
          have em : e ∈ ds := List.mem_of_getElem? he
          have nde := ndAll_mem em
          have dpe : e.depth < n := by
            have z := depthAll_iff.mp (Nat.le_refl _) e em
            rw [dp_row] at hdp
            omega
          refine ⟨_, rfl, _, rfl, _, rfl, row_ix (i := i) ha4 hxi ?_⟩
          refine ⟨b, xs[i], e, _, k', W, L, nd e, rfl, B4, by omega, De, fr.2 e em, Nat.le_refl _, by omega, hL, dpe, fun v' d' H5 D5 V5 f5 n5 B5 o5 => ?_⟩
          have hr5 := o5 _ _ hr4 rb
          have D5r : DAt H5 r v' d' := V5 r _ rb hr4 (A4r.item hxi he)
          refine ⟨_, rfl, _, rfl, r, xs, _, i, rfl, rfl, hr5, ix_at il, ?_⟩
          have oo := bt H5 (.lst (xs.set i v')) o5
          have A5r : DAtAll H5 r (xs.set i v') (ds.set i d') := (DAtAll.both_but o5 hb4 A4 A4r).put D5r
          have np := ndAll_put (e := d') he
          have fn := fin (xs.set i v') (ds.set i d') _ upd_same (ru _ _ _ _ _ hr5 A5r ((A4.but o5 hb4).put D5))
            (fun c ys cb hc Dc => ru _ _ _ _ _ hr5 A5r ((DAtAll.both_but o5 hb4 A4 (A4c c ys cb hc Dc)).put (V5 c ys cb (hc4 c ys cb hc).1 ((A4c c ys cb hc Dc).item hxi he))))
            (by rw [List.length_set]; omega) (fun x hx => (mem_put hx).elim (fe x) (fun z => by rw [z]; exact f5)) (by omega) (bb _ _ _ B5 (by omega)) oo
          refine ⟨_, rfl, _, _, _, _, !kd, rfl, .ty "list", (D3.but oo hb3).tyx, kL, _, rfl, ?_⟩
          cases kd with
          | true => exact iteF ⟨_, rfl, r, _, rfl, .inl ⟨.inl (.inl upd_same), fn.1⟩⟩
          | false => exact iteT ⟨_, rfl, fn.2⟩
        · refine ⟨_, rfl, rfl, _, rfl, ?_⟩
          refine ite2 (fun _ => ?_) (fun _ => ?_)
          · -- left out
            refine ⟨_, rfl, .inl ⟨rfl, _, .inl (.inl hr4)⟩, _, rfl, r, xs, _, i, xs[i], rfl, rfl, hr4, by omega, by omega, seqIx_of il, hxi, ?_⟩
            have oo := bt H4 (.lst (xs.eraseIdx i)) (But.refl b H4)
            have ner := ndAll_erase (ds := ds) (i := i)
            have fn := fin (xs.eraseIdx i) (ds.eraseIdx i) _ upd_same (ru _ _ _ _ _ hr4 A4r.erase A4.erase) (fun c ys cb hc Dc => ru _ _ _ _ _ hr4 A4r.erase (A4c c ys cb hc Dc).erase)
              (by have := List.length_eraseIdx_le (l := ds) (i := i); omega) (fun x hx => fe x (List.mem_of_mem_eraseIdx hx)) (by omega) (bb _ _ _ B4 (by omega)) oo
            refine ⟨_, rfl, _, _, _, _, !kd, rfl, .ty "list", (D3.but oo hb3).tyx, kL, _, rfl, ?_⟩
            cases kd with
            | true => exact iteF ⟨_, rfl, r, _, rfl, .inl ⟨.inl (.inl upd_same), fn.1⟩⟩
            | false => exact iteT ⟨_, rfl, fn.2⟩
          · refine ⟨_, rfl, rfl, _, rfl, ?_⟩
            refine ite2 (fun _ => ?_) (fun _ => ?_)
            · -- twice
              obtain ⟨e, he, De⟩ := A4.get hxi
              have em : e ∈ ds := List.mem_of_getElem? he
              have nde := ndAll_mem em
              refine ⟨_, rfl, .inl ⟨rfl, _, .inl (.inl hr4)⟩, _, rfl, _, rfl, _, rfl, row_ix (i := i) ha4 hxi ?_⟩
              refine ⟨r, xs, _, _, rfl, rfl, hr4, by omega, by omega, by omega, ?_⟩
              have oo := bt H4 (.lst (xs.take i ++ [xs[i]] ++ xs.drop i)) (But.refl b H4)
              have cut := ndAll_cut (ds := ds) (i := i)
              have ins : ∀ c, DAtAll H4 c xs ds → DAtAll H4 c (xs.take i ++ [xs[i]] ++ xs.drop i) (ds.take i ++ [e] ++ ds.drop i) := fun c A => ((A.take i).append (.cons (A.item hxi he) .nil)).append (A.drop i)
              have fn := fin (xs.take i ++ [xs[i]] ++ xs.drop i) (ds.take i ++ [e] ++ ds.drop i) _ upd_same (ru _ _ _ _ _ hr4 (ins _ A4r) (ins _ A4)) (fun c ys cb hc Dc => ru _ _ _ _ _ hr4 (ins _ A4r) (ins _ (A4c c ys cb hc Dc)))
                (by rw [List.length_append, List.length_append, List.length_take, List.length_drop, List.length_singleton]; omega)
                (fun x hx => by
                  rcases List.mem_append.mp hx with hx | hx
                  · rcases List.mem_append.mp hx with hx | hx
                    · exact fe x (List.mem_of_mem_take hx)
                    · rw [show x = e by simpa using hx]; exact fe e em
                  · exact fe x (List.mem_of_mem_drop hx))
                (by rw [ndAll_append, ndAll_append]; simp only [ndAll]; omega) (bb _ _ _ B4 (by omega)) oo
              refine ⟨_, rfl, _, _, _, _, !kd, rfl, .ty "list", (D3.but oo hb3).tyx, kL, _, rfl, ?_⟩
              cases kd with
              | true => exact iteF ⟨_, rfl, r, _, rfl, .inl ⟨.inl (.inl upd_same), fn.1⟩⟩
              | false => exact iteT ⟨_, rfl, fn.2⟩
            · refine ⟨_, rfl, rfl, _, rfl, ?_⟩
              refine ite2 (fun _ => ?_) (fun _ => ?_)
              · -- turned about
                refine ⟨_, rfl, .inl ⟨rfl, _, .inl (.inl hr4)⟩, r, xs, rfl, rfl, hr4, ?_⟩
                have oo := bt H4 (.lst xs.reverse) (But.refl b H4)
                have nb := ndAll_back (ds := ds)
                have fn := fin xs.reverse ds.reverse _ upd_same (ru _ _ _ _ _ hr4 A4r.back A4.back) (fun c ys cb hc Dc => ru _ _ _ _ _ hr4 A4r.back (A4c c ys cb hc Dc).back)
                  (by rw [List.length_reverse]; omega) (fun x hx => fe x (List.mem_reverse.mp hx)) (by omega) (bb _ _ _ B4 (by omega)) oo
                refine ⟨_, rfl, _, _, _, _, !kd, rfl, .ty "list", (D3.but oo hb3).tyx, kL, _, rfl, ?_⟩
                cases kd with
                | true => exact iteF ⟨_, rfl, r, _, rfl, .inl ⟨.inl (.inl upd_same), fn.1⟩⟩
                | false => exact iteT ⟨_, rfl, fn.2⟩
              · -- the other kind
                have fn := fin xs ds H4 hr4 A4 A4c (by omega) fe (by omega) (B4.more (by omega)) o34
                refine ⟨_, rfl, _, _, _, _, kd, rfl, .ty "tuple", D4.tyx, kU, _, rfl, ?_⟩
                cases kd with
                | true => exact iteT ⟨_, rfl, fn.2⟩
                | false => exact iteF ⟨_, rfl, r, _, rfl, .inl ⟨.inl (.inl hr4), fn.1⟩⟩
      · rw [decide_eq_false hr0]
        refine iteF ?_
        have Bx := B2
        have Dx := D2
        have hbx := hb2
        have ox := o2
        refine seq_asg (Lq.runE oddL _ rfl oddL_ok fun vo H2 Do s2 => ?_)
        obtain ⟨p, xs, rfl, pb, hp3, Ao3⟩ := (show DAt H2 b vo (.list oddDs) from Do b (.inr ⟨_, hbx⟩)).lst_of
        have Ac3 : ∀ c ys, c ≠ b → H c = some (.lst ys) → DAtAll H2 c xs oddDs := fun c ys cb hc => by
          obtain ⟨p', xs', e, _, h', A'⟩ := (show DAt H2 c (.ref p) (.list oddDs) from Do c (.inr ⟨_, ox _ _ hc cb⟩)).lst_of
          cases e
          rw [hp3] at h'
          cases h'
          exact A'
        have xl : xs.length = 19 := Ao3.len
        have D2 := Dx.same s2
        have B3 := Bx.same s2
        have hb3 := s2 _ _ hbx
        have o3 := ox.trans (but_of s2)
        refine ⟨_, rfl, _, _, _, _, false, rfl, .ty "str", D2.tyx, kS, false, rfl, iteF (iteF ?_)⟩
        refine ⟨_, rfl, _, _, _, _, false, rfl, .ty "int", D2.tyx, kI, false, rfl, iteF (iteF ?_)⟩
        refine ⟨_, rfl, _, rfl, _, rfl, p, xs, rfl, .inl (.inl (.inl hp3)), b, _, _, rfl, B3, by omega, by omega, by omega, fun r H4 c0 c1 B4 o4 => ?_⟩
        have hp4 := o4 _ _ hp3 pb
        obtain ⟨i, hi⟩ := Int.eq_ofNat_of_zero_le c0
        subst hi
        have il : i < xs.length := by omega
        obtain ⟨e, he, De⟩ := Ao3.get (List.getElem?_eq_getElem il)
        obtain ⟨fe, ne⟩ := odd_fq e (List.mem_of_getElem? he)
        have k1 : 1 ≤ k + 1 := by omega
        exact ⟨p, xs, _, xs[i], rfl, rfl, .inl (.inl hp4), at_of (j := i) rfl (List.getElem?_eq_getElem il), q xs[i] e H4 (De.but o4 hb3) (fun c ys cb hc _ => DAt.both_but o4 hb3 De ((Ac3 c ys cb hc).item (List.getElem?_eq_getElem il) he)) (fe.more k1 (by omega) (by omega)) (by omega) (B4.more (by omega)) (o3.trans o4)⟩
    · rw [decide_eq_false hne]
      refine iteF (iteF ?_)
      have Bx := B1
      have Dx := D1
      have hbx := hb1
      have ox := o1
      refine seq_asg (Lq.runE oddL _ rfl oddL_ok fun vo H2 Do s2 => ?_)
      obtain ⟨p, xs, rfl, pb, hp3, Ao3⟩ := (show DAt H2 b vo (.list oddDs) from Do b (.inr ⟨_, hbx⟩)).lst_of
      have Ac3 : ∀ c ys, c ≠ b → H c = some (.lst ys) → DAtAll H2 c xs oddDs := fun c ys cb hc => by
        obtain ⟨p', xs', e, _, h', A'⟩ := (show DAt H2 c (.ref p) (.list oddDs) from Do c (.inr ⟨_, ox _ _ hc cb⟩)).lst_of
        cases e
        rw [hp3] at h'
        cases h'
        exact A'
      have xl : xs.length = 19 := Ao3.len
      have D2 := Dx.same s2
      have B3 := Bx.same s2
      have hb3 := s2 _ _ hbx
      have o3 := ox.trans (but_of s2)
      refine ⟨_, rfl, _, _, _, _, false, rfl, .ty "str", D2.tyx, kS, false, rfl, iteF (iteF ?_)⟩
      refine ⟨_, rfl, _, _, _, _, false, rfl, .ty "int", D2.tyx, kI, false, rfl, iteF (iteF ?_)⟩
      refine ⟨_, rfl, _, rfl, _, rfl, p, xs, rfl, .inl (.inl (.inl hp3)), b, _, _, rfl, B3, by omega, by omega, by omega, fun r H4 c0 c1 B4 o4 => ?_⟩
      have hp4 := o4 _ _ hp3 pb
      obtain ⟨i, hi⟩ := Int.eq_ofNat_of_zero_le c0
      subst hi
      have il : i < xs.length := by omega
      obtain ⟨e, he, De⟩ := Ao3.get (List.getElem?_eq_getElem il)
      obtain ⟨fe, ne⟩ := odd_fq e (List.mem_of_getElem? he)
      have k1 : 1 ≤ k + 1 := by omega
      exact ⟨p, xs, _, xs[i], rfl, rfl, .inl (.inl hp4), at_of (j := i) rfl (List.getElem?_eq_getElem il), q xs[i] e H4 (De.but o4 hb3) (fun c ys cb hc _ => DAt.both_but o4 hb3 De ((Ac3 c ys cb hc).item (List.getElem?_eq_getElem il) he)) (fe.more k1 (by omega) (by omega)) (by omega) (B4.more (by omega)) (o3.trans o4)⟩
theorem oth_ok {f fT : Addr} {fd dT : FuncData} (F : Fun K "_law_otherwise" "_law_otherwise" sOther f fd) (bF : Binds K fd ["_law_box_here", "_law_thing"] []) (mF : mg "_law_otherwise" = some (.ref f))
    (GT : FnOk P w K mg base CX0 1 fT dT ["_law_box_here", "_law_reach"] spTake) (kT : PySem.W.keepIn K (.ref fT) = true) (bT : Binds K dT ["_law_box_here", "_law_reach"] []) (mT : mg "_law_take" = some (.ref fT)) (M : SameG mg) :
    ∀ n : Nat, FnOk P w K mg base CX0 (n + 1) f fd ["_law_box_here", "_law_thing"] (spOth n)
  | 0 => none_left fun vs H Q E h => by
    obtain ⟨b, v, d, j, k, W, L, N, _, _, _, _, _, _, _, _, h, _⟩ := h
    omega
  | n + 1 => ok_oth F bF mF (oth_ok F bF mF GT kT bT mT M n) GT kT bT mT M
end
end Rp

/-! t + u of tuples, t maybe empty: then u itself. -/
namespace Rp
open PySem PySem.Spec PyProof.Rows L2 HT
def rCatE (K : PySem.W.Frag) : R2 := fun x y H Q => ∃ (a b : Addr) (xs ys : List V), x = .ref a ∧ y = .ref b ∧ SqT K H a xs ∧ SqT K H b ys ∧ xs.length + ys.length ≤ sizeLine ∧
  (xs = [] → Q (.ref b) H) ∧ (xs ≠ [] → ys = [] → Q (.ref a) H) ∧ (xs ≠ [] → ys ≠ [] → ∀ p, H p = none → Q (.ref p) (upd H p (.tup (xs ++ ys))))
theorem op_catE {X : Cx} : OpR X (binaryOp .Add) (rCatE X.K) := by
  intro pins s σ H x y v u Q I rx ry h
  obtain ⟨a, b, xs, ys, ex, ey, ha, hb, hz, q0, q1, q2⟩ := h
  by_cases he : xs = []
  · subst ex ey
    cases rx
    cases ry
    obtain ⟨its, r1, p1, _⟩ := I.tuple ha
    obtain ⟨its2, r2, p2, _⟩ := I.tuple hb
    subst he
    cases r1
    obtain ⟨⟨c1, d1, t1, s1⟩, g1, e1, n1, k1⟩ := id p1
    obtain ⟨⟨c2, d2, t2, s2⟩, g2, e2, n2, k2⟩ := id p2
    simp only at e1 k1 e2 k2
    subst e1 k1 e2 k2
    exact concat_meets ⟨_, g1, rfl⟩ ⟨_, g2, rfl⟩ noFill_tuple_add seq_tuple_add PySem.F.slot_tuple_add PySem.F.entry_tuple_add (PySem.F.args_tuple_add_2 _ _)
      (tuple_addW0 a b _ its2.toArray n1 n2 d1 d2 s1 s2 (by simp)) ⟨g1, g2, ⟨.ref b, H, I, rfl, q0 rfl⟩⟩
  · exact op_catT pins s σ H x y v u Q I rx ry ⟨a, b, xs, ys, ex, ey, ha, hb, he, hz, q1 he, q2 he⟩
end Rp

set_option maxHeartbeats 16000000
/-! ATOMs, SAYINGs where they stand; the law's names. -/
namespace Rp
open PySem PySem.Spec PyProof.Rows L2 TL StX
theorem join1 (a x : Str) : Txt.join a [x] = x := by rw [TL.join_eq]; simp [Str.join]
theorem join2 (a x y : Str) : Txt.join a [x, y] = x ++ a ++ y := by rw [TL.join_eq]; simp [Str.join]
theorem slen (a b : Str) : (a ++ b).length = a.length + b.length := Str.length_append a b
theorem tm_ok : ∀ t : Tm, (tmD t).canLay0 = true ∧ (tmD t).depth ≤ t.deep + 1 ∧ nd (tmD t) ≤ 2 * t.size
  | .v n => ⟨rfl, by simp [tmD, PyData.depth], by simp [tmD, nd, Tm.size]⟩
  | .z => ⟨by decide +kernel, by simp [tmD, PyData.depth, PyData.depthAll], by simp [tmD, nd, ndAll, Tm.size]⟩
  | .s t => by
    have ih := tm_ok t
    have a : PyData.canLay0 (.str "s") = true := by decide +kernel
    refine ⟨?_, ?_, ?_⟩
    · simp only [tmD, PyData.canLay0, PyData.canLayAll0, Bool.and_true, Bool.and_eq_true]; exact ⟨by simpa [PyData.canLay0] using a, ih.1⟩
    · simp only [tmD, PyData.depth, PyData.depthAll, Tm.deep]; omega
    · simp only [tmD, nd, ndAll, Tm.size]; omega
  | .f l r => by
    have ih := tm_ok l
    have ih2 := tm_ok r
    have a : PyData.canLay0 (.str "f") = true := by decide +kernel
    refine ⟨?_, ?_, ?_⟩
    · simp only [tmD, PyData.canLay0, PyData.canLayAll0, Bool.and_true, Bool.and_eq_true]; exact ⟨by simpa [PyData.canLay0] using a, ih.1, ih2.1⟩
    · simp only [tmD, PyData.depth, PyData.depthAll, Tm.deep]; omega
    · simp only [tmD, nd, ndAll, Tm.size]; omega
theorem atAt_same {H H' : Hp} {v : V} {a : At} (h : AtAt H v a) (s : Same H H') : AtAt H' v a := by
  obtain ⟨p, xs, e, h1, h2⟩ := h
  exact ⟨p, xs, e, s _ _ h1, h2.mono fun b zs z => s _ _ z⟩
def AtsAt (H : Hp) : List V → List At → Prop
  | [], [] => True
  | v :: xs, a :: as => AtAt H v a ∧ AtsAt H xs as
  | _, _ => False
theorem AtsAt.len {H : Hp} : ∀ {xs : List V} {as : List At}, AtsAt H xs as → xs.length = as.length
  | [], [], _ => rfl
  | _ :: _, _ :: _, h => congrArg (· + 1) (AtsAt.len h.2)
theorem AtsAt.same {H H' : Hp} (s : Same H H') : ∀ {xs : List V} {as : List At}, AtsAt H xs as → AtsAt H' xs as
  | [], [], _ => trivial
  | _ :: _, _ :: _, h => ⟨atAt_same h.1 s, AtsAt.same s h.2⟩
theorem AtsAt.get {H : Hp} : ∀ {xs : List V} {as : List At} {i : Nat} {x : V}, AtsAt H xs as → xs[i]? = some x → ∃ a, as[i]? = some a ∧ AtAt H x a
  | v :: xs, a :: as, 0, x, h, e => ⟨a, rfl, by have : v = x := by simpa using e
                                                subst this; exact h.1⟩
  | _ :: xs, _ :: as, i + 1, x, h, e => by simpa using AtsAt.get h.2 (by simpa using e)
theorem AtsAt.append {H : Hp} : ∀ {xs ys : List V} {as bs : List At}, AtsAt H xs as → AtsAt H ys bs → AtsAt H (xs ++ ys) (as ++ bs)
  | [], _, [], _, _, h => h
  | _ :: xs, _, _ :: as, _, h, h' => ⟨h.1, AtsAt.append h.2 h'⟩
structure AtsOk (as : List At) : Prop where
  few : as.length ≤ 6
  ok : ∀ a ∈ as, AtOk 7 a
theorem atAt_mono {H H' : Hp} (e : ∀ a xs, H a = some (.tup xs) → H' a = some (.tup xs)) {v : V} {a : At} (h : AtAt H v a) : AtAt H' v a := by
  obtain ⟨p, xs, r, h1, h2⟩ := h
  exact ⟨p, xs, r, e _ _ h1, h2.mono e⟩
theorem AtsAt.mono {H H' : Hp} (e : ∀ a xs, H a = some (.tup xs) → H' a = some (.tup xs)) : ∀ {xs : List V} {as : List At}, AtsAt H xs as → AtsAt H' xs as
  | [], [], _ => trivial
  | _ :: _, _ :: _, h => ⟨atAt_mono e h.1, AtsAt.mono e h.2⟩
theorem all_dp {K : PySem.W.Frag} {H : Hp} : ∀ {xs : List V} {ts : List Tm}, AllAt H xs ts → DpAll K H xs (ts.map tmD)
  | [], [], _ => .nil
  | _ :: _, _ :: _, h => .cons (h.1.dat (b := (0 : Nat))).dp (all_dp h.2)
theorem at_dp {K : PySem.W.Frag} {H : Hp} {v : V} {a : At} (h : AtAt H v a) : Dp K H v (atD a) := by
  obtain ⟨p, xs, rfl, h1, h2⟩ := h
  exact .tup (.inl (.inl h1)) (.cons (.str _) (all_dp h2))
theorem ats_dp {K : PySem.W.Frag} {H : Hp} : ∀ {xs : List V} {as : List At}, AtsAt H xs as → DpAll K H xs (as.map atD)
  | [], [], _ => .nil
  | _ :: _, _ :: _, h => .cons (at_dp h.1) (ats_dp h.2)
theorem name_lay {x : Str} (h : NameOk x) : PyData.canLay0 (.str x) = true := by
  show x.cps.all (· < 0x110000) = true
  rw [Array.all_eq_true']
  intro c hc
  have := h.low c (Array.mem_toList_iff.mpr hc)
  exact decide_eq_true (by omega)
theorem tms_lay : ∀ {ts : List Tm}, (∀ t ∈ ts, t.size ≤ 7) → PyData.canLayAll0 (ts.map tmD) = true ∧ PyData.depthAll (ts.map tmD) ≤ 51
  | [], _ => ⟨rfl, by decide⟩
  | t :: ts, h => by
    have ih := tms_lay (ts := ts) fun u hu => h u (by simp [hu])
    have d1 := Tm.deep_lt t
    have z := h t (by simp)
    obtain ⟨c1, c2, _⟩ : (tmD t).canLay0 = true ∧ (tmD t).depth ≤ t.deep + 1 ∧ nd (tmD t) ≤ 2 * t.size := tm_ok t
    simp only [List.map_cons, PyData.canLayAll0, PyData.depthAll, c1, ih.1]
    exact ⟨rfl, by omega⟩
theorem at_lay {a : At} (ok : AtOk 7 a) : (atD a).canLay0 = true ∧ (atD a).depth ≤ 52 := by
  have h := tms_lay (ts := a.ts) fun t ht => (ok.sm t ht).2
  refine ⟨?_, ?_⟩
  · show PyData.canLayAll0 (.str a.nm :: a.ts.map tmD) = true
    simp only [PyData.canLayAll0, name_lay ok.nm, h.1]
    rfl
  · show PyData.depthAll (.str a.nm :: a.ts.map tmD) + 1 ≤ 52
    simp only [PyData.depthAll, PyData.depth]
    omega
theorem ats_lay : ∀ {as : List At}, (∀ a ∈ as, AtOk 7 a) → PyData.canLayAll0 (as.map atD) = true ∧ PyData.depthAll (as.map atD) ≤ 52
  | [], _ => ⟨rfl, by decide⟩
  | a :: as, h => by
    have ih := ats_lay (as := as) fun b hb => h b (by simp [hb])
    have z := at_lay (h a (by simp))
    simp only [List.map_cons, PyData.canLayAll0, PyData.depthAll, z.1, ih.1]
    exact ⟨rfl, by omega⟩
theorem ats_shaped {as : List At} (h : ∀ a ∈ as, AtOk 7 a) : SeqAt.shaped (.list (as.map atD)) = true := by
  have z := ats_lay h
  refine shaped_of ?_ ?_
  · show PyData.canLayAll0 _ = true
    exact z.1
  · show PyData.depthAll _ + 1 ≤ 64
    omega
theorem at_shaped {a : At} (h : AtOk 7 a) : SeqAt.shaped (atD a) = true := shaped_of (at_lay h).1 (by have := (at_lay h).2; omega)
theorem notin_ats {as : List At} {a : At} (h : a ∉ as) : (as.map atD).any (fun z => PyData.eqv z (atD a)) = false := by rw [in_ats, decide_eq_false h]
structure Sy where
  hs : List At
  gl : At
def SyAt (H : Hp) (v : V) (s : Sy) : Prop := ∃ (p q : Addr) (vg : V) (xs : List V), v = .ref p ∧ H p = some (.tup [.ref q, vg]) ∧ H q = some (.tup xs) ∧ AtsAt H xs s.hs ∧ AtAt H vg s.gl
structure SyOk (s : Sy) : Prop where
  hs : AtsOk s.hs
  nd : s.hs.Nodup
  gl : AtOk 7 s.gl
theorem syAt_mono {H H' : Hp} (e : ∀ a xs, H a = some (.tup xs) → H' a = some (.tup xs)) {v : V} {s : Sy} (h : SyAt H v s) : SyAt H' v s := by
  obtain ⟨p, q, vg, xs, rfl, h1, h2, h3, h4⟩ := h
  exact ⟨p, q, vg, xs, rfl, e _ _ h1, e _ _ h2, h3.mono e, atAt_mono e h4⟩
theorem SyAt.same {H H' : Hp} {v : V} {s : Sy} (h : SyAt H v s) (e : Same H H') : SyAt H' v s := syAt_mono (fun a xs z => e _ _ z) h
theorem cut_to {xs : List V} (n : Nat) : cutV xs none (some (n : Int)) = xs.take n := by
  unfold cutV
  rw [HT.sIx_none, HT.sIx_nat, List.drop_zero, Nat.sub_zero]
  rcases Nat.le_total n xs.length with h | h
  · rw [Nat.min_eq_left h]
  · rw [Nat.min_eq_right h, List.take_length, List.take_of_length_le h]
theorem cut_mid {xs : List V} (n m : Nat) : ∃ a b, cutV xs (some (n : Int)) (some (m : Int)) = (xs.drop (min n xs.length)).take b ∧ a = b := ⟨_, _, by unfold cutV; rw [HT.sIx_nat, HT.sIx_nat], rfl⟩
theorem eqv_lnil {ds : List PyData} : PyData.eqv (.list ds) (.list []) = ds.isEmpty := by
  cases ds <;> simp [PyData.eqv, PyData.eqvAll]
theorem ixN_int {n : Nat} {i : Int} (h : 0 ≤ i ∧ i < n) : ixN n i = some i.toNat := by unfold ixN; rw [if_pos h.1, if_pos h.2]
theorem but_none {H H' : Hp} {b : Addr} {j : Nat} (o : But b H H') (B : BoxAt H' b j) {D : Addr} (h : H' D = none) : H D = none := by
  cases e : H D with
  | none => rfl
  | some u =>
    have nb : D ≠ b := by
      rintro rfl
      obtain ⟨ys, hb⟩ := B.some
      rw [hb] at h; cases h
    have := o _ _ e nb
    rw [h] at this; cases this
theorem BoxAt.upd {H : Hp} {b D : Addr} {j : Nat} (B : BoxAt H b j) (n : D ≠ b) (o : HO) : BoxAt (L2.upd H D o) b j := by
  obtain ⟨x, y, z, h, r⟩ := B.ex
  exact ⟨x, y, z, by rw [upd_ne n.symm]; exact h, r⟩
def Low (x : Str) : Prop := ∀ c ∈ tl x, 97 ≤ c ∧ c ≤ 122
theorem low_cut {z : Str} (h : Low z) (lo hi : Option Int) : Low (cutS z lo hi) := by
  intro c hc
  have hc : c ∈ (z.cps.toList.drop (HT.sIx z.length 0 lo)).take (HT.sIx z.length z.length hi - HT.sIx z.length 0 lo) := hc
  exact h c (List.mem_of_mem_drop (List.mem_of_mem_take hc))
theorem cutS_parts {z : Str} {k : Nat} (h : k ≤ z.length) : (cutS z none (some (k : Int))).length = k ∧ (cutS z (some (k : Int)) none).length = z.length - k := by
  have e : z.cps.toList.length = z.length := Array.length_toList
  constructor
  · show (((z.cps.toList.drop (HT.sIx z.length 0 none)).take (HT.sIx z.length z.length (some (k : Int)) - HT.sIx z.length 0 none)).toArray).size = k
    rw [List.size_toArray, HT.sIx_none, HT.sIx_nat, List.length_take, List.length_drop, e]
    omega
  · show (((z.cps.toList.drop (HT.sIx z.length 0 (some (k : Int)))).take (HT.sIx z.length z.length none - HT.sIx z.length 0 (some (k : Int)))).toArray).size = _
    rw [List.size_toArray, HT.sIx_none, HT.sIx_nat, List.length_take, List.length_drop, e]
    omega
theorem low_append {a b : Str} (ha : Low a) (hb : Low b) : Low (a ++ b) := by
  intro c hc
  rw [tl_append] at hc
  rcases List.mem_append.mp hc with hc | hc
  · exact ha c hc
  · exact hb c hc
theorem low_one {c : Nat} (h : 97 ≤ c ∧ c ≤ 122) : Low ⟨#[c]⟩ := by
  intro d hd
  have hd : d ∈ [c] := hd
  simp at hd
  omega
theorem low_join : ∀ ys : List Str, (∀ y ∈ ys, y.length = 1 ∧ Low y) → (Txt.join "" ys).length = ys.length ∧ Low (Txt.join "" ys)
  | [], _ => ⟨by decide +kernel, fun c hc => by have : tl (Txt.join "" []) = [] := by decide +kernel
                                                rw [this] at hc; simp at hc⟩
  | [x], h => by rw [join1]; exact h x (by simp)
  | x :: y :: l, h => by
    have ih := low_join (y :: l) fun z hz => h z (by simp at hz ⊢; exact .inr hz)
    have hx := h x (by simp)
    rw [TL.join_eq] at ih ⊢
    have e0 : ("" : Str).length = 0 := by decide +kernel
    have le : Low ("" : Str) := fun c hc => by have : tl ("" : Str) = [] := by decide +kernel
                                               rw [this] at hc; simp at hc
    refine ⟨?_, low_append (low_append hx.2 le) ih.2⟩
    show (x ++ "" ++ Str.join "" (y :: l)).length = _
    rw [slen, slen, e0, hx.1, ih.1]
    simp only [List.length_cons]
    omega
theorem letter_at {i : Int} (h : 0 ≤ i ∧ i < 26) : ∃ c, atI letters.cps.toList i = some c ∧ (97 ≤ c ∧ c ≤ 122) ∧ (c : Int) = 97 + i := by
  have all : ∀ k : Fin 26, atI letters.cps.toList (k.val : Int) = some (97 + k.val) := by decide +kernel
  obtain ⟨k, rfl⟩ := Int.eq_ofNat_of_zero_le h.1
  exact ⟨_, all ⟨k, by omega⟩, ⟨by show 97 ≤ 97 + k; omega, by show 97 + k ≤ 122; omega⟩, by show ((97 + k : Nat) : Int) = _; omega⟩
/-- words alike but for one sign -/
def Named (pre post : Str) (r d : Int) (ws : List Str) : Prop := ∀ (x : Str) (k : Nat), ws[k]? = some x → ∃ c : Nat, x = pre ++ ⟨#[c]⟩ ++ post ∧ (c : Int) = 97 + (r + d * (k : Int)) % 26
theorem Named.snoc {pre post : Str} {r d : Int} {ws : List Str} (h : Named pre post r d ws) {y : Str} (hy : ∃ c : Nat, y = pre ++ ⟨#[c]⟩ ++ post ∧ (c : Int) = 97 + (r + d * (ws.length : Int)) % 26) : Named pre post r d (ws ++ [y]) := by
  intro x k hx
  by_cases hk : k < ws.length
  · rw [List.getElem?_append_left hk] at hx
    exact h x k hx
  · rw [List.getElem?_append_right (by omega)] at hx
    by_cases e : k = ws.length
    · subst e
      simp at hx
      subst hx
      exact hy
    · rw [List.getElem?_eq_none (by simp; omega)] at hx
      cases hx
theorem Named.len {pre post : Str} {r d : Int} {ws : List Str} (h : Named pre post r d ws) : ∀ x ∈ ws, x.length = pre.length + 1 + post.length := by
  intro x hx
  obtain ⟨k, hk, rfl⟩ := List.getElem_of_mem hx
  obtain ⟨c, e, _⟩ := h _ k (List.getElem?_eq_getElem hk)
  rw [e, slen, slen]
  rfl
theorem Named.nodup {pre post : Str} {r d : Int} {ws : List Str} (h : Named pre post r d ws) (w4 : ws.length ≤ 4) (hd : d = 1 ∨ d = 3 ∨ d = 7 ∨ d = 25) : ws.Nodup := by
  refine List.pairwise_iff_getElem.mpr fun i j hi hj lt e => ?_
  obtain ⟨c, e1, c1⟩ := h _ i (List.getElem?_eq_getElem hi)
  obtain ⟨c', e2, c2⟩ := h _ j (List.getElem?_eq_getElem hj)
  rw [e1, e2] at e
  have e := congrArg tl e
  simp only [tl_append, List.append_assoc] at e
  have e := List.append_cancel_left e
  have cc : c = c' := by
    have t1 : tl (⟨#[c]⟩ : Str) = [c] := rfl
    have t2 : tl (⟨#[c']⟩ : Str) = [c'] := rfl
    rw [t1, t2] at e
    simpa using e
  subst cc
  rw [c1] at c2
  have j4 : j = 1 ∨ j = 2 ∨ j = 3 := by omega
  have i4 : i = 0 ∨ i = 1 ∨ i = 2 := by omega
  rcases hd with rfl | rfl | rfl | rfl <;> omega
theorem iff_nodup {ws : List Str} (h : ws.Nodup) (l : ∀ x ∈ ws, ∀ y ∈ ws, x.length = y.length) : (ws.map fun x : Str => if x = ("if" : Str) then ("iff" : Str) else x).Nodup := by
  refine List.pairwise_map.mpr ?_
  refine List.Pairwise.imp_of_mem (R := (· ≠ ·)) (fun {a b} ha hb ne e => ?_) h
  have l2 : ("if" : Str).length = 2 := by decide +kernel
  have l3 : ("iff" : Str).length = 3 := by decide +kernel
  have lab := l a ha b hb
  by_cases h1 : a = ("if" : Str)
  · by_cases h2 : b = ("if" : Str)
    · exact ne (h1.trans h2.symm)
    · simp only [if_pos h1, if_neg h2] at e
      rw [← e, h1] at lab
      omega
  · by_cases h2 : b = ("if" : Str)
    · simp only [if_neg h1, if_pos h2] at e
      rw [e, h2] at lab
      omega
    · simp only [if_neg h1, if_neg h2] at e
      exact ne e
def spWords : Sp := fun vs H Q _ => ∃ (b : Addr) (j n : Nat), vs = [.ref b, .int (n : Nat)] ∧ 1 ≤ n ∧ n ≤ 4 ∧ BoxAt H b j ∧ j + 10 ≤ 1000000 ∧
  ∀ (p : Addr) (ws : List Str) (H' : Hp), H p = none → H' p = some (.lst (ws.map V.str)) → ws.length = n → (∀ x ∈ ws, NameOk x) → ws.Nodup → BoxAt H' b (j + 10) → But b H H' → Q (.ref p) H'
def rMod : R2 := rI (fun _ j => 0 < j) fun i j => .int (i % j)
def rMulI : R2 := rI CMul fun i j => .int (i * j)
def rAddI : R2 := rI0 fun i j => .int (i + j)
def rAddS : R2 := fun x y H Q => ∃ i j, x = .str i ∧ y = .str j ∧ i.length + j.length ≤ sizeLine ∧ Q (.str (i ++ j)) H
theorem op_modP {X : Cx} : OpR X (binaryOp .Mod) rMod := op_mod
theorem op_mulI {X : Cx} : OpR X (binaryOp .Mult) rMulI := op_mul
theorem op_addI {X : Cx} : OpR X (binaryOp .Add) rAddI := op_add
theorem op_addS {X : Cx} : OpR X (binaryOp .Add) rAddS := op_add_str
def teLetter : TE := tOp rIxS (tVar 2) (tCall spTake [] E0 (tCons (tVar 0) (tCons (tC (.int 26)) tNil)))
def teName : TE := tOp rAddS (tOp rAddS (tSl rSlS (tVar 5) tNoPart (tPart (tVar 6))) (tOp rIxS (tVar 2) (tOp rMod (tOp rAddI (tVar 3) (tOp rMulI (tVar 4) (tVar 8))) (tC (.int 26))))) (tSl rSlS (tVar 5) (tPart (tVar 6)) tNoPart)
def teIff : TE := tIf (tTest (tOp rEq (tVar 9) (tC (.str "if")))) (tC (.str "iff")) (tVar 9)
theorem TmAt.box {H H' : Hp} {b : Addr} {v : V} {t : Tm} {j : Nat} (T : TmAt H v t) (o : But b H H') (B : BoxAt H b j) : TmAt H' v t := by
  obtain ⟨ys, hb⟩ := B.some
  exact T.mono fun a xs z => o _ _ z (ne_of z hb (by intro e; cases e))
theorem AtAt.box {H H' : Hp} {b : Addr} {v : V} {a : At} {j : Nat} (T : AtAt H v a) (o : But b H H') (B : BoxAt H b j) : AtAt H' v a := by
  obtain ⟨ys, hb⟩ := B.some
  exact atAt_mono (fun a xs z => o _ _ z (ne_of z hb (by intro e; cases e))) T
theorem AtsAt.box {H H' : Hp} {b : Addr} {xs : List V} {as : List At} {j : Nat} (T : AtsAt H xs as) (o : But b H H') (B : BoxAt H b j) : AtsAt H' xs as := by
  obtain ⟨ys, hb⟩ := B.some
  exact T.mono fun a xs z => o _ _ z (ne_of z hb (by intro e; cases e))
section
variable {P : Program} {w : World} {K : PySem.W.Frag} {mg : Str → Option Value} {base : Heap}
abbrev NW : List Str := ["_law_box_here", "_law_count", "_law_letters", "_law_begun", "_law_by", "_law_tail", "_law_at", "_law_found", "_law_k", "_law_name"]
theorem scWords : FnScope NW ["_law_box_here", "_law_count"] (defScope sNames) := ⟨rfl, rfl, rfl, by decide +kernel, rfl, by decide +kernel, by decide +kernel⟩
theorem ok_words {f fT : Addr} {fd fdT : FuncData} (F : Fun K "_law_names" "_law_names" sNames f fd) (FT : Fun K "_law_take" "_law_take" sTake fT fdT) (bT : Binds K fdT ["_law_box_here", "_law_reach"] []) (mT : mg "_law_take" = some (.ref fT))
    (mRange : mg "range" = none) (mLen : mg "len" = none) : FnOk P w K mg base CX0 2 f fd ["_law_box_here", "_law_count"] spWords := by
  have GT : FnOk P w K mg base CX0 1 fT fdT ["_law_box_here", "_law_reach"] spTake := ok_take FT
  refine F.ok scWords (fun vs H Q E h => ?_) (fun cdv A outer s H vs Q E hr h => ?_)
  · obtain ⟨b, j, n, rfl, _⟩ := h
    rfl
  obtain ⟨b, j, n, rfl, n1, n4, B, hj, q⟩ := h
  refine ⟨_, pss_cons (ps_asg (pe_tup (pa_cons pe_str (pa_cons (pe_call GT hr (by rfl) mT FT.kp bT .nil pass0 (pa_cons (pv 0) (pa_cons pe_int pa_nil))) (pa_cons (pe_ix ix_list (pe_lst (pa_cons pe_int (pa_cons pe_int (pa_cons pe_int (pa_cons pe_int pa_nil))))) (pe_call GT hr (by rfl) mT FT.kp bT .nil pass0 (pa_cons (pv 0) (pa_cons pe_int pa_nil))) (fun _ _ => rfl)) pa_nil))))
      (pg_tup (by rfl) (pgs_cons (pg_name (i := 2) scWords.nd rfl (Or.inr rfl)) (pgs_cons (pg_name (i := 3) scWords.nd rfl (Or.inr rfl)) (pgs_cons (pg_name (i := 4) scWords.nd rfl (Or.inr rfl)) pgs_nil)))))
    (pss_cons (ps_set (i := 5) scWords.nd rfl (Or.inr rfl) (pe_bm PySem.F.plainAttrs_str PySem.F.slot_str_join PySem.F.type_str_join mt_join pe_str (pa_cons
      (pe_lc (own := [("_law_k", 8)]) (g := gName 8) (tt := tYes) (te := teLetter) rfl scWords.nd (pi_range1 (by rfl) mRange (pa_cons (pe_call GT hr (by rfl) mT FT.kp bT .nil pass0 (pa_cons (pv 0) (pa_cons pe_int pa_nil))) pa_nil))
        (blkOk_by (N := NW) (sc := defScope sNames) (by decide +kernel)) (fun _ _ _ _ _ => pg_name (i := 8) scWords.nd rfl (Or.inl rfl)) (fun _ _ _ _ _ => pts_nil)
        (fun _ _ _ _ _ => pe_ix ix_str (pv 2) (pe_call GT hr (by rfl) mT FT.kp bT .nil pass0 (pa_cons (pv 0) (pa_cons pe_int pa_nil))) (fun _ _ => rfl))) pa_nil)))
    (pss_cons (ps_set (i := 6) scWords.nd rfl (Or.inr rfl) (pe_call GT hr (by rfl) mT FT.kp bT .nil pass0 (pa_cons (pv 0) (pa_cons (pe_op op_addI (pe_callB call_len_str (by rfl) mLen PySem.boot_len (pa_cons (pv 5) pa_nil)) pe_int) pa_nil))))
    (pss_cons (ps_setLc (i := 7) (own := [("_law_k", 8)]) (g := gName 8) (tt := tYes) (te := teName) rfl scWords.nd rfl rfl (by rfl) (pi_range1 (by rfl) mRange (pa_cons (pv 1) pa_nil))
        (blkOk_by (N := NW) (sc := defScope sNames) (by decide +kernel)) (fun _ _ _ _ _ => pg_name (i := 8) scWords.nd rfl (Or.inl rfl)) (fun _ _ _ _ _ => pts_nil)
        (fun _ _ _ _ _ => pe_op op_addS (pe_op op_addS (pe_slice sl_str (pv 5) po_none (po_some (pv 6))) (pe_ix ix_str (pv 2) (pe_op op_modP (pe_op op_addI (pv 3) (pe_op op_mulI (pv 4) (pv 8))) pe_int) (fun _ _ => rfl))) (pe_slice sl_str (pv 5) (po_some (pv 6)) po_none)))
    (pss_one (ps_ret (pe_lc (own := [("_law_name", 9)]) (g := gName 9) (tt := tYes) (te := teIff) rfl scWords.nd (pi_list (pv 7))
        (blkOk_by (N := NW) (sc := defScope sNames) (by decide +kernel)) (fun _ _ _ _ _ => pg_name (i := 9) scWords.nd rfl (Or.inl rfl)) (fun _ _ _ _ _ => pts_nil)
        (fun _ _ _ _ _ => pe_ifExp (pt_cmpR op_eq (pv 9) pe_str (nomark _)) pe_str (pv 9)))))))), ?_⟩
  have big : (10000 : Nat) ≤ sizeLine := by decide
  have l0 : ("" : Str).length = 0 := by decide +kernel
  have ll : letters.length = 26 := by decide +kernel
  refine ⟨_, rfl, b, _, j, rfl, B, by omega, by decide, by decide, fun r1 H1 a0 a1 B1 o1 => ?_⟩
  refine ⟨(by show 4 ≤ sizeLine; decide), fun d hd => ?_⟩
  have s2 := same_new hd (.lst [V.int 1, V.int 3, V.int 7, V.int 25])
  refine ⟨_, rfl, b, _, _, rfl, B1.same s2, by omega, by decide, by decide, fun r2 H3 b0 b1 B3 o3 => ?_⟩
  obtain ⟨y1, hb1⟩ := B1.some
  have db : d ≠ b := (ne_of_none hb1 hd).symm
  have hd3 := o3 _ _ upd_same db
  obtain ⟨by_, hat, hby⟩ : ∃ n : Int, atI [V.int 1, V.int 3, V.int 7, V.int 25] r2 = some (.int n) ∧ (n = 1 ∨ n = 3 ∨ n = 7 ∨ n = 25) := by
    rcases (by omega : r2 = 0 ∨ r2 = 1 ∨ r2 = 2 ∨ r2 = 3) with e | e | e | e <;> subst e
    · exact ⟨_, at_of (j := 0) rfl rfl, by omega⟩
    · exact ⟨_, at_of (j := 1) rfl rfl, by omega⟩
    · exact ⟨_, at_of (j := 2) rfl rfl, by omega⟩
    · exact ⟨_, at_of (j := 3) rfl rfl, by omega⟩
  refine ⟨d, _, _, _, rfl, rfl, .inl (.inl hd3), hat, (by show 3 ≤ sizeLine; decide), fun t ht => ?_⟩
  have s4 := same_new ht (.tup [V.str letters, V.int r1, V.int by_])
  refine ⟨t, _, rfl, .inl (.inl upd_same), rfl, _, _, rfl, _, _, rfl, _, _, rfl, rfl, ?_⟩
  have B4 := B3.same s4
  refine ⟨rfl, _, rfl, b, _, _, rfl, B4, by omega, by decide, by decide, fun m3 H6 c0 c1 B6 o6 => ?_⟩
  have o06 : But b H H6 := o1.trans ((but_of s2).trans (o3.trans ((but_of s4).trans o6)))
  refine ⟨_, rfl, by omega, by omega, fun D hD => lc_range (lo := 0) (fun i H7 => ∃ ys : List Str, H7 D = some (.lst (ys.map V.str)) ∧ ys.length = i ∧ (∀ y ∈ ys, y.length = 1 ∧ Low y) ∧ BoxAt H7 b (j + 3 + i) ∧ But b H H7)
    ⟨[], upd_same, rfl, by simp, (B6.same (same_new hD _)).more (by omega), o06.trans (but_of (same_new hD _))⟩ ?_ ?_⟩
  · rintro i H7 hi ⟨ys, h7, yl, yo, B7, o7⟩
    have Db : D ≠ b := by
      obtain ⟨y6, hb6⟩ := B6.some
      exact (ne_of_none hb6 hD).symm
    refine ⟨rfl, ?_⟩
    unfold teLetter
    refine ⟨_, rfl, _, rfl, b, _, _, rfl, B7, by omega, by decide, by decide, fun r H8 d0 d1 B8 o8 => ?_⟩
    obtain ⟨c, hc, cl, _⟩ := letter_at ⟨d0, d1⟩
    refine ⟨letters, _, c, rfl, rfl, by omega, hc, ys.map V.str, o8 _ _ h7 Db, by rw [List.length_map]; omega, ys ++ [⟨#[c]⟩], ?_, by simp [yl], ?_, (B8.upd Db _).more (by omega), ?_⟩
    · rw [upd_same, List.map_append]; rfl
    · intro y hy
      rcases List.mem_append.mp hy with hy | hy
      · exact yo y hy
      · obtain rfl : y = ⟨#[c]⟩ := by simpa using hy
        exact ⟨rfl, low_one cl⟩
    · intro x o z nb
      have xD : x ≠ D := ne_of_none z (but_none o06 B6 hD)
      rw [upd_ne xD]
      exact o8 _ _ (o7 _ _ z nb) nb
  · rintro H7 ⟨ys, h7, yl, yo, B7, o7⟩
    obtain ⟨jl, jw⟩ := low_join ys yo
    have sum1 : ∀ zs : List Str, (∀ y ∈ zs, y.length = 1 ∧ Low y) → (zs.map (·.length)).sum = zs.length := by
      intro zs
      induction zs with
      | nil => intro _; rfl
      | cons z zs ih =>
        intro h
        rw [List.map_cons, List.sum_cons, ih fun y hy => h y (by simp [hy]), (h z (by simp)).1, List.length_cons]
        omega
    refine ⟨"", D, ys, rfl, rfl, .inl (.inl (.inl h7)), by rw [l0, sum1 ys yo]; omega, ?_⟩
    generalize Txt.join "" ys = tail at jl jw
    have tl5 : tail.length ≤ 5 := by omega
    refine ⟨_, rfl, _, rfl, tail, rfl, by omega, _, _, rfl, rfl, b, _, _, rfl, B7, by omega, by omega, by omega, fun r8 H8 e0 e1 B8 o8 => ?_⟩
    obtain ⟨k, rfl⟩ := Int.eq_ofNat_of_zero_le e0
    obtain ⟨p1, p2⟩ := cutS_parts (z := tail) (k := k) (by omega)
    have w1 := low_cut jw none (some (k : Int))
    have w2 := low_cut jw (some (k : Int)) none
    have o08 := o7.trans o8
    refine ⟨_, rfl, _, rfl, by omega, by omega, fun D2 hD2 => lc_range (lo := 0) (fun i H9 => ∃ ws : List Str, H9 D2 = some (.lst (ws.map V.str)) ∧ ws.length = i ∧ (∀ x ∈ ws, 1 ≤ x.length ∧ x.length ≤ 6 ∧ Low x) ∧ Named (cutS tail none (some (k : Int))) (cutS tail (some (k : Int)) none) r1 by_ ws ∧ Same H8 H9) ⟨[], upd_same, rfl, by simp, fun x i h => by simp at h, same_new hD2 _⟩ ?_ ?_⟩
    · rintro i H9 hi ⟨ws, h9, wl, wo, wn, s9⟩
      refine ⟨rfl, ?_⟩
      unfold teName
      have i4 : i < 4 := by omega
      obtain ⟨c, hc, cl, ce⟩ := letter_at (i := (r1 + by_ * (0 + (i : Int))) % 26) (by omega)
      have one : (⟨#[c]⟩ : Str).length = 1 := rfl
      refine ⟨_, rfl, _, rfl, (k : Int), rfl, tail, rfl, by omega, ?_⟩
      refine ⟨_, rfl, _, rfl, _, rfl, _, rfl, _, _, rfl, rfl, .inl ⟨by omega, by omega⟩, _, _, rfl, rfl, _, _, rfl, rfl, (by show (0 : Int) < 26; decide), letters, _, c, rfl, rfl, by omega, hc, ?_⟩
      refine ⟨_, _, rfl, rfl, by rw [p1, one]; omega, ?_⟩
      refine ⟨_, rfl, _, rfl, (k : Int), rfl, tail, rfl, by omega, ?_⟩
      refine ⟨_, _, rfl, rfl, by rw [slen, p1, p2, one]; omega, ?_⟩
      refine ⟨ws.map V.str, h9, by rw [List.length_map]; omega, ws ++ [cutS tail none (some (k : Int)) ++ ⟨#[c]⟩ ++ cutS tail (some (k : Int)) none], by rw [upd_same, List.map_append]; rfl, by simp [wl], ?_, wn.snoc ⟨c, rfl, by rw [ce, wl]; simp⟩, ?_⟩
      · intro x hx
        rcases List.mem_append.mp hx with hx | hx
        · exact wo x hx
        · obtain rfl : x = _ := List.mem_singleton.mp hx
          refine ⟨?_, ?_, low_append (low_append w1 (low_one cl)) w2⟩
          · rw [slen, slen, p1, p2, one]; omega
          · rw [slen, slen, p1, p2, one]; omega
      · intro x o z
        rw [upd_ne (ne_of_none z hD2)]
        exact s9 _ _ z
    · rintro H9 ⟨ws, h9, wl, wo, wn, s9⟩
      have wl4 : ws.length = n := by rw [wl]; omega
      refine ⟨_, rfl, D2, rfl, ⟨_, .inl (.inl h9)⟩, fun D3 hD3 => lc_list (K := K) (a := D2) (xs := ws.map V.str) (fun i H10 => H10 D3 = some (.lst (((ws.take i).map fun x : Str => if x = ("if" : Str) then ("iff" : Str) else x).map V.str)) ∧ Same H9 H10) ⟨upd_same, same_new hD3 _⟩ (fun i H10 _ h => .inl (.inl (h.2 _ _ h9))) ?_ ?_⟩
      · rintro i x H10 hi ⟨h10, s10⟩
        rw [List.getElem?_map] at hi
        obtain ⟨y, hy, rfl⟩ : ∃ y, ws[i]? = some y ∧ x = .str y := by
          cases hq : ws[i]? with
          | none => rw [hq] at hi; cases hi
          | some p => rw [hq] at hi; exact ⟨p, rfl, by simpa using hi.symm⟩
        have tk : ws.take (i + 1) = ws.take i ++ [y] := by rw [List.take_add_one, hy]; rfl
        refine ⟨rfl, ?_⟩
        unfold teIff
        have fin : ∀ z : Str, z = (if y = ("if" : Str) then ("iff" : Str) else y) → ∃ acc, H10 D3 = some (.lst acc) ∧ acc.length < sizeLine ∧ (upd H10 D3 (.lst (acc ++ [V.str z]))) D3 = some (.lst (((ws.take (i + 1)).map fun x : Str => if x = ("if" : Str) then ("iff" : Str) else x).map V.str)) ∧ Same H9 (upd H10 D3 (.lst (acc ++ [V.str z]))) := by
          rintro z rfl
          refine ⟨_, h10, ?_, ?_, ?_⟩
          · rw [List.length_map, List.length_map, List.length_take]; omega
          · rw [upd_same, tk, List.map_append, List.map_append]; rfl
          · intro x o z
            rw [upd_ne (ne_of_none z hD3)]
            exact s10 _ _ z
        by_cases hif : y = ("if" : Str)
        · exact ⟨_, rfl, rfl, true, congrArg V.bl (decide_eq_true (by rw [hif])), iteT (fin _ (if_pos hif).symm)⟩
        · exact ⟨_, rfl, rfl, false, congrArg V.bl (decide_eq_false fun z => hif (V.str.inj z)), iteF ⟨_, rfl, fin _ (if_neg hif).symm⟩⟩
      · rintro H10 ⟨h10, s10⟩
        rw [List.length_map, List.take_length] at h10
        have o09 : But b H H9 := o08.trans (but_of s9)
        refine q D3 _ H10 (but_none o09 (B8.same s9) hD3) h10 (by rw [List.length_map, wl4]) ?_ (iff_nodup (wn.nodup (by omega) hby) fun x hx y hy => by rw [wn.len x hx, wn.len y hy]) (((B8.same s9).same s10).more (by omega)) (o09.trans (but_of s10))
        intro x hx
        obtain ⟨y, hy, rfl⟩ := List.mem_map.mp hx
        by_cases hif : y = ("if" : Str)
        · rw [if_pos hif]
          exact ⟨by decide +kernel, by decide +kernel, by decide +kernel, by decide +kernel⟩
        · rw [if_neg hif]
          obtain ⟨g1, g2, g3⟩ := wo y hy
          exact ⟨g1, g2, g3, hif⟩
end
end Rp

set_option maxHeartbeats 16000000
/-! The law's terms; atoms without copies. -/
namespace Rp
open PySem PySem.Spec PyProof.Rows L2 TL StX
theorem dp_ints {K : PySem.W.Frag} {H : Hp} : ∀ l : List Int, DpAll K H (l.map V.int) (l.map PyData.int)
  | [] => .nil
  | n :: l => .cons (.int n) (dp_ints l)
abbrev poolV : List V := [.int 0, .int 1, .int 99]
def spLTerm (n : Nat) : Sp := fun vs H Q _ => ∃ (b p : Addr) (j d : Nat), vs = [.ref b, .ref p, .int d] ∧ BoxAt H b j ∧ H p = some (.lst poolV) ∧ p ≠ b ∧ d < n ∧ d ≤ 2 ∧ j + (4 * 2 ^ d - 1) ≤ 1000000 ∧
  ∀ (v : V) (t : Tm) (H' : Hp), TmAt H' v t → t.small → t.size + 1 ≤ 2 ^ (d + 1) → BoxAt H' b (j + (4 * 2 ^ d - 1)) → But b H H' → Q v H'
def spUnlikeL : Sp := fun vs H Q _ => ∃ (q : Addr) (xs : List V) (as : List At), vs = [.ref q] ∧ H q = some (.lst xs) ∧ AtsAt H xs as ∧ AtsOk as ∧
  ∀ (p : Addr) (ys : List V) (bs : List At) (H' : Hp), H' p = some (.tup ys) → AtsAt H' ys bs → AtsOk bs → bs.Nodup → bs.length ≤ as.length → Same H H' → Q (.ref p) H'
def teLeaf (K : PySem.W.Frag) : TE := tIf (tAnd (tTest (tOp (rNeD K) (tVar 1) (tLst tNil))) (tTest (tOp (rI0 fun i j => .bl (decide (j < i))) (tCall spTake [] E0 (tCons (tVar 0) (tCons (tC (.int 3)) tNil))) (tC (.int 0)))))
  (tCall spPick [] E0 (tCons (tVar 0) (tCons (tVar 1) tNil))) (tTup (tCons (tC (.str "0")) tNil))
theorem leaf_ok {K : PySem.W.Frag} {H : Hp} {b p : Addr} {j : Nat} {r : List (Option V)} {Q : V → Hp → Prop} (B : BoxAt H b j) (hp : H p = some (.lst poolV)) (pb : p ≠ b) (hj : j + 2 ≤ 1000000)
    (q : ∀ (v : V) (t : Tm) (H' : Hp), TmAt H' v t → t.small → t.size = 1 → BoxAt H' b (j + 2) → But b H H' → Q v H') : teLeaf K (some (.ref b) :: some (.ref p) :: r) H Q := by
  unfold teLeaf
  refine ⟨_, rfl, (by show 0 ≤ sizeLine; decide), fun l hl => ?_⟩
  have s1 := same_new hl (.lst ([] : List V))
  have B1 := B.same s1
  have hp1 := s1 _ _ hp
  refine ⟨.list ([0, 1, 99].map .int), .list [], .lst (.inl (.inl hp1)) (dp_ints [0, 1, 99]), .lst (.inl (.inl upd_same)) .nil, ints_shaped _, ints_shaped [], true, congrArg (fun z => V.bl (!z)) eqv_lnil, iteT ?_⟩
  refine ⟨_, rfl, b, _, j, rfl, B1, by omega, by decide, by decide, fun r3 H2 c0 c1 B2 o2 => ?_⟩
  have hp2 := o2 _ _ hp1 pb
  refine ⟨_, _, rfl, rfl, decide ((0 : Int) < r3), rfl, ?_⟩
  by_cases h3 : (0 : Int) < r3
  · rw [decide_eq_true h3]
    refine iteT ⟨_, rfl, _, rfl, b, p, _, _, rfl, B2, by omega, hp2, pb, by decide, by decide, fun v H3 hv B3 o3 => ?_⟩
    obtain ⟨m, rfl, m0, m9⟩ : ∃ m : Int, v = .int m ∧ 0 ≤ m ∧ m ≤ 99 := by
      simp only [poolV, List.mem_cons, List.not_mem_nil, or_false] at hv
      rcases hv with rfl | rfl | rfl
      · exact ⟨_, rfl, by decide, by decide⟩
      · exact ⟨_, rfl, by decide, by decide⟩
      · exact ⟨_, rfl, by decide, by decide⟩
    exact q _ (.v m) H3 (.v m) (fun k hk => by simp [Tm.nums] at hk; subst hk; exact ⟨m0, m9⟩) rfl (B3.more (by omega)) ((but_of s1).trans (o2.trans o3))
  · rw [decide_eq_false h3]
    refine iteF ⟨(by show 1 ≤ sizeLine; decide), fun c hc => ?_⟩
    have s3 := same_new hc (.tup [V.str "0"])
    exact q (.ref c) .z _ (.z upd_same) (fun k hk => by simp [Tm.nums] at hk) rfl ((B2.same s3).more (by omega)) ((but_of s1).trans (o2.trans (but_of s3)))
section
variable {P : Program} {w : World} {K : PySem.W.Frag} {mg : Str → Option Value} {base : Heap}
abbrev NT : List Str := ["_law_box_here", "_law_pool", "_law_deep", "_law_way", "_law_one"]
theorem scLTerm : FnScope NT ["_law_box_here", "_law_pool", "_law_deep"] (defScope sTermL) := ⟨rfl, rfl, rfl, by decide +kernel, rfl, by decide +kernel, by decide +kernel⟩
theorem ok_lterm {n : Nat} {f fT fP : Addr} {fd fdT dP : FuncData} (F : Fun K "_law_term" "_law_term" sTermL f fd) (b2 : Binds K fd ["_law_box_here", "_law_pool", "_law_deep"] []) (mF : mg "_law_term" = some (.ref f))
    (G : FnOk P w K mg base CX0 (n + 2) f fd ["_law_box_here", "_law_pool", "_law_deep"] (spLTerm n))
    (GT : FnOk P w K mg base CX0 1 fT fdT ["_law_box_here", "_law_reach"] spTake) (kT : PySem.W.keepIn K (.ref fT) = true) (bT : Binds K fdT ["_law_box_here", "_law_reach"] []) (mT : mg "_law_take" = some (.ref fT))
    (GP : FnOk P w K mg base CX0 2 fP dP ["_law_box_here", "_law_things"] spPick) (kP : PySem.W.keepIn K (.ref fP) = true) (bP : Binds K dP ["_law_box_here", "_law_things"] []) (mP : mg "_law_pick" = some (.ref fP)) :
    FnOk P w K mg base CX0 (n + 3) f fd ["_law_box_here", "_law_pool", "_law_deep"] (spLTerm (n + 1)) := by
  refine F.ok scLTerm (fun vs H Q E h => ?_) (fun cdv A outer s H vs Q E hr h => ?_)
  · obtain ⟨b, p, j, d, rfl, _⟩ := h
    rfl
  obtain ⟨b, p, j, d, rfl, B, hp, pb, dn, d4, hj, q⟩ := h
  have r1 : Room 1 _ := hr.mono (by omega)
  have r2 : Room 2 _ := hr.mono (by omega)
  refine ⟨_, pss_cons (ps_set (i := 3) scLTerm.nd rfl (Or.inl rfl) (pe_call GT r1 rfl mT kT bT .nil pass0 (pa_cons (pv 0) (pa_cons pe_int pa_nil))))
    (pss_cons (ps_if (PW.pt (pw_or (pt_cmpR op_eq (pv 2) pe_int (nomark _)) (pw_or1 (pt_cmpR op_lt (pv 3) pe_int (nomark _))))) (pss_one (ps_ret (pe_ifExp (PW.pt (pw_and (pt_cmpR (op_neD hr.units) (pv 1) (pe_lst pa_nil) (nomark _))
        (pw_and1 (pt_cmpR op_gt (pe_call GT r1 rfl mT kT bT .nil pass0 (pa_cons (pv 0) (pa_cons pe_int pa_nil))) pe_int (nomark _)))))
        (pe_call GP r2 rfl mP kP bP .nil pass0 (pa_cons (pv 0) (pa_cons (pv 1) pa_nil))) (pe_tup (pa_cons pe_str pa_nil))))) pss_nil)
    (pss_cons (ps_if (pt_cmpR op_lt (pv 3) pe_int (nomark _)) (pss_one (ps_ret (pe_tup (pa_cons pe_str (pa_cons (pe_call G hr rfl mF F.kp b2 .nil pass0 (pa_cons (pv 0) (pa_cons (pv 1) (pa_cons (pe_op op_sub (pv 2) pe_int) pa_nil)))) pa_nil))))) pss_nil)
    (pss_cons (ps_set (i := 4) scLTerm.nd rfl (Or.inl rfl) (pe_call G hr rfl mF F.kp b2 .nil pass0 (pa_cons (pv 0) (pa_cons (pv 1) (pa_cons (pe_op op_sub (pv 2) pe_int) pa_nil)))))
    (pss_one (ps_ret (pe_tup (pa_cons pe_str (pa_cons (pv 4) (pa_cons (pe_call G hr rfl mF F.kp b2 .nil pass0 (pa_cons (pv 0) (pa_cons (pv 1) (pa_cons (pe_op op_sub (pv 2) pe_int) pa_nil)))) pa_nil))))))))), ?_⟩
  have p1 : 1 ≤ 2 ^ d := Nat.one_le_two_pow
  have p2 : 2 ^ (d + 1) = 2 * 2 ^ d := by rw [Nat.pow_succ]; omega
  refine ⟨_, rfl, b, _, j, rfl, B, by omega, by decide, by decide, fun way H1 w0 w5 B1 o1 => ?_⟩
  have hp1 := o1 _ _ hp pb
  by_cases h0 : d = 0
  · refine ⟨_, rfl, rfl, true, congrArg V.bl (decide_eq_true (by rw [h0]; rfl)), iteT ?_⟩
    exact leaf_ok B1 hp1 pb (by omega) fun v t H2 T sm sz B2 o2 => q v t H2 T sm (by omega) (B2.more (by omega)) (o1.trans o2)
  · refine ⟨_, rfl, rfl, false, congrArg V.bl (decide_eq_false (fun z => h0 (by injection z with z; omega))), iteF ?_⟩
    refine ⟨_, rfl, _, _, rfl, rfl, decide (way < 2), rfl, ?_⟩
    by_cases h2 : way < 2
    · rw [decide_eq_true h2]
      refine iteT ?_
      exact leaf_ok B1 hp1 pb (by omega) fun v t H2 T sm sz B2 o2 => q v t H2 T sm (by omega) (B2.more (by omega)) (o1.trans o2)
    · rw [decide_eq_false h2]
      refine iteF ?_
      obtain ⟨e, rfl⟩ : ∃ e, d = e + 1 := ⟨d - 1, by omega⟩
      have e1 : ([V.ref b, V.ref p, V.int (((e + 1 : Nat) : Int) - 1)] : List V) = [V.ref b, V.ref p, V.int (e : Nat)] := by rw [show (((e + 1 : Nat) : Int) - 1) = (e : Nat) by omega]
      have p0 : 1 ≤ 2 ^ e := Nat.one_le_two_pow
      have p3 : 2 ^ (e + 1) = 2 * 2 ^ e := by rw [Nat.pow_succ]; omega
      refine ⟨_, rfl, _, _, rfl, rfl, decide (way < 4), rfl, ?_⟩
      by_cases h3 : way < 4
      · rw [decide_eq_true h3]
        refine iteT ⟨_, rfl, _, rfl, _, rfl, _, _, rfl, rfl, b, p, _, e, e1, B1, hp1, pb, by omega, by omega, by omega, fun v t H2 T sm sz B2 o2 => ?_⟩
        refine ⟨(by show 2 ≤ sizeLine; decide), fun c hc => ?_⟩
        have s3 := same_new hc (.tup [V.str "s", v])
        exact q (.ref c) (.s t) _ (.s upd_same (T.same s3)) sm (by rw [p2]; simp only [Tm.size]; omega) ((B2.same s3).more (by omega)) (o1.trans (o2.trans (but_of s3)))
      · rw [decide_eq_false h3]
        refine iteF ⟨_, rfl, _, rfl, _, rfl, _, _, rfl, rfl, b, p, _, e, e1, B1, hp1, pb, by omega, by omega, by omega, fun v t H2 T sm sz B2 o2 => ?_⟩
        have hp2 := o2 _ _ hp1 pb
        refine ⟨_, rfl, _, rfl, _, rfl, _, rfl, _, _, rfl, rfl, b, p, _, e, e1, B2, hp2, pb, by omega, by omega, by omega, fun v' t' H3 T' sm' sz' B3 o3 => ?_⟩
        refine ⟨(by show 3 ≤ sizeLine; decide), fun c hc => ?_⟩
        have s4 := same_new hc (.tup [V.str "f", v, v'])
        exact q (.ref c) (.f t t') _ (.f upd_same ((T.box o3 B2).same s4) (T'.same s4)) (fun k hk => by
            rcases List.mem_append.mp hk with hk | hk
            · exact sm k hk
            · exact sm' k hk) (by rw [p2]; simp only [Tm.size]; omega) ((B3.same s4).more (by omega)) (o1.trans (o2.trans (o3.trans (but_of s4))))
theorem lterm_ok {f fT fP : Addr} {fd fdT dP : FuncData} (F : Fun K "_law_term" "_law_term" sTermL f fd) (b2 : Binds K fd ["_law_box_here", "_law_pool", "_law_deep"] []) (mF : mg "_law_term" = some (.ref f))
    (GT : FnOk P w K mg base CX0 1 fT fdT ["_law_box_here", "_law_reach"] spTake) (kT : PySem.W.keepIn K (.ref fT) = true) (bT : Binds K fdT ["_law_box_here", "_law_reach"] []) (mT : mg "_law_take" = some (.ref fT))
    (GP : FnOk P w K mg base CX0 2 fP dP ["_law_box_here", "_law_things"] spPick) (kP : PySem.W.keepIn K (.ref fP) = true) (bP : Binds K dP ["_law_box_here", "_law_things"] []) (mP : mg "_law_pick" = some (.ref fP)) :
    ∀ n : Nat, FnOk P w K mg base CX0 (n + 2) f fd ["_law_box_here", "_law_pool", "_law_deep"] (spLTerm n)
  | 0 => none_left fun vs H Q E h => by
    obtain ⟨b, p, j, d, _, _, _, _, h, _⟩ := h
    omega
  | n + 1 => ok_lterm F b2 mF (lterm_ok F b2 mF GT kT bT mT GP kP bP mP n) GT kT bT mT GP kP bP mP
theorem scUnlikeL2 : FnScope ["_law_atoms", "_law_found", "_law_atom_here"] ["_law_atoms"] (defScope sUnlikeL) := ⟨rfl, rfl, rfl, by decide +kernel, rfl, by decide +kernel, by decide +kernel⟩
theorem ok_unlikel {f : Addr} {fd : FuncData} (F : Fun K "_law_unlike" "_law_unlike" sUnlikeL f fd) (mTuple : mg "tuple" = none) : FnOk P w K mg base CX0 1 f fd ["_law_atoms"] spUnlikeL := by
  refine F.ok scUnlikeL2 (fun vs H Q E h => ?_) (fun cdv A outer s H vs Q E hr h => ?_)
  · obtain ⟨q, xs, as, rfl, _⟩ := h
    rfl
  obtain ⟨q, xs, as, rfl, hq, A1, ok, fin⟩ := h
  refine ⟨_, pss_cons (ps_set (i := 1) scUnlikeL2.nd rfl (Or.inl rfl) (pe_lst pa_nil))
    (pss_cons (ps_for PassesOwn.never rfl (pi_list (pv 0)) (pg_name (i := 2) scUnlikeL2.nd rfl (Or.inl rfl))
      (pss_one (ps_if (pt_cmpR (op_notInD (hu65 hr)) (pv 2) (pv 1) (by rfl)) (pss_one (ps_expr (pe_bm PySem.F.plainAttrs_list PySem.F.slot_list_append PySem.F.type_list_append mt_append (pv 1) (pa_cons (pv 2) pa_nil)))) pss_nil)))
    (pss_one (ps_ret (pe_callTy call_tuple_of (by rfl) mTuple (by decide +kernel) (pa_cons (pv 1) pa_nil))))), ?_⟩
  have big : (10000 : Nat) ≤ sizeLine := by decide
  have xl := A1.len
  have o6 := ok.few
  refine ⟨(by show 0 ≤ sizeLine; decide), fun l hl => ?_⟩
  have s1 := same_new hl (.lst ([] : List V))
  have hq1 := s1 _ _ hq
  have lq : q ≠ l := ne_of_none hq hl
  refine ⟨_, rfl, q, rfl, ⟨_, .inl (.inl hq1)⟩, for_list (K := K) (a := q) (xs := xs) (fun i σ H2 => ∃ (x2 : Option V) (ys : List V) (bs : List At), σ = [some (.ref q), some (.ref l), x2] ∧ H2 l = some (.lst ys) ∧ AtsAt H2 ys bs ∧ AtsOk bs ∧ bs.Nodup ∧ bs.length ≤ i ∧ Same H H2)
    ⟨none, [], [], rfl, upd_same, trivial, ⟨by simp, by simp⟩, by simp, by simp, s1⟩ (fun i σ H2 _ ⟨_, _, _, _, _, _, _, _, _, h⟩ => .inl (.inl (h _ _ hq))) ?_ ?_⟩
  · rintro i x σ H2 hi ⟨x2, ys, bs, rfl, h2, A2, ok2, nd2, bl, s2⟩
    obtain ⟨a, ha, T⟩ := A1.get hi
    have am := List.mem_of_getElem? ha
    have li : i < as.length := (List.getElem?_eq_some_iff.mp ha).1
    have yl := A2.len
    have T2 := atAt_same T s2
    refine ⟨_, rfl, _, rfl, atD a, bs.map atD, at_dp T2, .lst (.inl (.inl h2)) (ats_dp A2), at_shaped (ok.ok a am), ats_shaped fun b hb => ok2.ok b hb, ?_⟩
    by_cases nin : a ∈ bs
    · refine ⟨false, by rw [in_ats, decide_eq_true nin]; rfl, iteF ?_⟩
      exact ⟨_, ys, bs, rfl, h2, A2, ok2, nd2, by omega, s2⟩
    · refine ⟨true, by rw [notin_ats nin]; rfl, iteT ?_⟩
      refine ⟨_, rfl, .inl ⟨rfl, _, .inl (.inl h2)⟩, _, rfl, l, _, _, rfl, rfl, h2, by omega, ?_⟩
      have keep : ∀ b zs, H2 b = some (.tup zs) → (upd H2 l (.lst (ys ++ [x]))) b = some (.tup zs) := fun b zs z => by rw [upd_ne (ne_of z h2 (by intro e; cases e))]; exact z
      refine ⟨_, ys ++ [x], bs ++ [a], rfl, upd_same, (A2.mono keep).append ⟨atAt_mono keep T2, trivial⟩, AtsOk.mk (by simp; omega) (fun c hc => ?_), ?_, by simp; omega, ?_⟩
      · rcases List.mem_append.mp hc with hc | hc
        · exact ok2.ok c hc
        · obtain rfl : c = a := by simpa using hc
          exact ok.ok c am
      · rw [List.nodup_append]
        exact ⟨nd2, by simp, fun x hx y hy e => by
          obtain rfl : y = a := by simpa using hy
          exact nin (e ▸ hx)⟩
      · intro c o z
        rw [upd_ne (ne_of_none z hl)]
        exact s2 _ _ z
  · rintro σ H2 ⟨x2, ys, bs, rfl, h2, A2, ok2, nd2, bl, s2⟩
    exact ⟨_, rfl, l, _, rfl, .inl ⟨.inl (.inl h2), fun p hp => fin p ys bs _ upd_same (A2.same (same_new hp _)) ok2 nd2 (by omega) (s2.trans (same_new hp _))⟩⟩
end
end Rp

set_option maxHeartbeats 16000000
/-! The law's shapes, atoms, sayings. -/
namespace Rp
open PySem PySem.Spec PyProof.Rows L2 TL StX
abbrev KVs := List (L2.Key × V)
def ShE (v : V) : Prop := ∃ m : Nat, v = .int (m : Nat) ∧ 1 ≤ m ∧ m ≤ 2
def ShOk (ws : List Str) (kvs : KVs) : Prop := ∀ x ∈ ws, ∃ v, valV kvs (.inr x) = some v ∧ ShE v
theorem merge_has : ∀ {more acc : KVs} {k : L2.Key}, (∀ kv ∈ more, ShE kv.2) → ((∃ v, valV acc k = some v ∧ ShE v) ∨ k ∈ more.map (·.1)) → ∃ v, valV (mergeK acc more) k = some v ∧ ShE v
  | [], acc, k, _, h => by
    rcases h with h | h
    · exact h
    · simp at h
  | kv :: more, acc, k, e, h => by
    have e1 : mergeK acc (kv :: more) = mergeK (putK acc kv.1 kv.2) more := rfl
    rw [e1]
    refine merge_has (fun z hz => e z (by simp [hz])) ?_
    by_cases z : k = kv.1
    · exact .inl ⟨kv.2, by rw [valV_put, if_pos z], e kv (by simp)⟩
    · rcases h with ⟨v, h1, h2⟩ | h
      · exact .inl ⟨v, by rw [valV_put, if_neg z]; exact h1, h2⟩
      · simp only [List.map_cons, List.mem_cons] at h
        exact .inr (h.resolve_left z)
def PairsAt (H : Hp) : List Addr → KVs → Prop
  | [], [] => True
  | p :: ps, kv :: kvs => H p = some (.tup [kV kv.1, kv.2]) ∧ PairsAt H ps kvs
  | _, _ => False
theorem PairsAt.mono {H H' : Hp} (e : ∀ a xs, H a = some (.tup xs) → H' a = some (.tup xs)) : ∀ {ps : List Addr} {kvs : KVs}, PairsAt H ps kvs → PairsAt H' ps kvs
  | [], [], _ => trivial
  | _ :: _, _ :: _, h => ⟨e _ _ h.1, PairsAt.mono e h.2⟩
theorem PairsAt.len {H : Hp} : ∀ {ps : List Addr} {kvs : KVs}, PairsAt H ps kvs → ps.length = kvs.length
  | [], [], _ => rfl
  | _ :: _, _ :: _, h => congrArg (· + 1) (PairsAt.len h.2)
theorem PairsAt.snoc {H : Hp} {p : Addr} {kv : L2.Key × V} (hp : H p = some (.tup [kV kv.1, kv.2])) : ∀ {ps : List Addr} {kvs : KVs}, PairsAt H ps kvs → PairsAt H (ps ++ [p]) (kvs ++ [kv])
  | [], [], _ => ⟨hp, trivial⟩
  | _ :: _, _ :: _, h => ⟨h.1, PairsAt.snoc hp h.2⟩
theorem PairsAt.paired {K : PySem.W.Frag} {H : Hp} : ∀ {ps : List Addr} {kvs : KVs}, PairsAt H ps kvs → Paired (fun p (kv : L2.Key × V) => SqT K H p [kV kv.1, kv.2]) ps kvs
  | [], [], _ => .nil
  | _ :: _, _ :: _, h => .cons (.inl (.inl h.1)) (PairsAt.paired h.2)
theorem ne_box {H : Hp} {a b : Addr} {j : Nat} (B : BoxAt H b j) (h : H a = none) : a ≠ b := by
  obtain ⟨y, hb⟩ := B.some
  exact (ne_of_none hb h).symm
theorem ne_boxT {H : Hp} {a b : Addr} {j : Nat} {o : HO} (B : BoxAt H b j) (h : H a = some o) (n : ∀ xs, o ≠ .lst xs) : a ≠ b := by
  obtain ⟨y, hb⟩ := B.some
  rintro rfl
  rw [hb] at h
  exact n _ (Option.some.inj h).symm
/-- tuples stay, a list taken anew -/
theorem keepU {H : Hp} {D : Addr} {xs : List V} {o : HO} (h : H D = some (.lst xs)) : ∀ q zs, H q = some (.tup zs) → (upd H D o) q = some (.tup zs) := fun q zs z => by
  rw [upd_ne (ne_of z h (by intro e; cases e))]; exact z
theorem keepB {H H' : Hp} {b : Addr} {j : Nat} (B : BoxAt H b j) (o : But b H H') : ∀ q zs, H q = some (.tup zs) → H' q = some (.tup zs) := fun q zs z => o _ _ z (ne_boxT B z (by intro xs e; cases e))
theorem but_new {H : Hp} {b D : Addr} {H0 H1 : Hp} {o : HO} (hD : H D = none) (h : But b H H0) (h' : ∀ x u, H0 x = some u → x ≠ b → H1 x = some u) : But b H (upd H1 D o) := by
  intro x u z nb
  rw [upd_ne (ne_of_none z hD)]
  exact h' _ _ (h _ _ z nb) nb
def spShapes : Sp := fun vs H Q _ => ∃ (b p : Addr) (ws : List Str) (j : Nat), vs = [.ref b, .ref p] ∧ BoxAt H b j ∧ H p = some (.lst (ws.map V.str)) ∧ p ≠ b ∧ ws.length ≤ 4 ∧ j + 4 ≤ 1000000 ∧
  ∀ (d : Addr) (kvs : KVs) (H' : Hp), H d = none → H' d = some (.dK kvs) → ShOk ws kvs → BoxAt H' b (j + 4) → But b H H' → Q (.ref d) H'
structure Wrd (H : Hp) (b d p pp : Addr) (ws : List Str) (kvs : KVs) : Prop where
  hd : H d = some (.dK kvs)
  sh : ShOk ws kvs
  hp : H p = some (.lst (ws.map V.str))
  hq : H pp = some (.lst poolV)
  pb : p ≠ b
  qb : pp ≠ b
  nm : ∀ x ∈ ws, NameOk x
  one : 1 ≤ ws.length
  four : ws.length ≤ 4
theorem Wrd.db {H : Hp} {b d p pp : Addr} {ws : List Str} {kvs : KVs} {j : Nat} (W : Wrd H b d p pp ws kvs) (B : BoxAt H b j) : d ≠ b := ne_boxT B W.hd (by intro xs e; cases e)
theorem Wrd.but {H H' : Hp} {b d p pp : Addr} {ws : List Str} {kvs : KVs} {j : Nat} (W : Wrd H b d p pp ws kvs) (B : BoxAt H b j) (o : But b H H') : Wrd H' b d p pp ws kvs :=
  ⟨o _ _ W.hd (W.db B), W.sh, o _ _ W.hp W.pb, o _ _ W.hq W.qb, W.pb, W.qb, W.nm, W.one, W.four⟩
theorem Wrd.same {H H' : Hp} {b d p pp : Addr} {ws : List Str} {kvs : KVs} (W : Wrd H b d p pp ws kvs) (o : Same H H') : Wrd H' b d p pp ws kvs :=
  ⟨o _ _ W.hd, W.sh, o _ _ W.hp, o _ _ W.hq, W.pb, W.qb, W.nm, W.one, W.four⟩
def spAtomL : Sp := fun vs H Q _ => ∃ (b d p pp : Addr) (ws : List Str) (kvs : KVs) (j m : Nat), vs = [.ref b, .ref d, .ref p, .ref pp, .int m] ∧ BoxAt H b j ∧ Wrd H b d p pp ws kvs ∧ m ≤ 2 ∧ j + 31 ≤ 1000000 ∧
  ∀ (v : V) (a : At) (H' : Hp), AtAt H' v a → AtOk 7 a → BoxAt H' b (j + 31) → But b H H' → Q v H'
def spSayingL : Sp := fun vs H Q _ => ∃ (b d p pp : Addr) (ws : List Str) (kvs : KVs) (j m : Nat), vs = [.ref b, .ref d, .ref p, .ref pp, .int m] ∧ BoxAt H b j ∧ Wrd H b d p pp ws kvs ∧ m ≤ 3 ∧ j + 150 ≤ 1000000 ∧
  ∀ (v : V) (s : Sy) (H' : Hp), SyAt H' v s → SyOk s → s.hs.length ≤ 3 → BoxAt H' b (j + 150) → But b H H' → Q v H'
section
variable {P : Program} {w : World} {K : PySem.W.Frag} {mg : Str → Option Value} {base : Heap}
theorem scShapes : FnScope ["_law_box_here", "_law_names_here", "_law_name"] ["_law_box_here", "_law_names_here"] (defScope sShapes) := ⟨rfl, rfl, rfl, by decide +kernel, rfl, by decide +kernel, by decide +kernel⟩
def tePair (K : PySem.W.Frag) : TE := tTup (tCons (tVar 2) (tCons (tOp (rIxL K) (tLst (tCons (tC (.int 1)) (tCons (tC (.int 1)) (tCons (tC (.int 1)) (tCons (tC (.int 2)) tNil))))) (tCall spTake [] E0 (tCons (tVar 0) (tCons (tC (.int 4)) tNil)))) tNil))
theorem ok_shapes {f fT : Addr} {fd fdT : FuncData} (F : Fun K "_law_shapes" "_law_shapes" sShapes f fd)
    (GT : FnOk P w K mg base CX0 1 fT fdT ["_law_box_here", "_law_reach"] spTake) (kT : PySem.W.keepIn K (.ref fT) = true) (bT : Binds K fdT ["_law_box_here", "_law_reach"] []) (mT : mg "_law_take" = some (.ref fT))
    (mDict : mg "dict" = none) : FnOk P w K mg base CX0 2 f fd ["_law_box_here", "_law_names_here"] spShapes := by
  refine F.ok scShapes (fun vs H Q E h => ?_) (fun cdv A outer s H vs Q E hr h => ?_)
  · obtain ⟨b, p, ws, j, rfl, _⟩ := h
    rfl
  obtain ⟨b, p, ws, j, rfl, B, hp, pb, w4, hj, q⟩ := h
  refine ⟨_, pss_one (ps_ret (pe_callTy (call_dictP rfl) (by rfl) mDict (by decide +kernel) (pa_cons (pe_lc (own := [("_law_name", 2)]) (g := gName 2) (tt := tYes) (te := tePair K) rfl scShapes.nd (pi_list (pv 1))
        (blkOk_by (N := ["_law_box_here", "_law_names_here", "_law_name"]) (sc := defScope sShapes) (by decide +kernel)) (fun _ _ _ _ _ => pg_name (i := 2) scShapes.nd rfl (Or.inl rfl)) (fun _ _ _ _ _ => pts_nil)
        (fun _ _ _ _ _ => pe_tup (pa_cons (pv 2) (pa_cons (pe_ix ix_list (pe_lst (pa_cons pe_int (pa_cons pe_int (pa_cons pe_int (pa_cons pe_int pa_nil))))) (pe_call GT hr (by rfl) mT kT bT .nil pass0 (pa_cons (pv 0) (pa_cons pe_int pa_nil))) (fun _ _ => rfl)) pa_nil)))) pa_nil))), ?_⟩
  have big : (10000 : Nat) ≤ sizeLine := by decide
  refine ⟨_, rfl, p, rfl, ⟨_, .inl (.inl hp)⟩, fun D hD => lc_list (K := K) (a := p) (xs := ws.map V.str) (fun i H2 => ∃ (ps : List Addr) (kvs : KVs), H2 D = some (.lst (ps.map V.ref)) ∧ PairsAt H2 ps kvs ∧ kvs.map (·.1) = (ws.take i).map Sum.inr ∧ (∀ kv ∈ kvs, ShE kv.2) ∧ BoxAt H2 b (j + i) ∧ H2 p = some (.lst (ws.map V.str)) ∧ But b H H2)
    ⟨[], [], upd_same, trivial, rfl, by simp, (B.same (same_new hD _)).more (by omega), same_new hD _ _ _ hp, but_of (same_new hD _)⟩ (fun i H2 _ ⟨_, _, _, _, _, _, _, h, _⟩ => .inl (.inl h)) ?_ ?_⟩
  · rintro i x H2 hi ⟨ps, kvs, h2, A2, kl, ke, B2, hp2, o2⟩
    rw [List.getElem?_map] at hi
    obtain ⟨y, hy, rfl⟩ : ∃ y, ws[i]? = some y ∧ x = .str y := by
      cases hq : ws[i]? with
      | none => rw [hq] at hi; cases hi
      | some p => rw [hq] at hi; exact ⟨p, rfl, by simpa using hi.symm⟩
    have li : i < ws.length := (List.getElem?_eq_some_iff.mp hy).1
    have Db : D ≠ b := ne_box B hD
    have Dp : D ≠ p := (ne_of_none hp hD).symm
    have pl := A2.len
    have kl2 : kvs.length ≤ 4 := by
      have := congrArg List.length kl
      rw [List.length_map, List.length_map, List.length_take] at this
      omega
    refine ⟨rfl, ?_⟩
    unfold tePair
    refine ⟨_, rfl, (by show 4 ≤ sizeLine; decide), fun c hc => ?_⟩
    have s3 := same_new hc (.lst [V.int 1, V.int 1, V.int 1, V.int 2])
    have B3 := B2.same s3
    have cb : c ≠ b := ne_box B2 hc
    refine ⟨_, rfl, b, _, _, rfl, B3, by omega, by decide, by decide, fun r H4 r0 r4 B4 o4 => ?_⟩
    have hc4 := o4 _ _ upd_same cb
    obtain ⟨m, hat, hm⟩ : ∃ m : Nat, atI [V.int 1, V.int 1, V.int 1, V.int 2] r = some (.int (m : Nat)) ∧ 1 ≤ m ∧ m ≤ 2 := by
      rcases (by omega : r = 0 ∨ r = 1 ∨ r = 2 ∨ r = 3) with e | e | e | e <;> subst e
      · exact ⟨1, at_of (j := 0) rfl rfl, by omega, by omega⟩
      · exact ⟨1, at_of (j := 1) rfl rfl, by omega, by omega⟩
      · exact ⟨1, at_of (j := 2) rfl rfl, by omega, by omega⟩
      · exact ⟨2, at_of (j := 3) rfl rfl, by omega, by omega⟩
    refine ⟨c, _, _, _, rfl, rfl, .inl (.inl hc4), hat, (by show 2 ≤ sizeLine; decide), fun t ht => ?_⟩
    have s4 := same_new ht (.tup [V.str y, V.int (m : Nat)])
    have hD4 := s4 _ _ (o4 _ _ (s3 _ _ h2) Db)
    have keep : ∀ a zs, H2 a = some (.tup zs) → (upd (upd H4 t (.tup [V.str y, V.int (m : Nat)])) D (.lst (ps.map V.ref ++ [.ref t]))) a = some (.tup zs) := fun a zs z =>
      keepU hD4 _ _ (s4 _ _ (keepB B3 o4 _ _ (s3 _ _ z)))
    have tD : t ≠ D := (ne_of_none (o4 _ _ (s3 _ _ h2) Db) ht).symm
    refine ⟨_, hD4, by rw [List.length_map]; omega, ps ++ [t], kvs ++ [(.inr y, .int (m : Nat))], by rw [upd_same, List.map_append]; rfl, PairsAt.snoc (by rw [upd_ne tD, upd_same]; rfl) (A2.mono keep), ?_, ?_, ((B4.same s4).upd Db _).more (by omega), ?_, ?_⟩
    · have tk : ws.take (i + 1) = ws.take i ++ [y] := by rw [List.take_add_one, hy]; rfl
      rw [tk, List.map_append, List.map_append, kl]; rfl
    · intro kv hkv
      rcases List.mem_append.mp hkv with hkv | hkv
      · exact ke kv hkv
      · obtain rfl : kv = (.inr y, .int (m : Nat)) := by simpa using hkv
        exact ⟨m, rfl, hm.1, hm.2⟩
    · rw [upd_ne Dp.symm]
      exact s4 _ _ (o4 _ _ (s3 _ _ hp2) pb)
    · exact but_new hD o2 fun a o z nb => s4 _ _ (o4 _ _ (s3 _ _ z) nb)
  · rintro H2 ⟨ps, kvs, h2, A2, kl, ke, B2, hp2, o2⟩
    rw [List.length_map] at B2
    rw [List.length_map, List.take_length] at kl
    refine ⟨D, ps, kvs, rfl, .inl (.inl h2), A2.paired, fun d hd => ?_⟩
    have s3 := same_new hd (.dK (mergeK [] kvs))
    have hd0 : H d = none := but_none o2 B2 hd
    exact q d _ _ hd0 upd_same (fun x hx => merge_has ke (.inr (by rw [kl]; exact List.mem_map.mpr ⟨x, hx, rfl⟩))) ((B2.same s3).more (by omega)) (o2.trans (but_of s3))
abbrev NA : List Str := ["_law_box_here", "_law_shapes_here", "_law_names_here", "_law_pool", "_law_deep", "_law_word", "_law_part"]
theorem scAtomL : FnScope NA ["_law_box_here", "_law_shapes_here", "_law_names_here", "_law_pool", "_law_deep"] (defScope sAtomL) := ⟨rfl, rfl, rfl, by decide +kernel, rfl, by decide +kernel, by decide +kernel⟩
def teTm : TE := tCall (spLTerm 3) [] E0 (tCons (tVar 0) (tCons (tVar 3) (tCons (tVar 4) tNil)))
theorem ok_atoml {f fP fTm : Addr} {fd dP dTm : FuncData} (F : Fun K "_law_atom" "_law_atom" sAtomL f fd)
    (GP : FnOk P w K mg base CX0 2 fP dP ["_law_box_here", "_law_things"] spPick) (kP : PySem.W.keepIn K (.ref fP) = true) (bP : Binds K dP ["_law_box_here", "_law_things"] []) (mP : mg "_law_pick" = some (.ref fP))
    (GTm : FnOk P w K mg base CX0 5 fTm dTm ["_law_box_here", "_law_pool", "_law_deep"] (spLTerm 3)) (kTm : PySem.W.keepIn K (.ref fTm) = true) (bTm : Binds K dTm ["_law_box_here", "_law_pool", "_law_deep"] []) (mTm : mg "_law_term" = some (.ref fTm))
    (mRange : mg "range" = none) (mTuple : mg "tuple" = none) : FnOk P w K mg base CX0 6 f fd ["_law_box_here", "_law_shapes_here", "_law_names_here", "_law_pool", "_law_deep"] spAtomL := by
  refine F.ok scAtomL (fun vs H Q E h => ?_) (fun cdv A outer s H vs Q E hr h => ?_)
  · obtain ⟨b, d, p, pp, ws, kvs, j, m, rfl, _⟩ := h
    rfl
  obtain ⟨b, d, p, pp, ws, kvs, j, m, rfl, B, W, m2, hj, q⟩ := h
  have r2 : Room 2 _ := hr.mono (by decide)
  refine ⟨_, pss_cons (ps_set (i := 5) scAtomL.nd rfl (Or.inl rfl) (pe_call GP r2 rfl mP kP bP .nil pass0 (pa_cons (pv 0) (pa_cons (pv 2) pa_nil))))
    (pss_one (ps_ret (pe_op op_catT (pe_tup (pa_cons (pv 5) pa_nil)) (pe_callTy call_tuple_of (by rfl) mTuple (by decide +kernel) (pa_cons
      (pe_lc (own := [("_law_part", 6)]) (g := gName 6) (tt := tYes) (te := teTm) rfl scAtomL.nd (pi_range1 (by rfl) mRange (pa_cons (pe_dget (hu_of hr) (pv 1) (pv 5) (fun _ _ => rfl)) pa_nil)) (blkOk_by (N := NA) (sc := defScope sAtomL) (by decide +kernel))
        (fun _ _ _ _ _ => pg_name (i := 6) scAtomL.nd rfl (Or.inl rfl)) (fun _ _ _ _ _ => pts_nil) (fun _ _ _ _ _ => pe_call GTm hr (by rfl) mTm kTm bTm .nil pass0 (pa_cons (pv 0) (pa_cons (pv 3) (pa_cons (pv 4) pa_nil))))) pa_nil))))), ?_⟩
  have big : (10000 : Nat) ≤ sizeLine := by decide
  have pw1 : 2 ^ m ≤ 2 ^ 2 := Nat.pow_le_pow_right (by decide) m2
  have pw2 : 2 ^ (m + 1) ≤ 2 ^ 3 := Nat.pow_le_pow_right (by decide) (by omega)
  have w4 := W.four
  have w1 := W.one
  refine ⟨_, rfl, _, rfl, b, p, _, j, rfl, B, by omega, W.hp, W.pb, by rw [List.length_map]; omega, by rw [List.length_map]; omega, fun v H1 hv B1 o1 => ?_⟩
  obtain ⟨x, hx, rfl⟩ := List.mem_map.mp hv
  have W1 := W.but B o1
  obtain ⟨_, hval, mm, rfl, mm1, mm2⟩ := W1.sh x hx
  refine ⟨_, rfl, (by show 1 ≤ sizeLine; decide), fun t ht => ?_⟩
  have s2 := same_new ht (.tup [V.str x])
  have W2 := W1.same s2
  have B2 := B1.same s2
  refine ⟨_, rfl, _, rfl, d, _, rfl, by rw [← hval]; exact DGet.k (k := Sum.inr x) W2.hd, _, rfl, by omega, by omega, fun D hD => lc_range (lo := 0) (fun e H3 => ∃ (xs : List V) (ts : List Tm), H3 D = some (.lst xs) ∧ AllAt H3 xs ts ∧ ts.length = e ∧ (∀ u ∈ ts, u.small ∧ u.size ≤ 7) ∧ BoxAt H3 b (j + 1 + 15 * e) ∧ But b (upd H1 t (.tup [V.str x])) H3)
    ⟨[], [], upd_same, trivial, rfl, by simp, (B2.same (same_new hD _)).more (by omega), but_of (same_new hD _)⟩ ?_ ?_⟩
  · rintro e H3 he ⟨xs, ts, h3, A3, tl, tk, B3, o3⟩
    have Db : D ≠ b := ne_box B2 hD
    have xl := A3.len
    have W3 := W2.but B2 o3
    refine ⟨rfl, ?_⟩
    unfold teTm
    refine ⟨_, rfl, _, rfl, _, rfl, b, pp, _, m, rfl, B3, W3.hq, W3.qb, by omega, m2, by omega, fun v u H4 T sm sz B4 o4 => ?_⟩
    have h4 := o4 _ _ h3 Db
    refine ⟨xs, h4, by omega, xs ++ [v], ts ++ [u], upd_same, (A3.mono fun q zs z => keepU h4 _ _ (keepB B3 o4 _ _ z)).append ⟨T.mono (keepU h4), trivial⟩, by simp [tl], fun y hy => ?_, (B4.upd Db _).more (by omega), ?_⟩
    · rcases List.mem_append.mp hy with hy | hy
      · exact tk y hy
      · obtain rfl : y = u := by simpa using hy
        exact ⟨sm, by omega⟩
    · exact but_new hD o3 o4
  · rintro H3 ⟨xs, ts, h3, A3, tl, tk, B3, o3⟩
    have tl2 : ts.length = mm := by rw [tl]; omega
    have xl := A3.len
    refine ⟨D, xs, rfl, .inl ⟨.inl (.inl h3), fun g hg => ?_⟩⟩
    have s4 := same_new hg (.tup xs)
    have ht3 := keepB B2 o3 _ _ (upd_same : (upd H1 t (.tup [V.str x])) t = _)
    refine ⟨t, g, [V.str x], xs, rfl, rfl, .inl (.inl (s4 _ _ ht3)), .inl (.inl upd_same), by simp, by simp; omega, fun e => ?_, fun _ t2 ht2 => ?_⟩
    · rw [e] at xl; simp at xl; omega
    · have s5 := same_new ht2 (.tup ([V.str x] ++ xs))
      exact q _ ⟨x, ts⟩ _ ⟨t2, xs, rfl, upd_same, A3.mono fun q zs z => s5 _ _ (s4 _ _ z)⟩ ⟨W.nm x hx, by show 1 ≤ ts.length; omega, by show ts.length ≤ 2; omega, tk⟩ (((B3.same s4).same s5).more (by omega))
        (o1.trans ((but_of s2).trans (o3.trans ((but_of s4).trans (but_of s5)))))
abbrev NSy : List Str := ["_law_box_here", "_law_shapes_here", "_law_names_here", "_law_pool", "_law_count", "_law_hyps", "_law_turn"]
theorem scSayingL : FnScope NSy ["_law_box_here", "_law_shapes_here", "_law_names_here", "_law_pool", "_law_count"] (defScope sSayingL) := ⟨rfl, rfl, rfl, by decide +kernel, rfl, by decide +kernel, by decide +kernel⟩
def teAtom : TE := tCall spAtomL [] E0 (tCons (tVar 0) (tCons (tVar 1) (tCons (tVar 2) (tCons (tVar 3) (tCons (tCall spTake [] E0 (tCons (tVar 0) (tCons (tC (.int 2)) tNil))) tNil)))))
theorem ok_sayingl {f fT fA fU : Addr} {fd dT dA dU : FuncData} (F : Fun K "_law_saying" "_law_saying" sSayingL f fd)
    (GT : FnOk P w K mg base CX0 1 fT dT ["_law_box_here", "_law_reach"] spTake) (kT : PySem.W.keepIn K (.ref fT) = true) (bT : Binds K dT ["_law_box_here", "_law_reach"] []) (mT : mg "_law_take" = some (.ref fT))
    (GA : FnOk P w K mg base CX0 6 fA dA ["_law_box_here", "_law_shapes_here", "_law_names_here", "_law_pool", "_law_deep"] spAtomL) (kA : PySem.W.keepIn K (.ref fA) = true) (bA : Binds K dA ["_law_box_here", "_law_shapes_here", "_law_names_here", "_law_pool", "_law_deep"] []) (mA : mg "_law_atom" = some (.ref fA))
    (GU : FnOk P w K mg base CX0 1 fU dU ["_law_atoms"] spUnlikeL) (kU : PySem.W.keepIn K (.ref fU) = true) (bU : Binds K dU ["_law_atoms"] []) (mU : mg "_law_unlike" = some (.ref fU))
    (mRange : mg "range" = none) : FnOk P w K mg base CX0 7 f fd ["_law_box_here", "_law_shapes_here", "_law_names_here", "_law_pool", "_law_count"] spSayingL := by
  refine F.ok scSayingL (fun vs H Q E h => ?_) (fun cdv A outer s H vs Q E hr h => ?_)
  · obtain ⟨b, d, p, pp, ws, kvs, j, m, rfl, _⟩ := h
    rfl
  obtain ⟨b, d, p, pp, ws, kvs, j, m, rfl, B, W, m3, hj, q⟩ := h
  have r1 : Room 1 _ := hr.mono (by decide)
  refine ⟨_, pss_cons (ps_setLc (i := 5) (own := [("_law_turn", 6)]) (g := gName 6) (tt := tYes) (te := teAtom) rfl scSayingL.nd rfl rfl (by rfl) (pi_range1 (by rfl) mRange (pa_cons (pe_call GT r1 (by rfl) mT kT bT .nil pass0 (pa_cons (pv 0) (pa_cons (pe_op op_addI (pv 4) pe_int) pa_nil))) pa_nil))
        (blkOk_by (N := NSy) (sc := defScope sSayingL) (by decide +kernel)) (fun _ _ _ _ _ => pg_name (i := 6) scSayingL.nd rfl (Or.inl rfl)) (fun _ _ _ _ _ => pts_nil)
        (fun _ _ _ _ _ => pe_call GA hr (by rfl) mA kA bA .nil pass0 (pa_cons (pv 0) (pa_cons (pv 1) (pa_cons (pv 2) (pa_cons (pv 3) (pa_cons (pe_call GT r1 (by rfl) mT kT bT .nil pass0 (pa_cons (pv 0) (pa_cons pe_int pa_nil))) pa_nil)))))))
    (pss_one (ps_ret (pe_tup (pa_cons (pe_call GU r1 (by rfl) mU kU bU .nil pass0 (pa_cons (pv 5) pa_nil)) (pa_cons (pe_call GA hr (by rfl) mA kA bA .nil pass0 (pa_cons (pv 0) (pa_cons (pv 1) (pa_cons (pv 2) (pa_cons (pv 3) (pa_cons (pe_call GT r1 (by rfl) mT kT bT .nil pass0 (pa_cons (pv 0) (pa_cons pe_int pa_nil))) pa_nil)))))) pa_nil))))), ?_⟩
  have big : (10000 : Nat) ≤ sizeLine := by decide
  refine ⟨_, rfl, _, rfl, _, _, rfl, rfl, b, _, j, rfl, B, by omega, by omega, by omega, fun c H1 c0 c1 B1 o1 => ?_⟩
  have W1 := W.but B o1
  refine ⟨_, rfl, by omega, by omega, fun D hD => lc_range (lo := 0) (fun e H3 => ∃ (xs : List V) (as : List At), H3 D = some (.lst xs) ∧ AtsAt H3 xs as ∧ as.length = e ∧ (∀ a ∈ as, AtOk 7 a) ∧ BoxAt H3 b (j + 1 + 32 * e) ∧ But b H1 H3)
    ⟨[], [], upd_same, trivial, rfl, by simp, (B1.same (same_new hD _)).more (by omega), but_of (same_new hD _)⟩ ?_ ?_⟩
  · rintro e H3 he ⟨xs, as, h3, A3, al, ao, B3, o3⟩
    have Db : D ≠ b := ne_box B1 hD
    have xl := A3.len
    have W3 := W1.but B1 o3
    refine ⟨rfl, ?_⟩
    unfold teAtom
    refine ⟨_, rfl, _, rfl, _, rfl, _, rfl, _, rfl, b, _, _, rfl, B3, by omega, by decide, by decide, fun z H4 z0 z1 B4 o4 => ?_⟩
    obtain ⟨mz, rfl⟩ := Int.eq_ofNat_of_zero_le z0
    have W4 := W3.but B3 o4
    refine ⟨b, d, p, pp, ws, kvs, _, mz, rfl, B4, W4, by omega, by omega, fun v a H5 A5 ok5 B5 o5 => ?_⟩
    have h5 := o5 _ _ (o4 _ _ h3 Db) Db
    refine ⟨xs, h5, by omega, xs ++ [v], as ++ [a], upd_same, (A3.mono fun q zs z => keepU h5 _ _ (keepB B4 o5 _ _ (keepB B3 o4 _ _ z))).append ⟨atAt_mono (keepU h5) A5, trivial⟩, by simp [al], fun y hy => ?_, (B5.upd Db _).more (by omega), ?_⟩
    · rcases List.mem_append.mp hy with hy | hy
      · exact ao y hy
      · obtain rfl : y = a := by simpa using hy
        exact ok5
    · exact but_new hD o3 (o4.trans o5)
  · rintro H3 ⟨xs, as, h3, A3, al, ao, B3, o3⟩
    have al3 : as.length ≤ 3 := by omega
    have W3 := W1.but B1 o3
    refine ⟨_, rfl, D, xs, as, rfl, h3, A3, AtsOk.mk (by omega) ao, fun g ys bs H4 hg A4 ok4 nd4 l4 s4 => ?_⟩
    have B4 := B3.same s4
    have W4 := W3.same s4
    refine ⟨_, rfl, _, rfl, _, rfl, _, rfl, _, rfl, b, _, _, rfl, B4, by omega, by decide, by decide, fun z H5 z0 z1 B5 o5 => ?_⟩
    obtain ⟨mz, rfl⟩ := Int.eq_ofNat_of_zero_le z0
    have W5 := W4.but B4 o5
    refine ⟨b, d, p, pp, ws, kvs, _, mz, rfl, B5, W5, by omega, by omega, fun v a H6 A6 ok6 B6 o6 => ⟨(by show 2 ≤ sizeLine; decide), fun t ht => ?_⟩⟩
    have s7 := same_new ht (.tup [V.ref g, v])
    exact q _ ⟨bs, a⟩ _ ⟨t, g, v, ys, rfl, upd_same, s7 _ _ (keepB B5 o6 _ _ (keepB B4 o5 _ _ hg)), A4.mono fun q zs z => s7 _ _ (keepB B5 o6 _ _ (keepB B4 o5 _ _ z)), atAt_same A6 s7⟩ ⟨ok4, nd4, ok6⟩ (by show bs.length ≤ 3; omega) ((B6.same s7).more (by omega))
      (o1.trans (o3.trans ((but_of s4).trans (o5.trans (o6.trans (but_of s7))))))
end
end Rp

set_option maxHeartbeats 16000000
/-! The law's bindings. -/
namespace Rp
open PySem PySem.Spec PyProof.Rows L2 TL StX
abbrev Prs := List (Int × Tm)
/-- pairs stand as the values xs -/
def PrAt (H : Hp) : List V → Prs → Prop
  | [], [] => True
  | x :: xs, (n, t) :: ps => (∃ (b : Addr) (y : V), x = .ref b ∧ H b = some (.tup [.int n, y]) ∧ TmAt H y t) ∧ PrAt H xs ps
  | _, _ => False
theorem PrAt.len {H : Hp} : ∀ {xs : List V} {ps : Prs}, PrAt H xs ps → xs.length = ps.length
  | [], [], _ => rfl
  | _ :: _, _ :: _, h => congrArg (· + 1) (PrAt.len h.2)
theorem PrAt.mono {H H' : Hp} (e : ∀ a xs, H a = some (.tup xs) → H' a = some (.tup xs)) : ∀ {xs : List V} {ps : Prs}, PrAt H xs ps → PrAt H' xs ps
  | [], [], _ => trivial
  | _ :: _, _ :: _, h => ⟨let ⟨b, y, e1, e2, e3⟩ := h.1; ⟨b, y, e1, e _ _ e2, e3.mono e⟩, PrAt.mono e h.2⟩
theorem PrAt.append {H : Hp} : ∀ {xs ys : List V} {ps qs : Prs}, PrAt H xs ps → PrAt H ys qs → PrAt H (xs ++ ys) (ps ++ qs)
  | [], _, [], _, _, h => h
  | _ :: _, _, _ :: _, _, h, h' => ⟨h.1, PrAt.append h.2 h'⟩
theorem PrAt.get {H : Hp} : ∀ {xs : List V} {ps : Prs} {i : Nat} {x : V}, PrAt H xs ps → xs[i]? = some x → ∃ p, ps[i]? = some p ∧ ∃ (b : Addr) (y : V), x = .ref b ∧ H b = some (.tup [.int p.1, y]) ∧ TmAt H y p.2
  | _ :: _, (n, t) :: _, 0, _, h, e => by simp at e; subst e; exact ⟨(n, t), rfl, h.1⟩
  | _ :: _, _ :: _, _ + 1, _, h, e => by simpa using PrAt.get h.2 (by simpa using e)
/-- a BINDING stands as v -/
def BiAt (H : Hp) (v : V) (ps : Prs) : Prop := ∃ (a : Addr) (xs : List V), v = .ref a ∧ H a = some (.tup xs) ∧ PrAt H xs ps
structure PrOk (ps : Prs) : Prop where
  num : ∀ p ∈ ps, 0 ≤ p.1 ∧ p.1 ≤ 99
  sm : ∀ p ∈ ps, p.2.small
  sz : ∀ p ∈ ps, p.2.size ≤ 7
  up : (ps.map (·.1)).Pairwise (· < ·)
  few : ps.length ≤ 4
theorem PrAt.get0 {H : Hp} {xs : List V} {ps : Prs} {i : Nat} {x : V} (h : PrAt H xs ps) (e : xs[i]? = some x) : ∃ p, ps[i]? = some p ∧ ∃ b y, x = .ref b ∧ H b = some (.tup [.int p.1, y]) ∧ TmAt H y p.2 := h.get e
theorem PrAt.snoc {H : Hp} {x : V} {p : Int × Tm} (hp : ∃ (b : Addr) (y : V), x = .ref b ∧ H b = some (.tup [.int p.1, y]) ∧ TmAt H y p.2) : ∀ {xs : List V} {ps : Prs}, PrAt H xs ps → PrAt H (xs ++ [x]) (ps ++ [p])
  | [], [], _ => ⟨hp, trivial⟩
  | _ :: _, _ :: _, h => ⟨h.1, PrAt.snoc hp h.2⟩
abbrev spotV : List V := [.int 0, .int 2, .int 5, .int 99]
def spPuts : Sp := fun vs H Q _ => ∃ (b sp pp : Addr) (j : Nat), vs = [.ref b, .ref sp, .ref pp] ∧ BoxAt H b j ∧ H sp = some (.lst spotV) ∧ H pp = some (.lst poolV) ∧ sp ≠ b ∧ pp ≠ b ∧ j + 80 ≤ 1000000 ∧
  ∀ (v : V) (ps : Prs) (H' : Hp), BiAt H' v ps → PrOk ps → BoxAt H' b (j + 80) → But b H H' → Q v H'
section
variable {P : Program} {w : World} {K : PySem.W.Frag} {mg : Str → Option Value} {base : Heap}
theorem scPuts : FnScope ["_law_box_here", "_law_spots", "_law_pool", "_law_one"] ["_law_box_here", "_law_spots", "_law_pool"] (defScope sPuts) := ⟨rfl, rfl, rfl, by decide +kernel, rfl, by decide +kernel, by decide +kernel⟩
def tePut : TE := tTup (tCons (tVar 3) (tCons (tCall (spLTerm 3) [] E0 (tCons (tVar 0) (tCons (tVar 2) (tCons (tCall spTake [] E0 (tCons (tVar 0) (tCons (tC (.int 3)) tNil))) tNil)))) tNil))
def ttPut : TT := tTest (tOp (rI0 fun i j => .bl (decide (j < i))) (tCall spTake [] E0 (tCons (tVar 0) (tCons (tC (.int 4)) tNil))) (tC (.int 0)))
theorem ok_puts {f fT fTm : Addr} {fd dT dTm : FuncData} (F : Fun K "_law_puts" "_law_puts" sPuts f fd)
    (GT : FnOk P w K mg base CX0 1 fT dT ["_law_box_here", "_law_reach"] spTake) (kT : PySem.W.keepIn K (.ref fT) = true) (bT : Binds K dT ["_law_box_here", "_law_reach"] []) (mT : mg "_law_take" = some (.ref fT))
    (GTm : FnOk P w K mg base CX0 5 fTm dTm ["_law_box_here", "_law_pool", "_law_deep"] (spLTerm 3)) (kTm : PySem.W.keepIn K (.ref fTm) = true) (bTm : Binds K dTm ["_law_box_here", "_law_pool", "_law_deep"] []) (mTm : mg "_law_term" = some (.ref fTm))
    (mTuple : mg "tuple" = none) : FnOk P w K mg base CX0 6 f fd ["_law_box_here", "_law_spots", "_law_pool"] spPuts := by
  refine F.ok scPuts (fun vs H Q E h => ?_) (fun cdv A outer s H vs Q E hr h => ?_)
  · obtain ⟨b, sp, pp, j, rfl, _⟩ := h
    rfl
  obtain ⟨b, sp, pp, j, rfl, B, hs, hp, sb, pb, hj, q⟩ := h
  have r1 : Room 1 _ := hr.mono (by decide)
  refine ⟨_, pss_one (ps_ret (pe_callTy call_tuple_of (by rfl) mTuple (by decide +kernel) (pa_cons
      (pe_lc (own := [("_law_one", 3)]) (g := gName 3) (tt := ttPut) (te := tePut) rfl scPuts.nd (pi_list (pv 1)) (blkOk_by (N := ["_law_box_here", "_law_spots", "_law_pool", "_law_one"]) (sc := defScope sPuts) (by decide +kernel))
        (fun _ _ _ _ _ => pg_name (i := 3) scPuts.nd rfl (Or.inl rfl)) (fun _ _ _ _ _ => pts_one (pt_cmpR op_gt (pe_call GT r1 (by rfl) mT kT bT .nil pass0 (pa_cons (pv 0) (pa_cons pe_int pa_nil))) pe_int (nomark _)))
        (fun _ _ _ _ _ => pe_tup (pa_cons (pv 3) (pa_cons (pe_call GTm hr (by rfl) mTm kTm bTm .nil pass0 (pa_cons (pv 0) (pa_cons (pv 2) (pa_cons (pe_call GT r1 (by rfl) mT kT bT .nil pass0 (pa_cons (pv 0) (pa_cons pe_int pa_nil))) pa_nil)))) pa_nil)))) pa_nil))), ?_⟩
  have big : (10000 : Nat) ≤ sizeLine := by decide
  refine ⟨_, rfl, sp, rfl, ⟨_, .inl (.inl hs)⟩, fun D hD => lc_list (K := K) (a := sp) (xs := spotV) (fun i H2 => ∃ (xs : List V) (ps : Prs), H2 D = some (.lst xs) ∧ PrAt H2 xs ps ∧ (ps.map (·.1)).Sublist (([0, 2, 5, 99] : List Int).take i) ∧ (∀ p ∈ ps, p.2.small ∧ p.2.size ≤ 7) ∧ BoxAt H2 b (j + 17 * i) ∧ H2 sp = some (.lst spotV) ∧ H2 pp = some (.lst poolV) ∧ But b H H2)
    ⟨[], [], upd_same, trivial, .slnil, by simp, (B.same (same_new hD _)).more (by omega), same_new hD _ _ _ hs, same_new hD _ _ _ hp, but_of (same_new hD _)⟩ (fun i H2 _ ⟨_, _, _, _, _, _, _, h, _⟩ => .inl (.inl h)) ?_ ?_⟩
  · rintro i x H2 hi ⟨xs, ps, h2, A2, sub, po, B2, hs2, hp2, o2⟩
    have Db : D ≠ b := ne_box B hD
    have Dp : D ≠ pp := (ne_of_none hp hD).symm
    have Ds : D ≠ sp := (ne_of_none hs hD).symm
    have i3 : i < 4 := (List.getElem?_eq_some_iff.mp hi).1
    have xl := A2.len
    have sl := sub.length_le
    rw [List.length_map, List.length_take] at sl
    obtain ⟨n, rfl, tk⟩ : ∃ n : Int, x = .int n ∧ ([0, 2, 5, 99] : List Int).take (i + 1) = ([0, 2, 5, 99] : List Int).take i ++ [n] := by
      match i, i3 with
      | 0, _ => exact ⟨0, by simpa using hi.symm, rfl⟩
      | 1, _ => exact ⟨2, by simpa using hi.symm, rfl⟩
      | 2, _ => exact ⟨5, by simpa using hi.symm, rfl⟩
      | 3, _ => exact ⟨99, by simpa using hi.symm, rfl⟩
    refine ⟨rfl, ?_⟩
    unfold ttPut tePut
    refine ⟨_, rfl, b, _, _, rfl, B2, by omega, by decide, by decide, fun r H3 c0 c1 B3 o3 => ?_⟩
    refine ⟨_, _, rfl, rfl, decide ((0 : Int) < r), rfl, ?_⟩
    have h3 := o3 _ _ h2 Db
    have hp3 := o3 _ _ hp2 pb
    by_cases hr0 : (0 : Int) < r
    · rw [decide_eq_true hr0]
      refine iteT ?_
      refine ⟨_, rfl, _, rfl, _, rfl, _, rfl, b, _, _, rfl, B3, by omega, by decide, by decide, fun z H4 z0 z1 B4 o4 => ?_⟩
      obtain ⟨mz, rfl⟩ := Int.eq_ofNat_of_zero_le z0
      have m2 : mz ≤ 2 := by omega
      have pw1 : 2 ^ mz ≤ 2 ^ 2 := Nat.pow_le_pow_right (by decide) m2
      have pw2 : 2 ^ (mz + 1) ≤ 2 ^ 3 := Nat.pow_le_pow_right (by decide) (by omega)
      refine ⟨b, pp, _, mz, rfl, B4, o4 _ _ hp3 pb, pb, by omega, m2, by omega, fun v t H5 T sm sz B5 o5 => ⟨(by show 2 ≤ sizeLine; decide), fun c hc => ?_⟩⟩
      have s6 := same_new hc (.tup [V.int n, v])
      have h6 := s6 _ _ (o5 _ _ (o4 _ _ h3 Db) Db)
      have cD : c ≠ D := (ne_of_none (o5 _ _ (o4 _ _ h3 Db) Db) hc).symm
      refine ⟨xs, h6, by omega, xs ++ [.ref c], ps ++ [(n, t)], upd_same, PrAt.snoc ⟨c, v, rfl, by rw [upd_ne cD, upd_same], (T.same s6).mono (keepU h6)⟩ (A2.mono fun q zs z => keepU h6 _ _ (s6 _ _ (keepB B4 o5 _ _ (keepB B3 o4 _ _ (keepB B2 o3 _ _ z))))), ?_, ?_, ((B5.same s6).upd Db _).more (by omega), ?_, ?_, ?_⟩
      · rw [tk, List.map_append]
        exact sub.append (List.Sublist.refl _)
      · intro p hp
        rcases List.mem_append.mp hp with hp | hp
        · exact po p hp
        · obtain rfl : p = (n, t) := by simpa using hp
          exact ⟨sm, by show t.size ≤ 7; omega⟩
      · rw [upd_ne Ds.symm]
        exact s6 _ _ (o5 _ _ (o4 _ _ (o3 _ _ hs2 sb) sb) sb)
      · rw [upd_ne Dp.symm]
        exact s6 _ _ (o5 _ _ (o4 _ _ hp3 pb) pb)
      · exact but_new hD o2 (o3.trans (o4.trans (o5.trans (but_of s6))))
    · rw [decide_eq_false hr0]
      refine iteF ?_
      exact ⟨xs, ps, h3, A2.mono (keepB B2 o3), by rw [tk]; exact sub.trans (List.sublist_append_left _ _), po, B3.more (by omega), o3 _ _ hs2 sb, hp3, o2.trans o3⟩
  · rintro H2 ⟨xs, ps, h2, A2, sub, po, B2, hs2, hp2, o2⟩
    have sub : (ps.map (·.1)).Sublist ([0, 2, 5, 99] : List Int) := sub
    have xl := A2.len
    have sl := sub.length_le
    rw [List.length_map] at sl
    have B2 : BoxAt H2 b (j + 17 * 4) := B2
    have mem : ∀ p ∈ ps, p.1 ∈ ([0, 2, 5, 99] : List Int) := fun p hp => sub.subset (List.mem_map.mpr ⟨p, hp, rfl⟩)
    refine ⟨D, xs, rfl, .inl ⟨.inl (.inl h2), fun g hg => ?_⟩⟩
    have s4 := same_new hg (.tup xs)
    refine q _ ps _ ⟨g, xs, rfl, upd_same, A2.mono fun q zs z => s4 _ _ z⟩ ⟨fun p hp => ?_, fun p hp => (po p hp).1, fun p hp => (po p hp).2, ?_, by simp only [List.length_cons, List.length_nil] at sl; omega⟩ ((B2.same s4).more (by omega)) (o2.trans (but_of s4))
    · have := mem p hp
      simp only [List.mem_cons, List.not_mem_nil, or_false] at this
      omega
    · exact List.Pairwise.sublist sub (by decide)
end
end Rp

/-! A tuple times one: the tuple itself; a tuple times one or two. -/
namespace Rp
open PySem PySem.Spec PyProof.Rows L2
theorem once_meets (p : Addr) (its : Array Value) (m : Nat) (od : Option Addr) (ss : Array (Option Value)) (u : Tok) : Meets (Builtin.«tuple.__mul__» ⟨[.ref p, .int 1 u], []⟩)
    (fun _ R s => s.heap.get? p = some ⟨.type "tuple", od, .seq its m, ss⟩ ∧ R (.ok (.ret (.ref p))) s) :=
  .of_wp fun pr w A R s h => by
    obtain ⟨hp, g, d, tk, os⟩ := s
    obtain ⟨hl, h⟩ := h
    have f1 := AutoSeq1.idx_int
    have one : (its.isEmpty || (1 : Int) == 1) = true := by simp
    wp_walk using wpAny_loadPart' hl
    repeat (first
      | (refine wpAny_ite_false (by decide) ?_; wp_walk using wpAny_loadPart' hl)
      | (refine wpAny_ite_true (decide_eq_true one) ?_; wp_walk using wpAny_loadPart' hl))
    all_goals first | exact ⟨_, rfl, h⟩ | exact h | trivial
def rRepO (K : PySem.W.Frag) : R2 := fun x y H Q => ∃ (l : Addr) (k : Int) (xs : List V), x = .ref l ∧ y = .int k ∧ SqT K H l xs ∧ xs ≠ [] ∧ 1 ≤ k ∧ k ≤ 1000 ∧ xs.length ≤ 1000 ∧ (k = 1 → Q (.ref l) H) ∧
  (2 ≤ k → ∀ p, H p = none → Q (.ref p) (upd H p (.tup (List.replicate k.toNat xs).flatten)))
theorem op_repO {X : Cx} : OpR X (binaryOp .Mult) (rRepO X.K) := by
  intro pins s σ H x y v u Q I rx ry h
  obtain ⟨l, k, xs, ex, ey, ht, ne, k1, k2, sz, qs, qn⟩ := h
  by_cases two : 2 ≤ k
  · exact op_repT pins s σ H x y v u Q I rx ry ⟨l, k, xs, ex, ey, ht, ne, two, k2, sz, qn two⟩
  · obtain rfl : k = 1 := by omega
    subst ex ey
    cases rx
    obtain ⟨t, rfl⟩ := ry
    obtain ⟨its, r, q1, q2⟩ := I.tuple ht
    obtain ⟨⟨c1, d1, t1, s1⟩, g1, e1, n1, f1⟩ := id q1
    simp only at e1 f1
    subst e1 f1
    exact wpAny_binaryOp_repeat_ref (T := "tuple") (U := "int") (by decide) ⟨_, g1, rfl⟩ (fun s' => typeIs_int s' 1 t) noFill_tuple_mul F.fills_int_mul F.slot_int_rmul repeat_tuple F.slot_int_index.lookup
      (call_meets F.slot_int_rmul (typeIs_int s 1 t) F.entry_int_rmul (F.args_int_rmul_2 _ _) (int_rmul_tuple 1 t l its.toArray n1 d1 s1)
        ⟨g1, rfl, ⟨_, g1, rfl⟩, call_meets F.slot_tuple_mul ⟨_, g1, rfl⟩ F.entry_tuple_mul (F.args_tuple_mul_2 _ _) (once_meets l its.toArray n1 d1 s1 t) ⟨g1, ⟨.ref l, H, I, rfl, qs rfl⟩⟩⟩)
end Rp

set_option maxHeartbeats 16000000
/-! The law's rules, that it lets go; its beginning. -/
namespace Rp
open PySem PySem.Spec PyProof.Rows L2 TL StX
/-- the shapes and the words stand -/
structure Wsh (H : Hp) (b d p : Addr) (ws : List Str) (kvs : KVs) : Prop where
  hd : H d = some (.dK kvs)
  sh : ShOk ws kvs
  hp : H p = some (.lst (ws.map V.str))
  pb : p ≠ b
  one : 1 ≤ ws.length
  four : ws.length ≤ 4
theorem Wsh.db {H : Hp} {b d p : Addr} {ws : List Str} {kvs : KVs} {j : Nat} (W : Wsh H b d p ws kvs) (B : BoxAt H b j) : d ≠ b := ne_boxT B W.hd (by intro xs e; cases e)
theorem Wsh.but {H H' : Hp} {b d p : Addr} {ws : List Str} {kvs : KVs} {j : Nat} (W : Wsh H b d p ws kvs) (B : BoxAt H b j) (o : But b H H') : Wsh H' b d p ws kvs :=
  ⟨o _ _ W.hd (W.db B), W.sh, o _ _ W.hp W.pb, W.pb, W.one, W.four⟩
def spRuleL : Sp := fun vs H Q _ => ∃ (b d p : Addr) (ws : List Str) (kvs : KVs) (j : Nat), vs = [.ref b, .ref d, .ref p] ∧ BoxAt H b j ∧ Wsh H b d p ws kvs ∧ j + 30 ≤ 1000000 ∧
  ∀ (v : V) (H' : Hp), BoxAt H' b (j + 30) → But b H H' → Q v H'
theorem Same.gen {H H' : Hp} (s : Same H H') : ∃ H2, H' = H2 ∧ Same H H2 := ⟨_, rfl, s⟩
def teCnt (K : PySem.W.Frag) : TE := tIf (tTest (tOp (rI0 fun i j => .bl (decide (j < i))) (tVar 5) (tC (.int 0)))) (tOp (rIxL K) (tLst (tCons (tC (.int 0)) (tCons (tC (.int 1)) (tCons (tC (.int 1)) (tCons (tC (.int 2)) (tCons (tC (.int 1)) (tCons (tC (.int 3)) tNil))))))) (tCall spTake [] E0 (tCons (tVar 0) (tCons (tC (.int 6)) tNil)))) (tC (.int 0))
theorem cnt_ok {K : PySem.W.Frag} {σ : L2.St} {H : Hp} {Q : V → Hp → Prop} {b : Addr} {j fr : Nat} (e0 : σ[0]? = some (some (.ref b))) (e5 : σ[5]? = some (some (.int (fr : Nat)))) (B : BoxAt H b j) (hj : j + 1 ≤ 1000000)
    (q : ∀ (n : Nat) (H' : Hp), n ≤ 3 → (0 < n → 0 < fr) → BoxAt H' b (j + 1) → But b H H' → Q (.int (n : Nat)) H') : teCnt K σ H Q := by
  refine ⟨_, e5, _, _, rfl, rfl, decide ((0 : Int) < (fr : Nat)), rfl, ?_⟩
  by_cases h : (0 : Int) < (fr : Nat)
  · rw [decide_eq_true h]
    refine iteT ⟨(by show 6 ≤ sizeLine; decide), fun a ha => ?_⟩
    have s1 := same_new ha (.lst [V.int 0, V.int 1, V.int 1, V.int 2, V.int 1, V.int 3])
    refine ⟨_, e0, b, _, _, rfl, B.same s1, by omega, by decide, by decide, fun r H2 c0 c1 B2 o2 => ?_⟩
    obtain ⟨k, rfl⟩ := Int.eq_ofNat_of_zero_le c0
    have k6 : k < 6 := by omega
    obtain ⟨z, hz, z3⟩ : ∃ z : Nat, [V.int 0, V.int 1, V.int 1, V.int 2, V.int 1, V.int 3][k]? = some (.int (z : Nat)) ∧ z ≤ 3 := by
      match k, k6 with
      | 0, _ => exact ⟨0, rfl, by omega⟩
      | 1, _ => exact ⟨1, rfl, by omega⟩
      | 2, _ => exact ⟨1, rfl, by omega⟩
      | 3, _ => exact ⟨2, rfl, by omega⟩
      | 4, _ => exact ⟨1, rfl, by omega⟩
      | 5, _ => exact ⟨3, rfl, by omega⟩
    exact ⟨a, _, _, _, rfl, rfl, .inl (.inl (o2 _ _ upd_same (ne_box B ha))), at_of (j := k) rfl hz, q z H2 z3 (fun _ => by omega) B2 ((but_of s1).trans o2)⟩
  · rw [decide_eq_false h]
    exact iteF (q 0 H (by omega) (fun h => nomatch h) (B.more (by omega)) (But.refl b H))
def teArgR : TE := tCall spTake [] E0 (tCons (tVar 0) (tCons (tVar 5) tNil))
section
variable {P : Program} {w : World} {K : PySem.W.Frag} {mg : Str → Option Value} {base : Heap}
abbrev NRl : List Str := ["_law_box_here", "_law_shapes_here", "_law_names_here", "_law_word", "_law_terms", "_law_fresh", "_law_turn", "_law_way", "_law_body", "_law_own", "_law_part"]
theorem scRuleL : FnScope NRl ["_law_box_here", "_law_shapes_here", "_law_names_here"] (defScope sRuleL) := ⟨rfl, rfl, rfl, by decide +kernel, rfl, by decide +kernel, by decide +kernel⟩
theorem ok_rulel {f fT fP : Addr} {fd fdT dP : FuncData} (F : Fun K "_law_rule" "_law_rule" sRuleL f fd)
    (GT : FnOk P w K mg base CX0 1 fT fdT ["_law_box_here", "_law_reach"] spTake) (kT : PySem.W.keepIn K (.ref fT) = true) (bT : Binds K fdT ["_law_box_here", "_law_reach"] []) (mT : mg "_law_take" = some (.ref fT))
    (GP : FnOk P w K mg base CX0 2 fP dP ["_law_box_here", "_law_things"] spPick) (kP : PySem.W.keepIn K (.ref fP) = true) (bP : Binds K dP ["_law_box_here", "_law_things"] []) (mP : mg "_law_pick" = some (.ref fP))
    (mRange : mg "range" = none) (mTuple : mg "tuple" = none) : FnOk P w K mg base CX0 3 f fd ["_law_box_here", "_law_shapes_here", "_law_names_here"] spRuleL := by
  refine F.ok scRuleL (fun vs H Q E h => ?_) (fun cdv A outer s H vs Q E hr h => ?_)
  · obtain ⟨b, d, p, ws, kvs, j, rfl, _⟩ := h
    rfl
  obtain ⟨b, d, p, ws, kvs, j, rfl, B, W, hj, q⟩ := h
  have r1 : Room 1 _ := hr.mono (by decide)
  refine ⟨_, pss_cons (ps_asg (pe_tup (pa_cons (pe_call GP hr rfl mP kP bP .nil pass0 (pa_cons (pv 0) (pa_cons (pv 2) pa_nil))) (pa_cons (pe_lst pa_nil) (pa_cons pe_int pa_nil))))
      (pg_tup (by rfl) (pgs_cons (pg_name (i := 3) scRuleL.nd rfl (Or.inl rfl)) (pgs_cons (pg_name (i := 4) scRuleL.nd rfl (Or.inl rfl)) (pgs_cons (pg_name (i := 5) scRuleL.nd rfl (Or.inr rfl)) pgs_nil)))))
    (pss_cons (ps_for PassesOwn.never rfl (pi_range1 (by rfl) mRange (pa_cons (pe_dget (hu_of hr) (pv 1) (pv 3) (fun _ _ => rfl)) pa_nil)) (pg_name (i := 6) scRuleL.nd rfl (Or.inl rfl))
      (pss_cons (ps_set (i := 7) scRuleL.nd rfl (Or.inl rfl) (pe_call GT r1 rfl mT kT bT .nil pass0 (pa_cons (pv 0) (pa_cons pe_int pa_nil))))
      (pss_cons (ps_expr (pe_bm PySem.F.plainAttrs_list PySem.F.slot_list_append PySem.F.type_list_append mt_append (pv 4) (pa_cons (pe_ix ix_list (pe_lst (pa_cons (pe_tup (pa_cons pe_str pa_nil)) (pa_cons (pv 5) (pa_cons (pe_tup (pa_cons pe_str (pa_cons (pv 5) pa_nil))) (pa_cons (pe_tup (pa_cons pe_str (pa_cons (pv 5) pa_nil))) (pa_cons (pe_tup (pa_cons pe_str (pa_cons (pv 5) pa_nil)))
          (pa_cons (pe_tup (pa_cons pe_str (pa_cons (pv 5) (pa_cons (pe_op op_add (pv 5) pe_int) pa_nil)))) pa_nil))))))) (pv 7) (fun _ _ => rfl)) pa_nil)))
      (pss_one (ps_set (i := 5) scRuleL.nd rfl (Or.inr rfl) (pe_op op_add (pv 5) (pe_ix ix_list (pe_lst (pa_cons pe_int (pa_cons pe_int (pa_cons pe_int (pa_cons pe_int (pa_cons pe_int (pa_cons pe_int pa_nil))))))) (pv 7) (fun _ _ => rfl))))))))
    (pss_cons (ps_set (i := 8) scRuleL.nd rfl (Or.inl rfl) (pe_lst pa_nil))
    (pss_cons (ps_for PassesOwn.never rfl (pi_range1 (by rfl) mRange (pa_cons (pe_ifExp (pt_cmpR op_gt (pv 5) pe_int (nomark _)) (pe_ix ix_list (pe_lst (pa_cons pe_int (pa_cons pe_int (pa_cons pe_int (pa_cons pe_int (pa_cons pe_int (pa_cons pe_int pa_nil))))))) (pe_call GT r1 rfl mT kT bT .nil pass0 (pa_cons (pv 0) (pa_cons pe_int pa_nil))) (fun _ _ => rfl)) pe_int) pa_nil)) (pg_name (i := 6) scRuleL.nd rfl (Or.inl rfl))
      (pss_cons (ps_set (i := 9) scRuleL.nd rfl (Or.inl rfl) (pe_call GP hr rfl mP kP bP .nil pass0 (pa_cons (pv 0) (pa_cons (pv 2) pa_nil))))
      (pss_one (ps_expr (pe_bm PySem.F.plainAttrs_list PySem.F.slot_list_append PySem.F.type_list_append mt_append (pv 8) (pa_cons (pe_op op_catT (pe_tup (pa_cons (pv 9) pa_nil)) (pe_callTy call_tuple_of (by rfl) mTuple (by decide +kernel) (pa_cons
        (pe_lc (own := [("_law_part", 10)]) (g := gName 10) (tt := tYes) (te := teArgR) rfl scRuleL.nd (pi_range1 (by rfl) mRange (pa_cons (pe_dget (hu_of hr) (pv 1) (pv 9) (fun _ _ => rfl)) pa_nil)) (blkOk_by (N := NRl) (sc := defScope sRuleL) (by decide +kernel))
          (fun _ _ _ _ _ => pg_name (i := 10) scRuleL.nd rfl (Or.inl rfl)) (fun _ _ _ _ _ => pts_nil) (fun _ _ _ _ _ => pe_call GT r1 (by rfl) mT kT bT .nil pass0 (pa_cons (pv 0) (pa_cons (pv 5) pa_nil)))) pa_nil))) pa_nil))))))
    (pss_one (ps_ret (pe_tup (pa_cons (pe_op op_catT (pe_tup (pa_cons (pv 3) pa_nil)) (pe_callTy call_tuple_of (by rfl) mTuple (by decide +kernel) (pa_cons (pv 4) pa_nil))) (pa_cons (pe_callTy call_tuple_of (by rfl) mTuple (by decide +kernel) (pa_cons (pv 8) pa_nil)) pa_nil)))))))), ?_⟩
  have big : (10000 : Nat) ≤ sizeLine := by decide
  have w4 := W.four
  have w1 := W.one
  have pick : ∀ {H1 : Hp} {j1 : Nat}, BoxAt H1 b j1 → Wsh H1 b d p ws kvs → j1 + 1 ≤ 1000000 → True := fun _ _ _ => trivial
  refine ⟨_, rfl, _, rfl, b, p, _, j, rfl, B, by omega, W.hp, W.pb, by rw [List.length_map]; omega, by rw [List.length_map]; omega, fun v H1 hv B1 o1 => ?_⟩
  obtain ⟨x, hx, rfl⟩ := List.mem_map.mp hv
  have W1 := W.but B o1
  refine ⟨(by show 0 ≤ sizeLine; decide), fun l hl => ⟨(by show 3 ≤ sizeLine; decide), fun t ht => ?_⟩⟩
  have s2 := same_new hl (.lst ([] : List V))
  have s3 := same_new ht (.tup [V.str x, V.ref l, V.int 0])
  have lb : l ≠ b := ne_box B1 hl
  have hl0 : H l = none := but_none o1 B1 hl
  refine ⟨t, _, rfl, .inl (.inl upd_same), rfl, _, _, rfl, _, _, rfl, _, _, rfl, rfl, ?_⟩
  have o3 : But b H _ := o1.trans (but_of (s2.trans s3))
  have B3 := (B1.same s2).same s3
  have hl3 := s3 _ _ (upd_same : (upd H1 l (.lst ([] : List V))) l = _)
  generalize upd (upd H1 l (.lst ([] : List V))) t (.tup [V.str x, V.ref l, V.int 0]) = H3 at o3 B3 hl3 ⊢
  have W3 := W.but B o3
  obtain ⟨_, hval, mm, rfl, mm1, mm2⟩ := W3.sh x hx
  refine ⟨_, rfl, _, rfl, d, _, rfl, by rw [← hval]; exact DGet.k (k := Sum.inr x) W3.hd, _, rfl, by omega, by omega, for_range (lo := 0) (n := ((mm : Nat) : Int).toNat) (fun i σ H6 => ∃ (xs : List V) (fr : Nat) (x6 x7 : Option V), σ = [some (.ref b), some (.ref d), some (.ref p), some (.str x), some (.ref l), some (.int (fr : Nat)), x6, x7, none, none, none] ∧
      H6 l = some (.lst xs) ∧ xs.length = i ∧ fr ≤ 2 * i ∧ BoxAt H6 b (j + 1 + i) ∧ But b H H6)
    ⟨[], 0, none, none, rfl, hl3, rfl, by omega, B3, o3⟩ ?_ ?_⟩
  · rintro i σ H6 hi ⟨xs, fr, x6, x7, rfl, h6l, xl, fl, B6, o6⟩
    refine ⟨_, rfl, b, _, _, rfl, B6, by omega, by decide, by decide, fun way H7 y0 y6 B7 o7 => ?_⟩
    have h7l := o7 _ _ h6l lb
    obtain ⟨k, rfl⟩ := Int.eq_ofNat_of_zero_le y0
    have k6 : k < 6 := by omega
    refine ⟨_, rfl, .inl ⟨rfl, _, .inl (.inl h7l)⟩, (by show 1 ≤ sizeLine; decide), fun a1 ha1 => ⟨_, rfl, ⟨_, rfl, (by show 2 ≤ sizeLine; decide), fun a2 ha2 => ⟨_, rfl, (by show 2 ≤ sizeLine; decide), fun a3 ha3 => ⟨_, rfl, (by show 2 ≤ sizeLine; decide), fun a4 ha4 => ⟨_, rfl, _, rfl, _, _, rfl, rfl, (by show 3 ≤ sizeLine; decide), fun a5 ha5 => ⟨(by show 6 ≤ sizeLine; decide), fun a6 ha6 => ?_⟩⟩⟩⟩⟩⟩⟩
    have q1 := same_new ha1 (.tup [V.str "0"])
    have q2 := same_new ha2 (.tup [V.str "s", V.int (fr : Nat)])
    have q3 := same_new ha3 (.tup [V.str "s", V.int (fr : Nat)])
    have q4 := same_new ha4 (.tup [V.str "s", V.int (fr : Nat)])
    have q5 := same_new ha5 (.tup [V.str "f", V.int (fr : Nat), V.int ((fr : Nat) + 1)])
    have q6 := same_new ha6 (.lst [V.ref a1, V.int (fr : Nat), V.ref a2, V.ref a3, V.ref a4, V.ref a5])
    have sA := q1.trans (q2.trans (q3.trans (q4.trans (q5.trans q6))))
    obtain ⟨y, hy⟩ : ∃ y, [V.ref a1, V.int (fr : Nat), V.ref a2, V.ref a3, V.ref a4, V.ref a5][k]? = some y := ⟨_, List.getElem?_eq_getElem (by simpa using k6)⟩
    obtain ⟨H8, e8, sA⟩ := Same.gen sA
    have e6 : H8 a6 = some (.lst [V.ref a1, V.int (fr : Nat), V.ref a2, V.ref a3, V.ref a4, V.ref a5]) := by rw [← e8]; exact upd_same
    have h8l := sA _ _ h7l
    have B8 := B7.same sA
    refine ⟨_, rfl, a6, _, _, y, rfl, rfl, .inl (.inl upd_same), at_of (j := k) rfl hy, ?_⟩
    rw [e8]
    refine ⟨l, _, _, rfl, rfl, h8l, by omega, ?_⟩
    have o8 := but_new hl0 (o6.trans o7) (o := .lst (xs ++ [y])) fun z u hz nb => sA _ _ hz
    have B9 := B8.upd lb (.lst (xs ++ [y]))
    have h9l : (upd H8 l (.lst (xs ++ [y]))) l = some (.lst (xs ++ [y])) := upd_same
    generalize upd H8 l (.lst (xs ++ [y])) = H9 at o8 B9 h9l ⊢
    refine ⟨_, rfl, (by show 6 ≤ sizeLine; decide), fun a7 ha7 => ?_⟩
    have q7 := same_new ha7 (.lst [V.int 0, V.int 1, V.int 1, V.int 1, V.int 1, V.int 2])
    obtain ⟨z, hz, z2⟩ : ∃ z : Nat, [V.int 0, V.int 1, V.int 1, V.int 1, V.int 1, V.int 2][k]? = some (.int (z : Nat)) ∧ z ≤ 2 := by
      match k, k6 with
      | 0, _ => exact ⟨0, rfl, by omega⟩
      | 1, _ => exact ⟨1, rfl, by omega⟩
      | 2, _ => exact ⟨1, rfl, by omega⟩
      | 3, _ => exact ⟨1, rfl, by omega⟩
      | 4, _ => exact ⟨1, rfl, by omega⟩
      | 5, _ => exact ⟨2, rfl, by omega⟩
    refine ⟨_, rfl, a7, _, _, _, rfl, rfl, .inl (.inl upd_same), at_of (j := k) rfl hz, _, _, rfl, rfl, ?_⟩
    exact ⟨xs ++ [y], fr + z, _, _, rfl, q7 _ _ h9l, by simp [xl], by omega, (B9.same q7).more (by omega), o8.trans (but_of q7)⟩
  · rintro σ H6 ⟨xs, fr, x6, x7, rfl, h6l, xl, fl, B6, o6⟩
    have xl2 : xs.length ≤ 2 := by omega
    refine ⟨(by show 0 ≤ sizeLine; decide), fun l2 hl2 => ?_⟩
    have s7 := same_new hl2 (.lst ([] : List V))
    have l2b : l2 ≠ b := ne_box B6 hl2
    have hl20 : H l2 = none := but_none o6 B6 hl2
    have ll : l ≠ l2 := ne_of_none h6l hl2
    have h7l := s7 _ _ h6l
    have B7 := (B6.same s7).more (k := j + 4) (by omega)
    have o7 := o6.trans (but_of s7)
    have h7 : (upd H6 l2 (.lst ([] : List V))) l2 = some (.lst []) := upd_same
    generalize upd H6 l2 (.lst ([] : List V)) = H7 at h7l B7 o7 h7 ⊢
    refine cnt_ok (H := H7) rfl rfl B7 (by omega) fun n H8 n3 nf B8 o8' => ?_
    have h8l := o8' _ _ h7l lb
    have h82 := o8' _ _ h7 l2b
    have o8 := o7.trans o8'
    refine ⟨_, rfl, by omega, by omega, for_range (lo := 0) (n := ((n : Nat) : Int).toNat) (fun i σ H9 => ∃ (ys : List V) (x6 x9 : Option V), σ = [some (.ref b), some (.ref d), some (.ref p), some (.str x), some (.ref l), some (.int (fr : Nat)), x6, x7, some (.ref l2), x9, none] ∧
      H9 l2 = some (.lst ys) ∧ ys.length = i ∧ H9 l = some (.lst xs) ∧ BoxAt H9 b (j + 5 + 5 * i) ∧ But b H H9)
      ⟨[], _, none, rfl, h82, rfl, h8l, B8, o8⟩ ?_ ?_⟩
    · rintro i σ H9 hi ⟨ys, x6', x9, rfl, h9, yl, h9l, B9, o9⟩
      have fp : 0 < fr := nf (by omega)
      have W9 := W.but B o9
      refine ⟨_, rfl, _, rfl, b, p, _, _, rfl, B9, by omega, W9.hp, W.pb, by rw [List.length_map]; omega, by rw [List.length_map]; omega, fun v H10 hv B10 o10 => ?_⟩
      obtain ⟨x2, hx2, rfl⟩ := List.mem_map.mp hv
      have h10 := o10 _ _ h9 l2b
      refine ⟨_, rfl, .inl ⟨rfl, _, .inl (.inl h10)⟩, _, rfl, (by show 1 ≤ sizeLine; decide), fun t1 ht1 => ?_⟩
      have s11 := same_new ht1 (.tup [V.str x2])
      have t1b : t1 ≠ b := ne_box B10 ht1
      have et1 : (upd H10 t1 (.tup [V.str x2])) t1 = some (.tup [V.str x2]) := upd_same
      have B11 := B10.same s11
      have o11 := (o9.trans o10).trans (but_of s11)
      have h11 := s11 _ _ h10
      have h11l := s11 _ _ (o10 _ _ h9l lb)
      generalize upd H10 t1 (.tup [V.str x2]) = H11 at et1 B11 o11 h11 h11l ⊢
      have W11 := W.but B o11
      obtain ⟨_, hval2, m2, rfl, m21, m22⟩ := W11.sh x2 hx2
      refine ⟨_, rfl, _, rfl, d, _, rfl, by rw [← hval2]; exact DGet.k (k := Sum.inr x2) W11.hd, _, rfl, by omega, by omega, fun D hD => lc_range (lo := 0) (fun r H12 => ∃ zs : List V, H12 D = some (.lst zs) ∧ zs.length = r ∧ BoxAt H12 b (j + 5 + 5 * i + 1 + r) ∧ But b H11 H12)
        ⟨[], upd_same, rfl, (B11.same (same_new hD _)).more (by omega), but_of (same_new hD _)⟩ ?_ ?_⟩
      · rintro r H12 hr' ⟨zs, h12, zl, B12, o12⟩
        have Db : D ≠ b := ne_box B11 hD
        refine ⟨rfl, ?_⟩
        unfold teArgR
        refine ⟨_, rfl, _, rfl, b, _, _, rfl, B12, by omega, by omega, by omega, fun z H13 z0 z1 B13 o13 => ?_⟩
        exact ⟨zs, o13 _ _ h12 Db, by omega, zs ++ [.int z], upd_same, by simp [zl], (B13.upd Db _).more (by omega), but_new hD o12 o13⟩
      · rintro H12 ⟨zs, h12, zl, B12, o12⟩
        have zl2 : zs.length ≤ 2 := by omega
        refine ⟨D, zs, rfl, .inl ⟨.inl (.inl h12), fun g hg => ?_⟩⟩
        have s13 := same_new hg (.tup zs)
        have fin2 : ∀ (v : V) (H14 : Hp), Same H12 H14 → ∃ l0 xs0 y0, V.ref l2 = V.ref l0 ∧ [v] = [y0] ∧ H14 l0 = some (.lst xs0) ∧ xs0.length < sizeLine ∧
            (∃ (ys : List V) (x6 x9 : Option V), ([some (.ref b), some (.ref d), some (.ref p), some (.str x), some (.ref l), some (.int (fr : Nat)), some (.int (0 + (i : Int))), x7, some (.ref l2), some (.str x2), none] : L2.St) = [some (.ref b), some (.ref d), some (.ref p), some (.str x), some (.ref l), some (.int (fr : Nat)), x6, x7, some (.ref l2), x9, none] ∧
              (upd H14 l0 (.lst (xs0 ++ [y0]))) l2 = some (.lst ys) ∧ ys.length = i + 1 ∧ (upd H14 l0 (.lst (xs0 ++ [y0]))) l = some (.lst xs) ∧ BoxAt (upd H14 l0 (.lst (xs0 ++ [y0]))) b (j + 5 + 5 * (i + 1)) ∧ But b H (upd H14 l0 (.lst (xs0 ++ [y0])))) := by
          intro v H14 s14
          have h14 := s14 _ _ (o12 _ _ h11 l2b)
          refine ⟨l2, ys, v, rfl, rfl, h14, by omega, ys ++ [v], _, _, rfl, upd_same, by simp [yl], ?_, ((B12.same s14).upd l2b _).more (by omega), but_new hl20 (o11.trans o12) fun z u hz _ => s14 _ _ hz⟩
          rw [upd_ne ll]
          exact s14 _ _ (o12 _ _ h11l lb)
        refine ⟨t1, g, [V.str x2], zs, rfl, rfl, .inl (.inl (s13 _ _ (o12 _ _ et1 t1b))), .inl (.inl upd_same), by simp, by simp; omega, fun _ => fin2 _ _ s13, fun _ t2 ht2 => fin2 _ _ (s13.trans (same_new ht2 _))⟩
    · rintro σ H9 ⟨ys, x6', x9, rfl, h9, yl, h9l, B9, o9⟩
      have yl3 : ys.length ≤ 3 := by omega
      refine ⟨_, rfl, (by show 1 ≤ sizeLine; decide), fun t1 ht1 => ?_⟩
      have s10 := same_new ht1 (.tup [V.str x])
      refine ⟨_, rfl, l, xs, rfl, .inl ⟨.inl (.inl (s10 _ _ h9l)), fun g hg => ?_⟩⟩
      have s11 := same_new hg (.tup xs)
      have fin3 : ∀ (H14 : Hp), Same H9 H14 → ∀ v : V, ∃ v0, ([some (.ref b), some (.ref d), some (.ref p), some (.str x), some (.ref l), some (.int (fr : Nat)), x6', x7, some (.ref l2), x9, none] : L2.St)[8]? = some (some v0) ∧ ∃ p0 ys0, [v0] = [V.ref p0] ∧
          ((SqL K H14 p0 ys0 ∧ ∀ l0, H14 l0 = none → 2 ≤ sizeLine ∧ ∀ c, (upd H14 l0 (.tup ys0)) c = none → Q (.ref c) (upd (upd H14 l0 (.tup ys0)) c (.tup [v, .ref l0]))) ∨ (SqT K H14 p0 ys0 ∧ 2 ≤ sizeLine ∧ ∀ c, H14 c = none → Q (.ref c) (upd H14 c (.tup [v, .ref p0])))) := by
        intro H14 s14 v
        refine ⟨_, rfl, l2, ys, rfl, .inl ⟨.inl (.inl (s14 _ _ h9)), fun l0 hl0 => ⟨by decide, fun c hc => ?_⟩⟩⟩
        have s15 := same_new hl0 (.tup ys)
        have s16 := same_new hc (.tup [v, .ref l0])
        have sB := s14.trans (s15.trans s16)
        exact q _ _ ((B9.same sB).more (by omega)) (o9.trans (but_of sB))
      exact ⟨t1, g, [V.str x], xs, rfl, rfl, .inl (.inl (s11 _ _ upd_same)), .inl (.inl upd_same), by simp, by simp; omega, fun _ => fin3 _ (s10.trans s11) _, fun _ t2 ht2 => fin3 _ (s10.trans (s11.trans (same_new ht2 _))) _⟩
end
end Rp

set_option maxHeartbeats 16000000
namespace Rp
open PySem PySem.Spec PyProof.Rows L2 TL StX
def spBaseL : Sp := fun vs H Q _ => ∃ (d : Addr) (kvs : KVs) (x : Str) (m : Nat), vs = [.ref d, .str x] ∧ H d = some (.dK kvs) ∧ valV kvs (.inr x) = some (.int (m : Nat)) ∧ 1 ≤ m ∧ m ≤ 2 ∧ ∀ (v : V) (H' : Hp), Same H H' → Q v H'
def spRulesL : Sp := fun vs H Q _ => ∃ (b d p : Addr) (ws : List Str) (kvs : KVs) (j n : Nat), vs = [.ref b, .ref d, .ref p, .int (n : Nat)] ∧ 1 ≤ n ∧ n ≤ 8 ∧ BoxAt H b j ∧ Wsh H b d p ws kvs ∧ j + 250 ≤ 1000000 ∧
  ∀ (v : V) (H' : Hp), BoxAt H' b (j + 250) → But b H H' → Q v H'
def spBegin : Sp := fun vs H Q _ => ∃ (b : Addr) (j n : Nat), vs = [.ref b, .int (n : Nat)] ∧ 1 ≤ n ∧ n ≤ 8 ∧ BoxAt H b j ∧ j + 270 ≤ 1000000 ∧
  ∀ (t d p : Addr) (r : V) (ws : List Str) (kvs : KVs) (H' : Hp), H' t = some (.tup [.ref p, .ref d, r]) → Wsh H' b d p ws kvs → (∀ x ∈ ws, NameOk x) → BoxAt H' b (j + 270) → But b H H' → Q (.ref t) H'
def teBaseL : TE := tCall spBaseL [] E0 (tCons (tVar 1) (tCons (tVar 6) tNil))
def ttBaseL : TT := tTest (tOp (rI0 fun i j => .bl (decide (j < i))) (tCall spTake [] E0 (tCons (tVar 0) (tCons (tC (.int 3)) tNil))) (tC (.int 0)))
theorem Wsh.same {H H' : Hp} {b d p : Addr} {ws : List Str} {kvs : KVs} (W : Wsh H b d p ws kvs) (o : Same H H') : Wsh H' b d p ws kvs := ⟨o _ _ W.hd, W.sh, o _ _ W.hp, W.pb, W.one, W.four⟩
section
variable {P : Program} {w : World} {K : PySem.W.Frag} {mg : Str → Option Value} {base : Heap}
theorem scBaseL : FnScope ["_law_shapes_here", "_law_word"] ["_law_shapes_here", "_law_word"] (defScope sBaseL) := ⟨rfl, rfl, rfl, by decide +kernel, rfl, by decide +kernel, by decide +kernel⟩
theorem ok_basel {f : Addr} {fd : FuncData} (F : Fun K "_law_base" "_law_base" sBaseL f fd) : FnOk P w K mg base CX0 1 f fd ["_law_shapes_here", "_law_word"] spBaseL := by
  refine F.ok scBaseL (fun vs H Q E h => ?_) (fun cdv A outer s H vs Q E hr h => ?_)
  · obtain ⟨d, kvs, x, m, rfl, _⟩ := h
    rfl
  obtain ⟨d, kvs, x, m, rfl, hd, hv, m1, m2, q⟩ := h
  refine ⟨_, pss_one (ps_ret (pe_tup (pa_cons (pe_op op_catT (pe_tup (pa_cons (pv 1) pa_nil)) (pe_op op_repO (pe_tup (pa_cons (pe_tup (pa_cons pe_str pa_nil)) pa_nil)) (pe_dget (hu_of hr) (pv 0) (pv 1) (fun _ _ => rfl)))) (pa_cons (pe_tup pa_nil) pa_nil)))), ?_⟩
  have big : (10 : Nat) ≤ sizeLine := by decide
  refine ⟨_, rfl, (by show 1 ≤ sizeLine; decide), fun t1 h1 => ?_⟩
  have s1 := same_new h1 (.tup [V.str x])
  refine ⟨(by show 1 ≤ sizeLine; decide), fun t2 h2 => ⟨(by show 1 ≤ sizeLine; decide), fun t3 h3 => ?_⟩⟩
  have s2 := same_new h2 (.tup [V.str "0"])
  have s3 := same_new h3 (.tup [V.ref t2])
  have sA := s1.trans (s2.trans s3)
  refine ⟨_, rfl, _, rfl, d, _, rfl, by rw [← hv]; exact DGet.k (k := Sum.inr x) (sA _ _ hd), t3, _, _, rfl, rfl, .inl (.inl upd_same), by simp, by omega, by omega, by simp, fun _ => ?_, fun _ t4 h4 => ?_⟩
  · refine ⟨t1, t3, _, _, rfl, rfl, .inl (.inl (s3 _ _ (s2 _ _ upd_same))), .inl (.inl upd_same), by simp, by rw [List.length_singleton, List.length_singleton]; omega, fun e => by simp at e, fun _ t5 h5 => ⟨(by show 0 ≤ sizeLine; decide), fun t6 h6 => ⟨(by show 2 ≤ sizeLine; decide), fun t7 h7 => ?_⟩⟩⟩
    exact q _ _ (sA.trans ((same_new h5 _).trans ((same_new h6 _).trans (same_new h7 _))))
  · have s4 := same_new h4 (.tup (List.replicate (m : Int).toNat [V.ref t2]).flatten)
    have ln : (List.replicate (m : Int).toNat [V.ref t2]).flatten.length = m := by simp
    refine ⟨t1, t4, _, _, rfl, rfl, .inl (.inl (s4 _ _ (s3 _ _ (s2 _ _ upd_same)))), .inl (.inl upd_same), by simp, by rw [ln, List.length_singleton]; omega, fun e => by rw [e] at ln; simp at ln; omega, fun _ t5 h5 => ⟨(by show 0 ≤ sizeLine; decide), fun t6 h6 => ⟨(by show 2 ≤ sizeLine; decide), fun t7 h7 => ?_⟩⟩⟩
    exact q _ _ (sA.trans (s4.trans ((same_new h5 _).trans ((same_new h6 _).trans (same_new h7 _)))))
abbrev NRs : List Str := ["_law_box_here", "_law_shapes_here", "_law_names_here", "_law_count", "_law_found", "_law_turn", "_law_word"]
theorem scRulesL : FnScope NRs ["_law_box_here", "_law_shapes_here", "_law_names_here", "_law_count"] (defScope sRulesL) := ⟨rfl, rfl, rfl, by decide +kernel, rfl, by decide +kernel, by decide +kernel⟩
theorem ok_rulesl {f fT fB fR : Addr} {fd fdT dB dR : FuncData} (F : Fun K "_law_rules" "_law_rules" sRulesL f fd)
    (GT : FnOk P w K mg base CX0 1 fT fdT ["_law_box_here", "_law_reach"] spTake) (kT : PySem.W.keepIn K (.ref fT) = true) (bT : Binds K fdT ["_law_box_here", "_law_reach"] []) (mT : mg "_law_take" = some (.ref fT))
    (GB : FnOk P w K mg base CX0 1 fB dB ["_law_shapes_here", "_law_word"] spBaseL) (kB : PySem.W.keepIn K (.ref fB) = true) (bB : Binds K dB ["_law_shapes_here", "_law_word"] []) (mB : mg "_law_base" = some (.ref fB))
    (GR : FnOk P w K mg base CX0 3 fR dR ["_law_box_here", "_law_shapes_here", "_law_names_here"] spRuleL) (kR : PySem.W.keepIn K (.ref fR) = true) (bR : Binds K dR ["_law_box_here", "_law_shapes_here", "_law_names_here"] []) (mR : mg "_law_rule" = some (.ref fR))
    (mRange : mg "range" = none) : FnOk P w K mg base CX0 4 f fd ["_law_box_here", "_law_shapes_here", "_law_names_here", "_law_count"] spRulesL := by
  refine F.ok scRulesL (fun vs H Q E h => ?_) (fun cdv A outer s H vs Q E hr h => ?_)
  · obtain ⟨b, d, p, ws, kvs, j, n, rfl, _⟩ := h
    rfl
  obtain ⟨b, d, p, ws, kvs, j, n, rfl, n1, n8, B, W, hj, q⟩ := h
  have r1 : Room 1 _ := hr.mono (by decide)
  refine ⟨_, pss_cons (ps_setLc (i := 4) (own := [("_law_word", 6)]) (g := gName 6) (tt := ttBaseL) (te := teBaseL) rfl scRulesL.nd rfl rfl (by rfl) (pi_list (pv 2))
        (blkOk_by (N := NRs) (sc := defScope sRulesL) (by decide +kernel)) (fun _ _ _ _ _ => pg_name (i := 6) scRulesL.nd rfl (Or.inl rfl)) (fun _ _ _ _ _ => pts_one (pt_cmpR op_gt (pe_call GT r1 (by rfl) mT kT bT .nil pass0 (pa_cons (pv 0) (pa_cons pe_int pa_nil))) pe_int (nomark _)))
        (fun _ _ _ _ _ => pe_call GB r1 (by rfl) mB kB bB .nil pass0 (pa_cons (pv 1) (pa_cons (pv 6) pa_nil))))
    (pss_cons (ps_for PassesOwn.never rfl (pi_range1 (by rfl) mRange (pa_cons (pe_op op_add pe_int (pe_call GT r1 rfl mT kT bT .nil pass0 (pa_cons (pv 0) (pa_cons (pv 3) pa_nil)))) pa_nil)) (pg_name (i := 5) scRulesL.nd rfl (Or.inl rfl))
      (pss_one (ps_expr (pe_bm PySem.F.plainAttrs_list PySem.F.slot_list_append PySem.F.type_list_append mt_append (pv 4) (pa_cons (pe_call GR hr rfl mR kR bR .nil pass0 (pa_cons (pv 0) (pa_cons (pv 1) (pa_cons (pv 2) pa_nil)))) pa_nil)))))
    (pss_one (ps_ret (pe_slice sl_list (pv 4) po_none (po_some (pv 3)))))), ?_⟩
  have big : (10000 : Nat) ≤ sizeLine := by decide
  have w4 := W.four
  refine ⟨_, rfl, p, rfl, ⟨_, .inl (.inl W.hp)⟩, fun D hD => lc_list (K := K) (a := p) (xs := ws.map V.str) (fun i H2 => ∃ xs : List V, H2 D = some (.lst xs) ∧ xs.length ≤ i ∧ BoxAt H2 b (j + i) ∧ But b H H2)
    ⟨[], upd_same, Nat.le_refl _, (B.same (same_new hD _)).more (by omega), but_of (same_new hD _)⟩ (fun i H2 _ ⟨_, _, _, _, o⟩ => .inl (.inl (o _ _ W.hp W.pb))) ?_ ?_⟩
  · rintro i x H2 hi ⟨xs, h2, xl, B2, o2⟩
    have Db : D ≠ b := ne_box B hD
    have i4 : i < ws.length := by
      have := (List.getElem?_eq_some_iff.mp hi).1
      rw [List.length_map] at this
      exact this
    obtain ⟨y, hy, rfl⟩ := List.mem_map.mp (List.mem_of_getElem? hi)
    refine ⟨rfl, ?_⟩
    unfold ttBaseL teBaseL
    refine ⟨_, rfl, b, _, _, rfl, B2, by omega, by decide, by decide, fun r H3 c0 c1 B3 o3 => ?_⟩
    refine ⟨_, _, rfl, rfl, decide ((0 : Int) < r), rfl, ?_⟩
    have h3 := o3 _ _ h2 Db
    have o23 := o2.trans o3
    by_cases hr0 : (0 : Int) < r
    · rw [decide_eq_true hr0]
      have W3 := W.but B o23
      obtain ⟨_, hval, m, rfl, m1, m2⟩ := W3.sh y hy
      refine iteT ⟨_, rfl, _, rfl, d, kvs, y, m, rfl, W3.hd, hval, m1, m2, fun v H4 s4 => ?_⟩
      exact ⟨xs, s4 _ _ h3, by omega, xs ++ [v], upd_same, by simp; omega, ((B3.same s4).upd Db _).more (by omega), but_new hD o2 fun z u hz nb => s4 _ _ (o3 _ _ hz nb)⟩
    · rw [decide_eq_false hr0]
      exact iteF ⟨xs, h3, by omega, B3.more (by omega), o23⟩
  · rintro H2 ⟨xs, h2, xl, B2, o2⟩
    rw [List.length_map] at xl B2
    have Db : D ≠ b := ne_box B hD
    refine ⟨_, rfl, _, rfl, b, _, _, rfl, B2, by omega, by omega, by omega, fun r H3 c0 c1 B3 o3 => ?_⟩
    obtain ⟨k, rfl⟩ := Int.eq_ofNat_of_zero_le c0
    refine ⟨_, _, rfl, rfl, _, rfl, by omega, by omega, for_range (lo := 0) (n := ((1 : Int) + (k : Nat)).toNat) (fun i σ H6 => ∃ (ys : List V) (x5 x6 : Option V), σ = [some (.ref b), some (.ref d), some (.ref p), some (.int (n : Nat)), some (.ref D), x5, x6] ∧
      H6 D = some (.lst ys) ∧ ys.length = xs.length + i ∧ BoxAt H6 b (j + 5 + 30 * i) ∧ But b H H6)
      ⟨xs, _, _, rfl, o3 _ _ h2 Db, rfl, B3.more (by omega), o2.trans o3⟩ ?_ ?_⟩
    · rintro i σ H6 hi ⟨ys, x5, x6, rfl, h6, yl, B6, o6⟩
      have W6 := W.but B o6
      refine ⟨_, rfl, .inl ⟨rfl, _, .inl (.inl h6)⟩, _, rfl, _, rfl, _, rfl, b, d, p, ws, kvs, _, rfl, B6, W6, by omega, fun v H7 B7 o7 => ?_⟩
      have h7 := o7 _ _ h6 Db
      exact ⟨D, ys, v, rfl, rfl, h7, by omega, ys ++ [v], _, _, rfl, upd_same, by simp [yl]; omega, (B7.upd Db _).more (by omega), but_new hD o6 o7⟩
    · rintro σ H6 ⟨ys, x5, x6, rfl, h6, yl, B6, o6⟩
      refine ⟨_, rfl, _, rfl, (n : Int), rfl, D, ys, rfl, .inl (.inl h6), fun g hg => ?_⟩
      have s7 := same_new hg (.lst (cutV ys none (some (n : Int))))
      exact q _ _ ((B6.same s7).more (by omega)) (o6.trans (but_of s7))
theorem scBegin : FnScope ["_law_box_here", "_law_count", "_law_words", "_law_shapes_here"] ["_law_box_here", "_law_count"] (defScope sBegin) := ⟨rfl, rfl, rfl, by decide +kernel, rfl, by decide +kernel, by decide +kernel⟩
theorem ok_begin {f fT fN fS fR : Addr} {fd fdT dN dS dR : FuncData} (F : Fun K "_law_begin" "_law_begin" sBegin f fd)
    (GT : FnOk P w K mg base CX0 1 fT fdT ["_law_box_here", "_law_reach"] spTake) (kT : PySem.W.keepIn K (.ref fT) = true) (bT : Binds K fdT ["_law_box_here", "_law_reach"] []) (mT : mg "_law_take" = some (.ref fT))
    (GN : FnOk P w K mg base CX0 2 fN dN ["_law_box_here", "_law_count"] spWords) (kN : PySem.W.keepIn K (.ref fN) = true) (bN : Binds K dN ["_law_box_here", "_law_count"] []) (mN : mg "_law_names" = some (.ref fN))
    (GS : FnOk P w K mg base CX0 2 fS dS ["_law_box_here", "_law_names_here"] spShapes) (kS : PySem.W.keepIn K (.ref fS) = true) (bS : Binds K dS ["_law_box_here", "_law_names_here"] []) (mS : mg "_law_shapes" = some (.ref fS))
    (GR : FnOk P w K mg base CX0 4 fR dR ["_law_box_here", "_law_shapes_here", "_law_names_here", "_law_count"] spRulesL) (kR : PySem.W.keepIn K (.ref fR) = true) (bR : Binds K dR ["_law_box_here", "_law_shapes_here", "_law_names_here", "_law_count"] []) (mR : mg "_law_rules" = some (.ref fR)) : FnOk P w K mg base CX0 5 f fd ["_law_box_here", "_law_count"] spBegin := by
  refine F.ok scBegin (fun vs H Q E h => ?_) (fun cdv A outer s H vs Q E hr h => ?_)
  · obtain ⟨b, j, n, rfl, _⟩ := h
    rfl
  obtain ⟨b, j, n, rfl, n1, n8, B, hj, q⟩ := h
  have r1 : Room 1 _ := hr.mono (by decide)
  have r2 : Room 2 _ := hr.mono (by decide)
  refine ⟨_, pss_cons (ps_set (i := 2) scBegin.nd rfl (Or.inl rfl) (pe_call GN r2 rfl mN kN bN .nil pass0 (pa_cons (pv 0) (pa_cons (pe_op op_add pe_int (pe_call GT r1 rfl mT kT bT .nil pass0 (pa_cons (pv 0) (pa_cons pe_int pa_nil)))) pa_nil))))
    (pss_cons (ps_set (i := 3) scBegin.nd rfl (Or.inl rfl) (pe_call GS r2 rfl mS kS bS .nil pass0 (pa_cons (pv 0) (pa_cons (pv 2) pa_nil))))
    (pss_one (ps_ret (pe_tup (pa_cons (pv 2) (pa_cons (pv 3) (pa_cons (pe_call GR hr rfl mR kR bR .nil pass0 (pa_cons (pv 0) (pa_cons (pv 3) (pa_cons (pv 2) (pa_cons (pv 1) pa_nil))))) pa_nil))))))), ?_⟩
  refine ⟨_, rfl, _, rfl, b, _, _, rfl, B, by omega, by decide, by decide, fun r H1 c0 c1 B1 o1 => ?_⟩
  obtain ⟨k, rfl⟩ := Int.eq_ofNat_of_zero_le c0
  refine ⟨_, _, rfl, rfl, b, _, 1 + k, rfl, by omega, by omega, B1, by omega, fun p ws H2 hp0 hp wl wo wn B2 o2 => ?_⟩
  have pb : p ≠ b := ne_box B1 hp0
  refine ⟨_, rfl, _, rfl, b, p, ws, _, rfl, B2, hp, pb, by omega, by omega, fun d kvs H3 hd0 hd sh B3 o3 => ?_⟩
  have W3 : Wsh H3 b d p ws kvs := ⟨hd, sh, o3 _ _ hp pb, pb, by omega, by omega⟩
  refine ⟨_, rfl, _, rfl, _, rfl, _, rfl, _, rfl, _, rfl, b, d, p, ws, kvs, _, n, rfl, n1, n8, B3, W3, by omega, fun v H4 B4 o4 => ⟨(by show 3 ≤ sizeLine; decide), fun t ht => ?_⟩⟩
  have s5 := same_new ht (.tup [V.ref p, V.ref d, v])
  exact q t d p v ws kvs _ upd_same ((W3.but B3 o4).same s5) wo ((B4.same s5).more (by omega)) (o1.trans (o2.trans (o3.trans (o4.trans (but_of s5)))))
end
end Rp

set_option maxHeartbeats 8000000
/-! ATOMs, SAYINGs, BINDINGs as data: how large; what is shown of data. -/
namespace Rp
open PySem PySem.Spec PyProof.Rows L2 TL RZ StX
theorem dat_tup {H : Hp} {b c : Addr} {xs : List V} {ds : List PyData} (h : H c = some (.tup xs)) (A : DAtAll H b xs ds) : DAt H b (.ref c) (.tuple ds) := by unfold DAt; exact ⟨c, xs, rfl, .inl h, A⟩
theorem dat_str {H : Hp} {b : Addr} {x : Str} : DAt H b (.str x) (.str x) := by unfold DAt; rfl
theorem dat_int {H : Hp} {b : Addr} {n : Int} : DAt H b (.int n) (.int n) := by unfold DAt; rfl
theorem AllAt.dat {H : Hp} {b : Addr} : ∀ {xs : List V} {ts : List Tm}, AllAt H xs ts → DAtAll H b xs (ts.map tmD)
  | [], [], _ => .nil
  | _ :: _, _ :: _, h => .cons h.1.dat (AllAt.dat h.2)
theorem AtAt.dat {H : Hp} {b : Addr} {v : V} {a : At} (h : AtAt H v a) : DAt H b v (atD a) := by
  obtain ⟨p, xs, rfl, hp, A⟩ := h
  exact dat_tup hp (.cons dat_str A.dat)
theorem AtsAt.dat {H : Hp} {b : Addr} : ∀ {xs : List V} {as : List At}, AtsAt H xs as → DAtAll H b xs (as.map atD)
  | [], [], _ => .nil
  | _ :: _, _ :: _, h => .cons h.1.dat (AtsAt.dat h.2)
def syD (s : Sy) : PyData := .tuple [.tuple (s.hs.map atD), atD s.gl]
theorem SyAt.dat {H : Hp} {b : Addr} {v : V} {s : Sy} (h : SyAt H v s) : DAt H b v (syD s) := by
  obtain ⟨p, q, vg, xs, rfl, hp, hq, A, G⟩ := h
  exact dat_tup hp (.cons (dat_tup hq A.dat) (.cons G.dat .nil))
def prD (p : Int × Tm) : PyData := .tuple [.int p.1, tmD p.2]
def biD (ps : Prs) : PyData := .tuple (ps.map prD)
theorem PrAt.dat {H : Hp} {b : Addr} : ∀ {xs : List V} {ps : Prs}, PrAt H xs ps → DAtAll H b xs (ps.map prD)
  | [], [], _ => .nil
  | _ :: _, (n, t) :: _, ⟨⟨c, y, e, hc, T⟩, r⟩ => by
    subst e
    exact .cons (dat_tup hc (.cons dat_int (.cons T.dat .nil))) (PrAt.dat r)
theorem BiAt.dat {H : Hp} {b : Addr} {v : V} {ps : Prs} (h : BiAt H v ps) : DAt H b v (biD ps) := by
  obtain ⟨a, xs, rfl, ha, A⟩ := h
  exact dat_tup ha A.dat
/-! how large -/
theorem low_asc {x : Str} {L : Nat} (h : NameOk x) (hL : 6 ≤ L) : Asc L x := ⟨Nat.le_trans h.few hL, fun c hc => by have := h.low c hc; omega⟩
theorem fq_tm {L : Nat} (hL : 1 ≤ L) : ∀ {t : Tm}, t.small → Fq (t.deep + 1) 6 L (tmD t)
  | .v n, h => (fq_int (k := 0) (by have := h n (by simp [Tm.nums]); omega)).more (by omega) (Nat.le_refl _) (Nat.le_refl _)
  | .z, _ => fq_tup.mpr ⟨by simp, fun d hd => by
      obtain rfl : d = .str "0" := by simpa using hd
      exact Asc.fq ((asc_of (L := 1) (by decide +kernel)).more hL)⟩
  | .s t, h => fq_tup.mpr ⟨by simp, fun d hd => by
      simp only [List.mem_cons, List.not_mem_nil, or_false] at hd
      rcases hd with rfl | rfl
      · exact Asc.fq ((asc_of (L := 1) (by decide +kernel)).more hL)
      · exact fq_tm hL (t := t) fun n hn => h n hn⟩
  | .f l r, h => fq_tup.mpr ⟨by simp, fun d hd => by
      simp only [List.mem_cons, List.not_mem_nil, or_false] at hd
      rcases hd with rfl | rfl | rfl
      · exact Asc.fq ((asc_of (L := 1) (by decide +kernel)).more hL)
      · exact (fq_tm hL (t := l) fun n hn => h n (by simp [Tm.nums, hn])).more (by simp only [Tm.deep]; omega) (Nat.le_refl _) (Nat.le_refl _)
      · exact (fq_tm hL (t := r) fun n hn => h n (by simp [Tm.nums, hn])).more (by simp only [Tm.deep]; omega) (Nat.le_refl _) (Nat.le_refl _)⟩
theorem fq_tm7 {t : Tm} (h : t.small) (z : t.size ≤ 7) : Fq 7 6 7 (tmD t) ∧ nd (tmD t) ≤ 14 := by
  have dl := Tm.deep_lt t
  have n := (tm_ok t).2.2
  exact ⟨(fq_tm (by decide) h).more (by omega) (Nat.le_refl _) (Nat.le_refl _), by omega⟩
theorem ndAll_le_mul {n : Nat} : ∀ {ds : List PyData}, (∀ d ∈ ds, nd d ≤ n) → ndAll ds ≤ n * ds.length
  | [], _ => by simp [ndAll]
  | d :: ds, h => by
    have h1 := h d (by simp)
    have h2 := ndAll_le_mul (ds := ds) fun e he => h e (by simp [he])
    simp only [ndAll, List.length_cons, Nat.mul_add]
    omega
theorem fq_at7 {a : At} (ok : AtOk 7 a) : Fq 8 6 7 (atD a) ∧ nd (atD a) ≤ 30 ∧ IsAm (atD a) := by
  have o1 := ok.one
  have o2 := ok.two
  refine ⟨fq_tup.mpr ⟨by simp; omega, fun d hd => ?_⟩, ?_, isAm_at.mpr ⟨a, rfl, ⟨ok.nm, ok.one, ok.two, fun t ht => (ok.sm t ht).1⟩⟩⟩
  · rcases List.mem_cons.mp hd with rfl | hd
    · exact (Asc.fq (k := 0) (low_asc ok.nm (by decide))).more (by omega) (Nat.le_refl _) (Nat.le_refl _)
    · obtain ⟨t, ht, rfl⟩ := List.mem_map.mp hd
      exact (fq_tm7 (ok.sm t ht).1 (ok.sm t ht).2).1
  · have z := ndAll_le_mul (n := 14) (ds := a.ts.map tmD) fun d hd => by
      obtain ⟨t, ht, rfl⟩ := List.mem_map.mp hd
      exact (fq_tm7 (ok.sm t ht).1 (ok.sm t ht).2).2
    rw [List.length_map] at z
    have y : 14 * a.ts.length ≤ 28 := by omega
    show nd (.tuple (.str a.nm :: a.ts.map tmD)) ≤ 30
    simp only [nd, ndAll]
    omega
theorem fq_sy {s : Sy} (ok : SyOk s) (h3 : s.hs.length ≤ 3) : Fq 10 6 7 (syD s) ∧ nd (syD s) ≤ 122 ∧ IsSy (syD s) := by
  have each : ∀ d ∈ s.hs.map atD, Fq 8 6 7 d ∧ nd d ≤ 30 ∧ IsAm d := fun d hd => by
    obtain ⟨a, ha, rfl⟩ := List.mem_map.mp hd
    exact fq_at7 (ok.hs.ok a ha)
  obtain ⟨g1, g2, g3⟩ := fq_at7 ok.gl
  refine ⟨fq_tup.mpr ⟨by simp, fun d hd => ?_⟩, ?_, ⟨_, _, rfl, ⟨by rw [List.length_map]; omega, fun d hd => (each d hd).2.2, g3, nodup_atD.mpr ok.nd⟩⟩⟩
  · simp only [List.mem_cons, List.not_mem_nil, or_false] at hd
    rcases hd with rfl | rfl
    · exact fq_tup.mpr ⟨by rw [List.length_map]; omega, fun d hd => (each d hd).1⟩
    · exact g1.more (by omega) (Nat.le_refl _) (Nat.le_refl _)
  · have z := ndAll_le_mul (n := 30) (ds := s.hs.map atD) fun d hd => (each d hd).2.1
    rw [List.length_map] at z
    have y : 30 * s.hs.length ≤ 90 := by omega
    show nd (.tuple [.tuple (s.hs.map atD), atD s.gl]) ≤ 122
    simp only [nd, ndAll]
    omega
theorem adj_pw {ks : List Int} (h : ks.Pairwise (· < ·)) : adjB ks = true := by
  unfold adjB
  rw [List.all_eq_true]
  intro j hj
  have hj := List.mem_range.mp hj
  have h1 : j < ks.length := by omega
  have h2 : j + 1 < ks.length := by omega
  rw [List.getD_eq_getElem?_getD, List.getD_eq_getElem?_getD, List.getElem?_eq_getElem h1, List.getElem?_eq_getElem h2]
  exact decide_eq_true (List.pairwise_iff_getElem.mp h j (j + 1) h1 h2 (by omega))
theorem fq_bi {ps : Prs} (ok : PrOk ps) : Fq 9 6 7 (biD ps) ∧ nd (biD ps) ≤ 65 ∧ IsBdD (biD ps) := by
  have few := ok.few
  have each : ∀ d ∈ ps.map prD, Fq 8 6 7 d ∧ nd d ≤ 16 ∧ IsPr d := fun d hd => by
    obtain ⟨p, hp, rfl⟩ := List.mem_map.mp hd
    obtain ⟨t1, t2⟩ := fq_tm7 (ok.sm p hp) (ok.sz p hp)
    have nm := ok.num p hp
    refine ⟨fq_tup.mpr ⟨by simp, fun d hd => ?_⟩, ?_, ⟨p.1, tmD p.2, rfl, nm.1, nm.2, ⟨p.2, rfl, ok.sm p hp⟩⟩⟩
    · simp only [List.mem_cons, List.not_mem_nil, or_false] at hd
      rcases hd with rfl | rfl
      · exact (fq_int (k := 0) (by omega)).more (by omega) (Nat.le_refl _) (Nat.le_refl _)
      · exact t1
    · show nd (.tuple [.int p.1, tmD p.2]) ≤ 16
      simp only [nd, ndAll]
      omega
  refine ⟨fq_tup.mpr ⟨by rw [List.length_map]; omega, fun d hd => (each d hd).1⟩, ?_, ⟨_, rfl, fun d hd => (each d hd).2.2, ?_⟩⟩
  · have z := ndAll_le_mul (n := 16) (ds := ps.map prD) fun d hd => (each d hd).2.1
    rw [List.length_map] at z
    have y : 16 * ps.length ≤ 64 := by omega
    show nd (.tuple (ps.map prD)) ≤ 65
    simp only [nd]
    omega
  · rw [List.map_map]
    have e : keyD ∘ prD = fun p : Int × Tm => p.1 := rfl
    rw [e]
    exact adj_pw ok.up
/-! what is shown -/
mutual
theorem sh_shown {W L : Nat} (hL : L ≤ 900) : ∀ {d : PyData}, shG W L d → d.hasDict = false → d.showable = true ∧ d.intsShort 13 = true ∧ d.weight + 1 ≤ 1000 * nd d
  | .none, _, _ => ⟨rfl, rfl, by decide⟩
  | .bool b, _, _ => ⟨rfl, rfl, by simp [PyData.weight, nd]⟩
  | .int i, h, _ => by
    unfold shG at h
    have a : i.natAbs ≤ 2000 := by omega
    have b : i.natAbs.log2 ≤ 11 := by
      by_cases h0 : i.natAbs = 0
      · rw [h0]; decide
      · exact Nat.le_of_lt_succ ((Nat.log2_lt h0).mpr (by omega))
    refine ⟨?_, ?_, ?_⟩
    · simp only [PyData.showable, decide_eq_true_eq]; omega
    · simp only [PyData.intsShort, decide_eq_true_eq]; exact PyData.shown_int_le (by omega)
    · simp only [PyData.weight, nd]; split <;> omega
  | .str x, h, _ => by
    unfold shG at h
    have : x.cps.size ≤ L := h.1
    refine ⟨rfl, rfl, ?_⟩
    simp only [PyData.weight, nd]
    omega
  | .list ds, h, n => by
    unfold shG at h
    have z := shs_shown hL h.2 (by simpa [PyData.hasDict] using n)
    simp only [PyData.showable, PyData.intsShort, PyData.weight, nd]
    exact ⟨z.1, z.2.1, by omega⟩
  | .tuple ds, h, n => by
    unfold shG at h
    have z := shs_shown hL h.2 (by simpa [PyData.hasDict] using n)
    simp only [PyData.showable, PyData.intsShort, PyData.weight, nd]
    exact ⟨z.1, z.2.1, by omega⟩
  | .dict _, _, n => by simp [PyData.hasDict] at n
theorem shs_shown {W L : Nat} (hL : L ≤ 900) : ∀ {ds : List PyData}, shGs W L ds → PyData.hasDictAll ds = false → PyData.showableAll ds = true ∧ PyData.intsShortAll 13 ds = true ∧ PyData.weightAll ds ≤ 1000 * ndAll ds
  | [], _, _ => ⟨rfl, rfl, by decide⟩
  | d :: ds, h, n => by
    unfold shGs at h
    rw [PyData.hasDictAll, Bool.or_eq_false_iff] at n
    have a := sh_shown hL h.1 n.1
    have b := shs_shown hL h.2 n.2
    simp only [PyData.showableAll, PyData.intsShortAll, PyData.weightAll, ndAll, Bool.and_eq_true]
    exact ⟨⟨a.1, b.1⟩, ⟨a.2.1, b.2.1⟩, by omega⟩
end
mutual
theorem DAt.nodict {H : Hp} {b : Addr} : ∀ {d : PyData} {v : V}, DAt H b v d → d.hasDict = false
  | .none, _, _ => rfl
  | .bool _, _, _ => rfl
  | .int _, _, _ => rfl
  | .str _, _, _ => rfl
  | .list ds, _, h => by
    unfold DAt at h
    obtain ⟨a, xs, _, _, _, h⟩ := h
    exact DAtAll.nodict h
  | .tuple ds, _, h => by
    unfold DAt at h
    obtain ⟨a, xs, _, _, h⟩ := h
    exact DAtAll.nodict h
  | .dict _, _, h => by unfold DAt at h; exact h.elim
theorem DAtAll.nodict {H : Hp} {b : Addr} : ∀ {ds : List PyData} {xs : List V}, DAtAll H b xs ds → PyData.hasDictAll ds = false
  | [], _, _ => rfl
  | d :: ds, _, h => by
    unfold DAtAll at h
    obtain ⟨x, r, _, h1, h2⟩ := h
    rw [PyData.hasDictAll, DAt.nodict h1, DAtAll.nodict h2]
    rfl
end
theorem fq_shown {H : Hp} {b : Addr} {v : V} {k W L : Nat} {d : PyData} (h : Fq k W L d) (D : DAt H b v d) (hk : k ≤ 60) (hL : L ≤ 900) (hn : nd d ≤ 1000) : d.showable = true ∧ d.hasDict = false ∧ d.depth ≤ 64 ∧ d.shown.length ≤ sizeLine := by
  obtain ⟨h2, h3, h5⟩ := sh_shown hL h.sh D.nodict
  have dp := h.dp
  have big : (15728653 : Nat) ≤ sizeLine := by decide
  refine ⟨h2, D.nodict, by omega, Nat.le_trans (shown_le13 ?_ h3) big⟩
  unfold PyData.layable0
  rw [h.lay, decide_eq_true (by omega : d.depth ≤ 64), decide_eq_true (by omega : d.weight ≤ 2 ^ 20)]
  rfl
end Rp

set_option maxHeartbeats 16000000
/-! The law's steps. -/
namespace Rp
open PySem PySem.Spec PyProof.Rows L2 TL RZ StX
structure StF (d : PyData) : Prop where
  fq : Fq 12 6 7 d
  nd : nd d ≤ 200
  st : IsSt d
def spStepsL : Sp := fun vs H Q _ => ∃ (b d p : Addr) (ws : List Str) (kvs : KVs) (j : Nat), vs = [.ref b, .ref p, .ref d] ∧ BoxAt H b j ∧ Wsh H b d p ws kvs ∧ (∀ x ∈ ws, NameOk x) ∧ j + 300 ≤ 1000000 ∧
  ∀ (q : Addr) (xs : List V) (ds : List PyData) (H' : Hp), H' q = some (.lst xs) → q ≠ b → DAtAll H' b xs ds → (∀ d ∈ ds, StF d) → ds.length = 9 → BoxAt H' b (j + 300) → But b H H' → Q (.ref q) H'
theorem asc_fq0 {x : Str} {k W L : Nat} (h : (decide (x.length ≤ L) && (tl x).all (fun c => decide (c < 128))) = true) : Fq k W L (.str x) := Asc.fq (asc_of h)
theorem stf_by : StF (.tuple [.str "by"]) := ⟨fq_tup.mpr ⟨by simp, fun d hd => by
    obtain rfl : d = .str "by" := by simpa using hd
    exact asc_fq0 (by decide +kernel)⟩, by simp [nd, ndAll], rfl⟩
theorem stf_pl {x : Str} {n : Int} (hx : x = "split" ∨ x = "use") (h : 0 ≤ n ∧ n ≤ 1000) : StF (.tuple [.str x, .int n]) := ⟨fq_tup.mpr ⟨by simp, fun d hd => by
    simp only [List.mem_cons, List.not_mem_nil, or_false] at hd
    rcases hd with rfl | rfl
    · rcases hx with rfl | rfl <;> exact asc_fq0 (by decide +kernel)
    · exact fq_int (by omega)⟩, by simp [nd, ndAll], .inr ⟨hx.imp (fun e => by rw [e]) (fun e => by rw [e]), n, rfl, h.1⟩⟩
theorem stf_cut {e : PyData} (h : Fq 8 6 7 e ∧ nd e ≤ 30 ∧ IsAm e) : StF (.tuple [.str "cut", e]) := ⟨fq_tup.mpr ⟨by simp, fun d hd => by
    simp only [List.mem_cons, List.not_mem_nil, or_false] at hd
    rcases hd with rfl | rfl
    · exact asc_fq0 (by decide +kernel)
    · exact h.1.more (by decide) (Nat.le_refl _) (Nat.le_refl _)⟩, by have := h.2.1; simp only [nd, ndAll]; omega, .inl ⟨rfl, h.2.2⟩⟩
theorem stf_three {x : Str} {e f : PyData} (hx : x = "back" ∨ x = "as" ∨ x = "lean") (he : Fq 10 6 7 e) (hf : Fq 9 6 7 f) (ne : nd e ≤ 122) (nf : nd f ≤ 65) (st : IsSt (.tuple [.str x, e, f])) : StF (.tuple [.str x, e, f]) := ⟨fq_tup.mpr ⟨by simp, fun d hd => by
    simp only [List.mem_cons, List.not_mem_nil, or_false] at hd
    rcases hd with rfl | rfl | rfl
    · rcases hx with rfl | rfl | rfl <;> exact asc_fq0 (by decide +kernel)
    · exact he.more (by decide) (Nat.le_refl _) (Nat.le_refl _)
    · exact hf.more (by decide) (Nat.le_refl _) (Nat.le_refl _)⟩, by simp only [nd, ndAll]; omega, st⟩
theorem fq_nil : Fq 9 6 7 (.tuple []) ∧ nd (.tuple []) ≤ 65 ∧ IsBdD (.tuple []) := ⟨fq_tup.mpr ⟨by simp, by simp⟩, by simp [nd, ndAll], ⟨[], rfl, by simp, by decide⟩⟩
theorem stf_back {n : Int} {f : PyData} (h : 0 ≤ n ∧ n ≤ 1000) (hf : Fq 9 6 7 f ∧ nd f ≤ 65 ∧ IsBdD f) : StF (.tuple [.str "back", .int n, f]) :=
  stf_three (.inl rfl) (fq_int (by omega)) hf.1 (by simp [nd]) hf.2.1 (.inl ⟨rfl, ⟨n, rfl, h.1⟩, hf.2.2⟩)
theorem stf_as {e f : PyData} (he : Fq 10 6 7 e ∧ nd e ≤ 122 ∧ IsSy e) (hf : Fq 9 6 7 f ∧ nd f ≤ 65 ∧ IsBdD f) : StF (.tuple [.str "as", e, f]) :=
  stf_three (.inr (.inl rfl)) he.1 hf.1 he.2.1 hf.2.1 (.inr (.inl ⟨rfl, he.2.2, hf.2.2⟩))
theorem stf_lean {x : Str} {f : PyData} (hx : NameOk x) (hf : Fq 9 6 7 f ∧ nd f ≤ 65 ∧ IsBdD f) : StF (.tuple [.str "lean", .str x, f]) :=
  stf_three (.inr (.inr rfl)) (Asc.fq (low_asc hx (by decide))) hf.1 (by simp [nd]) hf.2.1 (.inr (.inr ⟨rfl, ⟨x, rfl, hx⟩, hf.2.2⟩))
section
variable {P : Program} {w : World} {K : PySem.W.Frag} {mg : Str → Option Value} {base : Heap}
abbrev NSt : List Str := ["_law_box_here", "_law_words", "_law_shapes_here", "_law_pool", "_law_saying_here", "_law_binding", "_law_found"]
theorem scStepsL : FnScope NSt ["_law_box_here", "_law_words", "_law_shapes_here"] (defScope sSteps) := ⟨rfl, rfl, rfl, by decide +kernel, rfl, by decide +kernel, by decide +kernel⟩
theorem ok_stepsl {f fT fP fA fS fU : Addr} {fd fdT dP dA dS dU : FuncData} (F : Fun K "_law_steps" "_law_steps" sSteps f fd)
    (GT : FnOk P w K mg base CX0 1 fT fdT ["_law_box_here", "_law_reach"] spTake) (kT : PySem.W.keepIn K (.ref fT) = true) (bT : Binds K fdT ["_law_box_here", "_law_reach"] []) (mT : mg "_law_take" = some (.ref fT))
    (GP : FnOk P w K mg base CX0 2 fP dP ["_law_box_here", "_law_things"] spPick) (kP : PySem.W.keepIn K (.ref fP) = true) (bP : Binds K dP ["_law_box_here", "_law_things"] []) (mP : mg "_law_pick" = some (.ref fP))
    (GA : FnOk P w K mg base CX0 6 fA dA ["_law_box_here", "_law_shapes_here", "_law_names_here", "_law_pool", "_law_deep"] spAtomL) (kA : PySem.W.keepIn K (.ref fA) = true) (bA : Binds K dA ["_law_box_here", "_law_shapes_here", "_law_names_here", "_law_pool", "_law_deep"] []) (mA : mg "_law_atom" = some (.ref fA))
    (GS : FnOk P w K mg base CX0 7 fS dS ["_law_box_here", "_law_shapes_here", "_law_names_here", "_law_pool", "_law_count"] spSayingL) (kS : PySem.W.keepIn K (.ref fS) = true) (bS : Binds K dS ["_law_box_here", "_law_shapes_here", "_law_names_here", "_law_pool", "_law_count"] []) (mS : mg "_law_saying" = some (.ref fS))
    (GU : FnOk P w K mg base CX0 6 fU dU ["_law_box_here", "_law_spots", "_law_pool"] spPuts) (kU : PySem.W.keepIn K (.ref fU) = true) (bU : Binds K dU ["_law_box_here", "_law_spots", "_law_pool"] []) (mU : mg "_law_puts" = some (.ref fU)) :
    FnOk P w K mg base CX0 8 f fd ["_law_box_here", "_law_words", "_law_shapes_here"] spStepsL := by
  refine F.ok scStepsL (fun vs H Q E h => ?_) (fun cdv A outer s H vs Q E hr h => ?_)
  · obtain ⟨b, d, p, ws, kvs, j, rfl, _⟩ := h
    rfl
  obtain ⟨b, d, p, ws, kvs, j, rfl, B, W, wo, hj, q⟩ := h
  have r1 : Room 1 _ := hr.mono (by decide)
  have r2 : Room 2 _ := hr.mono (by decide)
  have r6 : Room 6 _ := hr.mono (by decide)
  refine ⟨_, pss_cons (ps_set (i := 3) scStepsL.nd rfl (Or.inl rfl) (pe_lst (pa_cons pe_int (pa_cons pe_int (pa_cons pe_int pa_nil)))))
    (pss_cons (ps_set (i := 4) scStepsL.nd rfl (Or.inl rfl) (pe_call GS hr rfl mS kS bS .nil pass0 (pa_cons (pv 0) (pa_cons (pv 2) (pa_cons (pv 1) (pa_cons (pv 3) (pa_cons pe_int pa_nil)))))))
    (pss_cons (ps_set (i := 5) scStepsL.nd rfl (Or.inl rfl) (pe_call GU r6 rfl mU kU bU .nil pass0 (pa_cons (pv 0) (pa_cons (pe_lst (pa_cons pe_int (pa_cons pe_int (pa_cons pe_int (pa_cons pe_int pa_nil))))) (pa_cons (pv 3) pa_nil)))))
    (pss_cons (ps_set (i := 6) scStepsL.nd rfl (Or.inl rfl) (pe_lst (pa_cons (pe_tup (pa_cons pe_str pa_nil)) (pa_cons (pe_tup (pa_cons pe_str (pa_cons (pe_call GT r1 rfl mT kT bT .nil pass0 (pa_cons (pv 0) (pa_cons pe_int pa_nil))) pa_nil))) (pa_cons (pe_tup (pa_cons pe_str (pa_cons (pe_call GT r1 rfl mT kT bT .nil pass0 (pa_cons (pv 0) (pa_cons pe_int pa_nil))) pa_nil)))
      (pa_cons (pe_tup (pa_cons pe_str (pa_cons (pe_call GT r1 rfl mT kT bT .nil pass0 (pa_cons (pv 0) (pa_cons pe_int pa_nil))) (pa_cons (pv 5) pa_nil)))) pa_nil))))))
    (pss_cons (ps_set (i := 6) scStepsL.nd rfl (Or.inl rfl) (pe_op op_cat (pv 6) (pe_lst (pa_cons (pe_tup (pa_cons pe_str (pa_cons (pe_call GA r6 rfl mA kA bA .nil pass0 (pa_cons (pv 0) (pa_cons (pv 2) (pa_cons (pv 1) (pa_cons (pv 3) (pa_cons pe_int pa_nil)))))) pa_nil))) (pa_cons (pe_tup (pa_cons pe_str (pa_cons (pv 4) (pa_cons (pv 5) pa_nil)))) pa_nil)))))
    (pss_one (ps_ret (pe_op op_cat (pv 6) (pe_lst (pa_cons (pe_tup (pa_cons pe_str (pa_cons (pe_call GP r2 rfl mP kP bP .nil pass0 (pa_cons (pv 0) (pa_cons (pv 1) pa_nil))) (pa_cons (pe_tup pa_nil) pa_nil)))) (pa_cons (pe_tup (pa_cons pe_str (pa_cons (pe_call GP r2 rfl mP kP bP .nil pass0 (pa_cons (pv 0) (pa_cons (pv 1) pa_nil))) (pa_cons (pv 5) pa_nil))))
      (pa_cons (pe_tup (pa_cons pe_str (pa_cons pe_int (pa_cons (pe_tup pa_nil) pa_nil)))) pa_nil))))))))))), ?_⟩
  have big : (10000 : Nat) ≤ sizeLine := by decide
  have w4 := W.four
  have w1 := W.one
  refine ⟨(by show 3 ≤ sizeLine; decide), fun pp hpp => ?_⟩
  have s1 := same_new hpp (.lst poolV)
  have ppb : pp ≠ b := ne_box B hpp
  have B1 := B.same s1
  have W1 : Wrd (upd H pp (.lst poolV)) b d p pp ws kvs := ⟨s1 _ _ W.hd, W.sh, s1 _ _ W.hp, upd_same, W.pb, ppb, wo, w1, w4⟩
  refine ⟨_, rfl, _, rfl, _, rfl, _, rfl, b, d, p, pp, ws, kvs, _, 3, rfl, B1, W1, by decide, by omega, fun vS sy H2 S2 ok2 h3 B2 o2 => ?_⟩
  have W2 := W1.but B1 o2
  refine ⟨_, rfl, (by show 4 ≤ sizeLine; decide), fun sp hsp => ?_⟩
  have s3 := same_new hsp (.lst spotV)
  refine ⟨_, rfl, b, sp, pp, _, rfl, B2.same s3, upd_same, s3 _ _ W2.hq, ne_box B2 hsp, ppb, by omega, fun vB ps H4 Bi4 ok4 B4 o4 => ?_⟩
  have o24 : But b H2 H4 := (but_of s3).trans o4
  have W4 := W2.but B2 o24
  have DS4 : DAt H4 b vS (syD sy) := (S2.dat).but o24 B2.some.choose_spec
  have DB4 : DAt H4 b vB (biD ps) := Bi4.dat
  have o04 : But b H H4 := (but_of s1).trans (o2.trans o24)
  clear S2 o2 s3 o4 o24
  -- the first four
  refine ⟨(by show 1 ≤ sizeLine; decide), fun c1 hc1 => ?_⟩
  have t1 := same_new hc1 (.tup [V.str "by"])
  have D1 : DAt _ b (.ref c1) (.tuple [.str "by"]) := dat_tup (upd_same (H := H4)) (.cons dat_str .nil)
  refine ⟨_, rfl, b, _, _, rfl, B4.same t1, by omega, by decide, by decide, fun r2 H5 x0 x1 B5 o5 => ⟨(by show 2 ≤ sizeLine; decide), fun c2 hc2 => ?_⟩⟩
  have t2 := same_new hc2 (.tup [V.str "split", V.int r2])
  have D2 : DAt _ b (.ref c2) (.tuple [.str "split", .int r2]) := dat_tup (upd_same (H := H5)) (.cons dat_str (.cons dat_int .nil))
  refine ⟨_, rfl, b, _, _, rfl, B5.same t2, by omega, by decide, by decide, fun r3 H6 y0 y1 B6 o6 => ⟨(by show 2 ≤ sizeLine; decide), fun c3 hc3 => ?_⟩⟩
  have t3 := same_new hc3 (.tup [V.str "use", V.int r3])
  have D3 : DAt _ b (.ref c3) (.tuple [.str "use", .int r3]) := dat_tup (upd_same (H := H6)) (.cons dat_str (.cons dat_int .nil))
  refine ⟨_, rfl, b, _, _, rfl, B6.same t3, by omega, by decide, by decide, fun r4 H7 z0 z1 B7 o7 => ?_⟩
  have o47 : But b H4 H7 := (but_of t1).trans (o5.trans ((but_of t2).trans (o6.trans ((but_of t3).trans o7))))
  have DB7 := DB4.but o47 B4.some.choose_spec
  refine ⟨_, rfl, (by show 3 ≤ sizeLine; decide), fun c4 hc4 => ?_⟩
  have t4 := same_new hc4 (.tup [V.str "back", V.int r4, vB])
  have D4 : DAt (upd H7 c4 (.tup [V.str "back", V.int r4, vB])) b (.ref c4) (.tuple [.str "back", .int r4, biD ps]) := dat_tup upd_same (.cons dat_str (.cons dat_int (.cons (DB7.same t4) .nil)))
  refine ⟨(by show 4 ≤ sizeLine; decide), fun l1 hl1 => ?_⟩
  have t5 := same_new hl1 (.lst [V.ref c1, .ref c2, .ref c3, .ref c4])
  have B8 := (B7.same t4).same t5
  have A8 : DAtAll (upd (upd H7 c4 (.tup [V.str "back", V.int r4, vB])) l1 (.lst [V.ref c1, .ref c2, .ref c3, .ref c4])) b [V.ref c1, .ref c2, .ref c3, .ref c4] [.tuple [.str "by"], .tuple [.str "split", .int r2], .tuple [.str "use", .int r3], .tuple [.str "back", .int r4, biD ps]] := by
    have b5 := (B4.same t1).some.choose_spec
    have b6 := (B5.same t2).some.choose_spec
    have b7 := (B6.same t3).some.choose_spec
    refine .cons ?_ (.cons ?_ (.cons ?_ (.cons (D4.same t5) .nil)))
    · exact ((((D1.but o5 b5).same t2).but o6 b6).same t3 |>.but o7 b7).same (t4.trans t5)
    · exact (((D2.but o6 b6).same t3).but o7 b7).same (t4.trans t5)
    · exact (D3.but o7 b7).same (t4.trans t5)
  have l1b : l1 ≠ b := ne_box (B7.same t4) hl1
  have o8 : But b H4 _ := o47.trans (but_of (t4.trans t5))
  have h8 : (upd (upd H7 c4 (.tup [V.str "back", V.int r4, vB])) l1 (.lst [V.ref c1, .ref c2, .ref c3, .ref c4])) l1 = some (.lst [V.ref c1, .ref c2, .ref c3, .ref c4]) := upd_same
  generalize upd (upd H7 c4 (.tup [V.str "back", V.int r4, vB])) l1 (.lst [V.ref c1, .ref c2, .ref c3, .ref c4]) = H8 at A8 B8 o8 h8 ⊢
  clear D1 D2 D3 D4 t1 t2 t3 t4 t5 o5 o6 o7 o47 DB7 hc1 hc2 hc3 hc4 hl1
  have W8 := W4.but B4 o8
  have DS8 := DS4.but o8 B4.some.choose_spec
  have DB8 := DB4.but o8 B4.some.choose_spec
  have o08 := o04.trans o8
  -- cut and as
  refine ⟨_, rfl, _, rfl, _, rfl, _, rfl, _, rfl, b, d, p, pp, ws, kvs, _, 2, rfl, B8, W8, by decide, by omega, fun vA at_ H9 A9 ok9 B9 o9 => ?_⟩
  have b8 := B8.some.choose_spec
  refine ⟨(by show 2 ≤ sizeLine; decide), fun c5 hc5 => ?_⟩
  have t5 := same_new hc5 (.tup [V.str "cut", vA])
  have D5 : DAt (upd H9 c5 (.tup [V.str "cut", vA])) b (.ref c5) (.tuple [.str "cut", atD at_]) := dat_tup upd_same (.cons dat_str (.cons ((A9.dat).same t5) .nil))
  refine ⟨_, rfl, _, rfl, (by show 3 ≤ sizeLine; decide), fun c6 hc6 => ?_⟩
  have t6 := same_new hc6 (.tup [V.str "as", vS, vB])
  have t56 := t5.trans t6
  have D6 : DAt (upd (upd H9 c5 (.tup [V.str "cut", vA])) c6 (.tup [V.str "as", vS, vB])) b (.ref c6) (.tuple [.str "as", syD sy, biD ps]) := dat_tup upd_same (.cons dat_str (.cons ((DS8.but o9 b8).same t56) (.cons ((DB8.but o9 b8).same t56) .nil)))
  refine ⟨(by show 2 ≤ sizeLine; decide), fun l2 hl2 => ?_⟩
  have t7 := same_new hl2 (.lst [V.ref c5, .ref c6])
  refine ⟨l1, l2, _, _, rfl, rfl, t7 _ _ (t56 _ _ (o9 _ _ h8 l1b)), upd_same, by simp; omega, fun l3 hl3 => ?_⟩
  have t8 := same_new hl3 (.lst ([V.ref c1, .ref c2, .ref c3, .ref c4] ++ [V.ref c5, .ref c6]))
  obtain ⟨H10, e10, t10⟩ := Same.gen (t56.trans (t7.trans t8))
  have l3b : l3 ≠ b := ne_box ((B9.same t56).same t7) hl3
  have h10 : H10 l3 = some (.lst ([V.ref c1, .ref c2, .ref c3, .ref c4] ++ [V.ref c5, .ref c6])) := by rw [← e10]; exact upd_same
  have A10 : DAtAll H10 b ([V.ref c1, .ref c2, .ref c3, .ref c4] ++ [V.ref c5, .ref c6]) ([.tuple [.str "by"], .tuple [.str "split", .int r2], .tuple [.str "use", .int r3], .tuple [.str "back", .int r4, biD ps]] ++ [.tuple [.str "cut", atD at_], .tuple [.str "as", syD sy, biD ps]]) := by
    refine ((A8.but o9 b8).same t10).append (.cons ?_ (.cons ?_ .nil))
    · rw [← e10]; exact D5.same (t6.trans (t7.trans t8))
    · rw [← e10]; exact D6.same (t7.trans t8)
  rw [e10]
  have B10 := B9.same t10
  have W10 := (W8.but B8 o9).same t10
  have DB10 := (DB8.but o9 b8).same t10
  have o010 := o08.trans (o9.trans (but_of t10))
  clear D5 D6 t5 t6 t56 t7 t8 t10 e10 hc5 hc6 hl2 hl3 A8 DS8 DB8 DS4 DB4
  have hwl : (ws.map V.str).length = ws.length := List.length_map ..
  -- the last three
  refine ⟨_, rfl, _, rfl, _, rfl, b, p, _, _, rfl, B10, by omega, W10.hp, W10.pb, by rw [hwl]; omega, by rw [hwl]; omega, fun v7 H11 hv7 B11 o11 => ?_⟩
  obtain ⟨x7, hx7, rfl⟩ := List.mem_map.mp hv7
  refine ⟨(by show 0 ≤ sizeLine; decide), fun e1 he1 => ⟨(by show 3 ≤ sizeLine; decide), fun c7 hc7 => ?_⟩⟩
  have u1 := same_new he1 (.tup ([] : List V))
  have u2 := same_new hc7 (.tup [V.str "lean", V.str x7, V.ref e1])
  have D7 : DAt (upd (upd H11 e1 (.tup ([] : List V))) c7 (.tup [V.str "lean", V.str x7, V.ref e1])) b (.ref c7) (.tuple [.str "lean", .str x7, .tuple []]) := dat_tup upd_same (.cons dat_str (.cons dat_str (.cons (dat_tup (u2 _ _ upd_same) .nil) .nil)))
  have W12 := (W10.but B10 o11).same (u1.trans u2)
  have B12 := B11.same (u1.trans u2)
  refine ⟨_, rfl, _, rfl, b, p, _, _, rfl, B12, by omega, W12.hp, W12.pb, by rw [hwl]; omega, by rw [hwl]; omega, fun v8 H13 hv8 B13 o13 => ?_⟩
  obtain ⟨x8, hx8, rfl⟩ := List.mem_map.mp hv8
  have b10 := B10.some.choose_spec
  have b12 := B12.some.choose_spec
  have DB13 := ((DB10.but o11 b10).same (u1.trans u2)).but o13 b12
  refine ⟨_, rfl, (by show 3 ≤ sizeLine; decide), fun c8 hc8 => ?_⟩
  have u3 := same_new hc8 (.tup [V.str "lean", V.str x8, vB])
  have D8 : DAt (upd H13 c8 (.tup [V.str "lean", V.str x8, vB])) b (.ref c8) (.tuple [.str "lean", .str x8, biD ps]) := dat_tup upd_same (.cons dat_str (.cons dat_str (.cons (DB13.same u3) .nil)))
  refine ⟨(by show 0 ≤ sizeLine; decide), fun e2 he2 => ⟨(by show 3 ≤ sizeLine; decide), fun c9 hc9 => ?_⟩⟩
  have u4 := same_new he2 (.tup ([] : List V))
  have u5 := same_new hc9 (.tup [V.str "back", V.int 0, V.ref e2])
  have D9 : DAt (upd (upd (upd H13 c8 (.tup [V.str "lean", V.str x8, vB])) e2 (.tup ([] : List V))) c9 (.tup [V.str "back", V.int 0, V.ref e2])) b (.ref c9) (.tuple [.str "back", .int 0, .tuple []]) := dat_tup upd_same (.cons dat_str (.cons dat_int (.cons (dat_tup (u5 _ _ upd_same) .nil) .nil)))
  refine ⟨(by show 3 ≤ sizeLine; decide), fun l4 hl4 => ?_⟩
  have u6 := same_new hl4 (.lst [V.ref c7, .ref c8, .ref c9])
  have u36 := u3.trans (u4.trans (u5.trans u6))
  have h14 := u36 _ _ (o13 _ _ (u2 _ _ (u1 _ _ (o11 _ _ h10 l3b))) l3b)
  refine ⟨l3, l4, _, _, rfl, rfl, h14, upd_same, by simp; omega, fun l5 hl5 => ?_⟩
  have u7 := same_new hl5 (.lst ([V.ref c1, .ref c2, .ref c3, .ref c4] ++ [V.ref c5, .ref c6] ++ [V.ref c7, .ref c8, .ref c9]))
  have bi := fq_bi ok4
  refine q l5 _ ([.tuple [.str "by"], .tuple [.str "split", .int r2], .tuple [.str "use", .int r3], .tuple [.str "back", .int r4, biD ps]] ++ [.tuple [.str "cut", atD at_], .tuple [.str "as", syD sy, biD ps]] ++ [.tuple [.str "lean", .str x7, .tuple []], .tuple [.str "lean", .str x8, biD ps], .tuple [.str "back", .int 0, .tuple []]]) _ upd_same
    (ne_box ((B13.same (u3.trans (u4.trans u5))).same u6) hl5) ?_ ?_ rfl ((B13.same (u36.trans u7)).more (by omega)) (o010.trans (o11.trans ((but_of (u1.trans u2)).trans (o13.trans (but_of (u36.trans u7))))))
  · refine ((((A10.but o11 b10).same (u1.trans u2)).but o13 b12).same (u36.trans u7)).append (.cons ?_ (.cons ?_ (.cons ?_ .nil)))
    · exact (D7.but o13 b12).same (u36.trans u7)
    · exact D8.same (u4.trans (u5.trans (u6.trans u7)))
    · exact D9.same (u6.trans u7)
  · intro e he
    simp only [List.mem_append, List.mem_cons, List.not_mem_nil, or_false] at he
    rcases he with ((rfl | rfl | rfl | rfl) | (rfl | rfl)) | (rfl | rfl | rfl)
    · exact stf_by
    · exact stf_pl (.inl rfl) (by omega)
    · exact stf_pl (.inr rfl) (by omega)
    · exact stf_back (by omega) bi
    · exact stf_cut (fq_at7 ok9)
    · exact stf_as (fq_sy ok2 h3) bi
    · exact stf_lean (wo _ hx7) fq_nil
    · exact stf_lean (wo _ hx8) bi
    · exact stf_back (by omega) fq_nil
end
end Rp

set_option maxHeartbeats 16000000
/-! The law. -/
namespace Rp
open PySem PySem.Spec PyProof.Rows L2 TL RZ StX
def spLaw (K : PySem.W.Frag) : Sp := fun vs H Q _ => ∃ (a : Addr) (ns : List Int), vs = [.ref a] ∧ SqL K H a (ns.map V.int) ∧ ns.length ≤ 63 ∧ ∀ H', Q (.bl true) H'
theorem hu66 {A : Around} {k : Nat} (hr : Room k A) : A.units + 66 < cLine := by have := hr.un; omega
theorem bool_iff {a b : Bool} {p : Prop} (h : a = true ↔ p) (h' : b = true ↔ p) : a = b := by
  cases a <;> cases b <;> simp_all
theorem alike_flat {H : Hp} {n : Nat} {x : V} (p : Plain x) : Alike H n x x := by
  cases n with
  | zero => unfold Alike; exact ⟨p, rfl⟩
  | succ n => unfold Alike; exact .inl ⟨p, rfl⟩
theorem alike_bls {H : Hp} {d e : Addr} {x y : Bool} (hd : H d = some (.lst [.bl x, .bl y])) (he : H e = some (.lst [.bl x, .bl y])) : Alike H 1 (.ref d) (.ref e) := by
  unfold Alike
  refine .inr ⟨d, e, _, _, rfl, rfl, .inl ⟨hd, he⟩, rfl, by simp, fun i u v h1 h2 => ?_⟩
  obtain rfl : u = v := Option.some.inj (h1.symm.trans h2)
  match i with
  | 0 => simp at h1; subst h1; exact alike_flat trivial
  | 1 => simp at h1; subst h1; exact alike_flat trivial
  | i + 2 => simp at h1
/-- a list that a thing avoids, written anew -/
theorem DAt.set {H : Hp} {b c : Addr} {zs : List V} {o : HO} {v : V} {d : PyData} (hc : H c = some (.lst zs)) (D : DAt H c v d) (Db : DAt H b v d) : DAt (upd H c o) b v d :=
  DAt.both (b := c) (fun x us h => by
    have xc : x ≠ c := fun e => by subst e; rcases h with h | ⟨o, h⟩ <;> (rw [hc] at h; cases h)
    unfold TupAt
    rw [upd_ne xc]
    exact h) (fun x us xc _ h => by rw [upd_ne xc]; exact h) d D Db
theorem DAtAll.set {H : Hp} {b c : Addr} {zs : List V} {o : HO} {v : List V} {d : List PyData} (hc : H c = some (.lst zs)) (D : DAtAll H c v d) (Db : DAtAll H b v d) : DAtAll (upd H c o) b v d :=
  DAtAll.both (b := c) (fun x us h => by
    have xc : x ≠ c := fun e => by subst e; rcases h with h | ⟨o, h⟩ <;> (rw [hc] at h; cases h)
    unfold TupAt
    rw [upd_ne xc]
    exact h) (fun x us xc _ h => by rw [upd_ne xc]; exact h) d D Db
mutual
def shB : PyData → Bool
  | .str x => decide (x.length ≤ 1000) | .list ds => decide (ds.length ≤ 60) && shBs ds | .tuple ds => decide (ds.length ≤ 60) && shBs ds | _ => true
def shBs : List PyData → Bool
  | [] => true
  | d :: ds => shB d && shBs ds
end
mutual
theorem shB_s : ∀ {d : PyData}, shB d = true → shS d
  | .none, _ => by unfold shS; trivial
  | .bool _, _ => by unfold shS; trivial
  | .int _, _ => by unfold shS; trivial
  | .dict _, _ => by unfold shS; trivial
  | .str x, h => by unfold shB at h; unfold shS; exact of_decide_eq_true h
  | .list ds, h => by unfold shB at h; rw [Bool.and_eq_true] at h; unfold shS; exact ⟨of_decide_eq_true h.1, shBs_s h.2⟩
  | .tuple ds, h => by unfold shB at h; rw [Bool.and_eq_true] at h; unfold shS; exact ⟨of_decide_eq_true h.1, shBs_s h.2⟩
theorem shBs_s : ∀ {ds : List PyData}, shBs ds = true → shAll ds
  | [], _ => by unfold shAll; trivial
  | d :: ds, h => by unfold shBs at h; rw [Bool.and_eq_true] at h; unfold shAll; exact ⟨shB_s h.1, shBs_s h.2⟩
end
/-- may be asked about, by both looks -/
def AskB (d : PyData) : Bool := d.canLay0 && decide (d.depth ≤ 60) && decide (nd d ≤ 1000) && shB d && (match d with | .tuple ds => decide (ds.length ≤ 9) | _ => true)
theorem askB {d : PyData} (h : AskB d = true) : DOk d ∧ ∀ ds, d = .tuple ds → ds.length ≤ 9 := by
  unfold AskB at h
  simp only [Bool.and_eq_true, decide_eq_true_iff] at h
  obtain ⟨⟨⟨⟨h1, h2⟩, h3⟩, h4⟩, h5⟩ := h
  refine ⟨⟨⟨h1, h2⟩, h3, shB_s h4⟩, fun ds e => ?_⟩
  subst e
  exact of_decide_eq_true h5
def odd1 : Lqs := .cons .non (.cons (.i 0) (.cons (.s "by") (.cons (.l (.cons (.s "by") .nil)) (.cons (.t .nil) (.cons (.t (.cons (.s "by") (.cons (.i 0) .nil))) (.cons (.t (.cons (.s "bye") .nil)) (.cons (.t (.cons (.i 0) .nil)) (.cons (.t (.cons (.s "split") .nil)) (.cons (.t (.cons (.s "split") (.cons (.m 1) .nil))) (.cons (.t (.cons (.s "split") (.cons (.bl true) .nil))) .nil))))))))))
def odd1ta : TA := tCons (tC .non) (tCons (tC (.int 0)) (tCons (tC (.str "by")) (tCons (tLst (tCons (tC (.str "by")) tNil)) (tCons (tTup tNil) (tCons (tTup (tCons (tC (.str "by")) (tCons (tC (.int 0)) tNil))) (tCons (tTup (tCons (tC (.str "bye")) tNil)) (tCons (tTup (tCons (tC (.int 0)) tNil)) (tCons (tTup (tCons (tC (.str "split")) tNil)) (tCons (tTup (tCons (tC (.str "split")) (tCons (tUn (rU fun i => .int (-i)) (tC (.int 1))) tNil))) (tCons (tTup (tCons (tC (.str "split")) (tCons (tC (.bl true)) tNil))) tNil))))))))))
theorem odd1_ta : odd1.ta = odd1ta := by unfold odd1ta; simp only [odd1, Lq.te, Lqs.ta]
theorem odd1_ok : odd1.ok := by simp [odd1, Lq.ok, Lqs.ok, Lqs.len]
def odd2 : Lqs := .cons (.t (.cons (.s "lean") (.cons (.s "if") (.cons (.t .nil) .nil)))) (.cons (.t (.cons (.s "back") (.cons (.i 0) .nil))) (.cons (.t (.cons (.s "cut") .nil)) (.cons (.t (.cons (.s "as") (.cons (.t .nil) (.cons (.t .nil) .nil)))) (.cons (.t (.cons (.s "By") .nil)) (.cons (.t (.cons (.s "lean") (.cons (.s "a") (.cons (.l .nil) .nil)))) .nil)))))
def odd2ta : TA := tCons (tTup (tCons (tC (.str "lean")) (tCons (tC (.str "if")) (tCons (tTup tNil) tNil)))) (tCons (tTup (tCons (tC (.str "back")) (tCons (tC (.int 0)) tNil))) (tCons (tTup (tCons (tC (.str "cut")) tNil)) (tCons (tTup (tCons (tC (.str "as")) (tCons (tTup tNil) (tCons (tTup tNil) tNil)))) (tCons (tTup (tCons (tC (.str "By")) tNil)) (tCons (tTup (tCons (tC (.str "lean")) (tCons (tC (.str "a")) (tCons (tLst tNil) tNil)))) tNil)))))
theorem odd2_ta : odd2.ta = odd2ta := by unfold odd2ta; simp only [odd2, Lq.te, Lqs.ta]
theorem odd2_ok : odd2.ok := by simp [odd2, Lq.ok, Lqs.ok, Lqs.len]
theorem Lqs.runE {σ : L2.St} (L : Lqs) (ta : TA) (e : L.ta = ta) {H : Hp} {Q : List V → Hp → Prop} (h : L.ok) (q : ∀ (v : List V) (H' : Hp), v.length = L.len → (∀ b, Apart H H' b → DAtAll H' b v L.ds) → Same H H' → Q v H') : ta σ H Q := e ▸ Lqs.run L h q
theorem Same.none {H H' : Hp} {p : Addr} (s : Same H H') (h : H' p = none) : H p = none := by
  cases e : H p with
  | none => rfl
  | some o => rw [s _ _ e] at h; cases h
def oddRow : List PyData := odd1.ds ++ odd2.ds ++ [.tuple [.str "use", .int (10 ^ 20)], .tuple [.str "use", .str "0"]]
theorem oddRow_ask : ∀ d ∈ oddRow, AskB d = true := List.all_eq_true.mp (by decide +kernel : oddRow.all AskB = true)
/-- a thing that the law asks about: it avoids the box and the list of things -/
structure Thg (H : Hp) (b c : Addr) (v : V) (d : PyData) : Prop where
  D : DAt H b v d
  C : DAt H c v d
  fq : Fq 14 8 25 d
  nd : Rp.nd d ≤ 809
theorem Thg.same {H H' : Hp} {b c : Addr} {v : V} {d : PyData} (T : Thg H b c v d) (s : Same H H') : Thg H' b c v d := ⟨T.D.same s, T.C.same s, T.fq, T.nd⟩
theorem Thg.but {H H' : Hp} {b c : Addr} {v : V} {d : PyData} {j : Nat} (T : Thg H b c v d) (o : But b H H') (B : BoxAt H b j) : Thg H' b c v d := ⟨T.D.but o B.some.choose_spec, DAt.both_but o B.some.choose_spec T.D T.C, T.fq, T.nd⟩
theorem Thg.set {H : Hp} {b c : Addr} {v : V} {d : PyData} {zs : List V} {o : HO} (T : Thg H b c v d) (hc : H c = some (.lst zs)) : Thg (upd H c o) b c v d := ⟨T.C.set hc T.D, T.C.set hc T.C, T.fq, T.nd⟩
def Thgs (H : Hp) (b c : Addr) : List V → List PyData → Prop
  | [], [] => True
  | v :: vs, d :: ds => Thg H b c v d ∧ Thgs H b c vs ds
  | _, _ => False
theorem Thgs.map {H H' : Hp} {b c : Addr} (f : ∀ v d, Thg H b c v d → Thg H' b c v d) : ∀ {vs : List V} {ds : List PyData}, Thgs H b c vs ds → Thgs H' b c vs ds
  | [], [], _ => trivial
  | _ :: _, _ :: _, h => ⟨f _ _ h.1, Thgs.map f h.2⟩
theorem Thgs.len {H : Hp} {b c : Addr} : ∀ {vs : List V} {ds : List PyData}, Thgs H b c vs ds → vs.length = ds.length
  | [], [], _ => rfl
  | _ :: _, _ :: _, h => congrArg (· + 1) (Thgs.len h.2)
theorem Thgs.snoc {H : Hp} {b c : Addr} {v : V} {d : PyData} (T : Thg H b c v d) : ∀ {vs : List V} {ds : List PyData}, Thgs H b c vs ds → Thgs H b c (vs ++ [v]) (ds ++ [d])
  | [], [], _ => ⟨T, trivial⟩
  | _ :: _, _ :: _, h => ⟨h.1, Thgs.snoc T h.2⟩
theorem Thgs.get {H : Hp} {b c : Addr} : ∀ {vs : List V} {ds : List PyData} {i : Nat} {v : V}, Thgs H b c vs ds → vs[i]? = some v → ∃ d, Thg H b c v d
  | _ :: _, d :: _, 0, _, h, e => ⟨d, by simp at e; subst e; exact h.1⟩
  | _ :: _, _ :: _, i + 1, _, h, e => Thgs.get h.2 (by simpa using e)
theorem Thg.ask {H : Hp} {b c : Addr} {v : V} {d : PyData} (T : Thg H b c v d) : DOk d ∧ ∀ ds, d = .tuple ds → ds.length ≤ 9 := by
  have nd := T.nd
  refine ⟨T.fq.dok (by decide) (by decide) (by decide) (by omega), fun ds e => ?_⟩
  subst e
  have := T.fq.sh
  have := (shG_tup.mp this).1
  omega
theorem ne_strD {a b : Str} (h : a = b) : V.bl (!decide (V.str a = V.str b)) = V.bl false := by rw [h, decide_eq_true rfl]; rfl
section
variable {P : Program} {w : World} {K : PySem.W.Frag} {mg : Str → Option Value} {base : Heap}
abbrev NLw : List Str := ["_law_script", "_law_odd", "_law_thing", "_law_k", "_law_box_here", "_law_words", "_law_shapes_here", "_law_rules_here", "_law_step", "_law_things", "_law_turn", "_law_bent", "_law_before", "_law_due"]
theorem scLaw : FnScope NLw ["_law_script"] (defScope sLaw) := ⟨rfl, rfl, rfl, by decide +kernel, rfl, by decide +kernel, by decide +kernel⟩
theorem ok_law {f fB fG fSt fO fT fI fW fS : Addr} {fd dB dG dSt dO dT dI dW dS : FuncData} (F : Fun K "law" "law" sLaw f fd)
    (GB : FnOk P w K mg base CX0 1 fB dB ["_law_script", "_law_k"] (spBox K)) (kB : PySem.W.keepIn K (.ref fB) = true) (bB : Binds K dB ["_law_script", "_law_k"] []) (mB : mg "_law_box" = some (.ref fB))
    (GG : FnOk P w K mg base CX0 5 fG dG ["_law_box_here", "_law_count"] spBegin) (kG : PySem.W.keepIn K (.ref fG) = true) (bG : Binds K dG ["_law_box_here", "_law_count"] []) (mG : mg "_law_begin" = some (.ref fG))
    (GSt : FnOk P w K mg base CX0 8 fSt dSt ["_law_box_here", "_law_words", "_law_shapes_here"] spStepsL) (kSt : PySem.W.keepIn K (.ref fSt) = true) (bSt : Binds K dSt ["_law_box_here", "_law_words", "_law_shapes_here"] []) (mSt : mg "_law_steps" = some (.ref fSt))
    (GO : FnOk P w K mg base CX0 16 fO dO ["_law_box_here", "_law_thing"] (spOth 15)) (kO : PySem.W.keepIn K (.ref fO) = true) (bO : Binds K dO ["_law_box_here", "_law_thing"] []) (mO : mg "_law_otherwise" = some (.ref fO))
    (GT : FnOk P w K mg base CX0 1 fT dT ["_law_box_here", "_law_reach"] spTake) (kT : PySem.W.keepIn K (.ref fT) = true) (bT : Binds K dT ["_law_box_here", "_law_reach"] []) (mT : mg "_law_take" = some (.ref fT))
    (GI : FnOk P w K mg base CX0 6 fI dI ["thing"] spIsSt) (kI : PySem.W.keepIn K (.ref fI) = true) (bI : Binds K dI ["thing"] []) (mI : mg "is_step" = some (.ref fI))
    (GW : FnOk P w K mg base CX0 65 fW dW ["_law_thing"] spStW) (kW : PySem.W.keepIn K (.ref fW) = true) (bW : Binds K dW ["_law_thing"] []) (mW : mg "_law_is_step" = some (.ref fW))
    (GS : FnOk P w K mg base CX0 2 fS dS ["_law_found", "_law_due"] (spSame 2)) (kS : PySem.W.keepIn K (.ref fS) = true) (bS : Binds K dS ["_law_found", "_law_due"] []) (mS : mg "_law_same" = some (.ref fS))
    (mRange : mg "range" = none) (mMax : mg "max" = none) (mMin : mg "min" = none) (mLen : mg "len" = none) (mList : mg "list" = none) (mRepr : mg "repr" = none) : GnOk P w K mg base 66 f fd ["_law_script"] (spLaw K) := by
  refine gok F scLaw (fun vs H Q E h => ?_) (fun cdv A outer s H vs Q E hg hr h => ?_)
  · obtain ⟨a, ns, rfl, _⟩ := h
    rfl
  obtain ⟨a, ns, rfl, hS, hl, q⟩ := h
  have r1 : Room 1 _ := hr.mono (by decide)
  have r2 : Room 2 _ := hr.mono (by decide)
  have r5 : Room 5 _ := hr.mono (by decide)
  have r6 : Room 6 _ := hr.mono (by decide)
  have r8 : Room 8 _ := hr.mono (by decide)
  have r16 : Room 16 _ := hr.mono (by decide)
  have r65 : Room 65 _ := hr.mono (by decide)
  refine ⟨_, (pss_cons (ps_set (i := 1) scLaw.nd rfl (Or.inl rfl) (pe_lst (pa_cons pe_non (pa_cons pe_int (pa_cons pe_str (pa_cons (pe_lst (pa_cons pe_str pa_nil)) (pa_cons (pe_tup pa_nil) (pa_cons (pe_tup (pa_cons pe_str (pa_cons pe_int pa_nil))) (pa_cons (pe_tup (pa_cons pe_str pa_nil)) (pa_cons (pe_tup (pa_cons pe_int pa_nil)) (pa_cons (pe_tup (pa_cons pe_str pa_nil)) (pa_cons (pe_tup (pa_cons pe_str (pa_cons (pe_un un_neg pe_int) pa_nil))) (pa_cons (pe_tup (pa_cons pe_str (pa_cons pe_bl pa_nil))) pa_nil)))))))))))))
    (pss_cons (ps_set (i := 1) scLaw.nd rfl (Or.inl rfl) (pe_op op_cat (pv 1) (pe_lst (pa_cons (pe_tup (pa_cons pe_str (pa_cons pe_str (pa_cons (pe_tup pa_nil) pa_nil)))) (pa_cons (pe_tup (pa_cons pe_str (pa_cons pe_int pa_nil))) (pa_cons (pe_tup (pa_cons pe_str pa_nil)) (pa_cons (pe_tup (pa_cons pe_str (pa_cons (pe_tup pa_nil) (pa_cons (pe_tup pa_nil) pa_nil)))) (pa_cons (pe_tup (pa_cons pe_str pa_nil)) (pa_cons (pe_tup (pa_cons pe_str (pa_cons pe_str (pa_cons (pe_lst pa_nil) pa_nil)))) pa_nil)))))))))
    (pss_cons (ps_for PassesOwn.never rfl (pi_list (pe_op op_cat (pv 1) (pe_lst (pa_cons (pe_tup (pa_cons pe_str (pa_cons (pe_op op_pow pe_int pe_int) pa_nil))) (pa_cons (pe_tup (pa_cons pe_str (pa_cons pe_str pa_nil))) pa_nil))))) (pg_name (i := 2) scLaw.nd rfl (Or.inl rfl)) (pss_one (ps_if (pt_not (pt_val (pe_call GS r2 rfl mS kS bS .nil pass0 (pa_cons (pe_call GI r6 rfl mI kI bI .nil pass0 (pa_cons (pv 2) pa_nil)) (pa_cons (pe_call GW r65 rfl mW kW bW .nil pass0 (pa_cons (pv 2) pa_nil)) pa_nil))))) (pss_one (ps_ret pe_bl)) pss_nil)))
    (pss_cons (ps_for PassesOwn.never rfl (pi_range1 (by rfl) mRange (pa_cons (pe_callB (call_max2 rfl) (by rfl) mMax (by decide +kernel) (pa_cons pe_int (pa_cons (pe_callB (call_min2 rfl) (by rfl) mMin (by decide +kernel) (pa_cons pe_int (pa_cons (pe_callB call_len_seq (by rfl) mLen PySem.boot_len (pa_cons (pv 0) pa_nil)) pa_nil))) pa_nil))) pa_nil)) (pg_name (i := 3) scLaw.nd rfl (Or.inl rfl)) (pss_cons (ps_set (i := 4) scLaw.nd rfl (Or.inl rfl) (pe_call GB r1 rfl mB kB bB .nil pass0 (pa_cons (pv 0) (pa_cons (pv 3) pa_nil))))
    (pss_cons (ps_asg (pe_call GG r5 rfl mG kG bG .nil pass0 (pa_cons (pv 4) (pa_cons pe_int pa_nil))) (pg_tup (by rfl) (pgs_cons (pg_name (i := 5) scLaw.nd rfl (Or.inl rfl)) (pgs_cons (pg_name (i := 6) scLaw.nd rfl (Or.inl rfl)) (pgs_cons (pg_name (i := 7) scLaw.nd rfl (Or.inl rfl)) pgs_nil)))))
    (pss_one (ps_for PassesOwn.never rfl (pi_list (pe_call GSt r8 rfl mSt kSt bSt .nil pass0 (pa_cons (pv 4) (pa_cons (pv 5) (pa_cons (pv 6) pa_nil))))) (pg_name (i := 8) scLaw.nd rfl (Or.inl rfl)) (pss_cons (ps_set (i := 9) scLaw.nd rfl (Or.inl rfl) (pe_lst (pa_cons (pv 8) (pa_cons (pe_callTy call_list_of (by rfl) mList (by decide +kernel) (pa_cons (pv 8) pa_nil)) pa_nil))))
    (pss_cons (ps_for PassesOwn.never rfl (pi_range1 (by rfl) mRange (pa_cons pe_int pa_nil)) (pg_name (i := 10) scLaw.nd rfl (Or.inl rfl)) (pss_cons (ps_set (i := 11) scLaw.nd rfl (Or.inl rfl) (pe_call GO r16 rfl mO kO bO .nil pass0 (pa_cons (pv 4) (pa_cons (pv 8) pa_nil))))
    (pss_one (ps_expr (pe_bm PySem.F.plainAttrs_list PySem.F.slot_list_append PySem.F.type_list_append mt_append (pv 9) (pa_cons (pe_ifExp (pt_cmpR op_eq (pe_call GT r1 rfl mT kT bT .nil pass0 (pa_cons (pv 4) (pa_cons pe_int pa_nil))) pe_int (nomark _)) (pe_call GO r16 rfl mO kO bO .nil pass0 (pa_cons (pv 4) (pa_cons (pv 11) pa_nil))) (pv 11)) pa_nil))))))
    (pss_cons (ps_for PassesOwn.never rfl (pi_list (pv 9)) (pg_name (i := 2) scLaw.nd rfl (Or.inl rfl)) (pss_cons (ps_par (i := 12) (j := 13) rfl scLaw.nd rfl rfl (by decide) rfl rfl (pa_cons (pe_callB (cr_reprD hg (hu66 hr)) (by rfl) mRepr (by decide +kernel) (pa_cons (pv 2) pa_nil)) (pa_cons (pe_call GW r65 rfl mW kW bW .nil pass0 (pa_cons (pv 2) pa_nil)) pa_nil)) (by rfl))
    (pss_one (ps_if (PW.pt (pw_or (pt_not (pt_val (pe_call GS r2 rfl mS kS bS .nil pass0 (pa_cons (pe_lst (pa_cons (pe_call GI r6 rfl mI kI bI .nil pass0 (pa_cons (pv 2) pa_nil)) (pa_cons (pe_call GI r6 rfl mI kI bI .nil pass0 (pa_cons (pv 2) pa_nil)) pa_nil))) (pa_cons (pe_lst (pa_cons (pv 13) (pa_cons (pv 13) pa_nil))) pa_nil))))) (pw_or1 (pt_cmpR op_ne (pe_callB (cr_reprD hg (hu66 hr)) (by rfl) mRepr (by decide +kernel) (pa_cons (pv 2) pa_nil)) (pv 12) (nomark _))))) (pss_one (ps_ret pe_bl)) pss_nil))))
    (pss_one (ps_if (pt_cmpR op_notBl (pe_call GI r6 rfl mI kI bI .nil pass0 (pa_cons (pv 8) pa_nil)) pe_bl (nomark _)) (pss_one (ps_ret pe_bl)) pss_nil))))))))))
    (pss_one (ps_ret pe_bl)))))), ?_⟩
  have big : (10000 : Nat) ≤ sizeLine := by decide
  have lim : ∀ n : Int, 0 ≤ n → 0 ≤ (if (if n < 6 then n else 6) > (1 : Int) then (if n < 6 then n else 6) else 1) ∧ (if (if n < 6 then n else 6) > (1 : Int) then (if n < 6 then n else 6) else 1) ≤ 6 := by
    intro n hn
    split <;> split <;> omega
  have lim2 := lim (((ns.map V.int).length : Nat) : Int) (by omega)
  -- the odd ones
  refine seq_asg (Lqs.runE odd1 odd1ta odd1_ta odd1_ok fun x1 H1 n1 D1 s1 => ⟨by rw [n1]; show 11 ≤ sizeLine; decide, fun l1 h1 => ?_⟩)
  have s2 := same_new h1 (.lst x1)
  refine ⟨_, rfl, Lqs.runE odd2 odd2ta odd2_ta odd2_ok fun x2 H3 n2 D2 s3 => ⟨by rw [n2]; show 6 ≤ sizeLine; decide, fun l2 h2 => ?_⟩⟩
  have s4 := same_new h2 (.lst x2)
  refine ⟨l1, l2, x1, x2, rfl, rfl, s4 _ _ (s3 _ _ upd_same), upd_same, by rw [n1, n2]; show 17 ≤ sizeLine; decide, fun l3 h3 => ?_⟩
  have s5 := same_new h3 (.lst (x1 ++ x2))
  refine ⟨_, rfl, _, _, rfl, rfl, ⟨by decide, by decide, by decide⟩, (by show 2 ≤ sizeLine; decide), fun c1 hc1 => ⟨(by show 2 ≤ sizeLine; decide), fun c2 hc2 => ⟨(by show 2 ≤ sizeLine; decide), fun l4 h4 => ?_⟩⟩⟩
  have s6 := same_new hc1 (.tup [V.str "use", V.int (10 ^ (20 : Int).toNat)])
  have s7 := same_new hc2 (.tup [V.str "use", V.str "0"])
  have s8 := same_new h4 (.lst [V.ref c1, V.ref c2])
  refine ⟨l3, l4, x1 ++ x2, _, rfl, rfl, s8 _ _ (s7 _ _ (s6 _ _ upd_same)), upd_same, by rw [List.length_append, n1, n2]; show 19 ≤ sizeLine; decide, fun l5 h5 => ?_⟩
  have s9 := same_new h5 (.lst (x1 ++ x2 ++ [V.ref c1, V.ref c2]))
  obtain ⟨H9, e9, sA⟩ := Same.gen (s1.trans (s2.trans (s3.trans (s4.trans (s5.trans (s6.trans (s7.trans (s8.trans s9))))))))
  have A9 : DAtAll H9 l5 (x1 ++ x2 ++ [V.ref c1, V.ref c2]) oddRow := by
    have n8 := h5
    have n7 := Same.none s8 n8
    have n4' := Same.none (s5.trans (s6.trans s7)) n7
    have n3' := Same.none s4 n4'
    have n1' := Same.none (s2.trans s3) n3'
    rw [← e9]
    refine (DAtAll.append ?_ ?_).append (.cons ?_ (.cons ?_ .nil))
    · exact (D1 l5 (.inl n1')).same (s2.trans (s3.trans (s4.trans (s5.trans (s6.trans (s7.trans (s8.trans s9)))))))
    · exact (D2 l5 (.inl n3')).same (s4.trans (s5.trans (s6.trans (s7.trans (s8.trans s9)))))
    · exact (dat_tup upd_same (.cons dat_str (.cons dat_int .nil))).same (s7.trans (s8.trans s9))
    · exact (dat_tup upd_same (.cons dat_str (.cons dat_str .nil))).same (s8.trans s9)
  have h9 : H9 l5 = some (.lst (x1 ++ x2 ++ [V.ref c1, V.ref c2])) := by rw [← e9]; exact upd_same
  rw [e9]
  clear D1 D2 s1 s2 s3 s4 s5 s6 s7 s8 s9 e9 h1 h2 h3 h4 h5 hc1 hc2
  generalize x1 ++ x2 ++ [V.ref c1, V.ref c2] = xa at A9 h9 ⊢
  refine ⟨l5, rfl, ⟨_, .inl (.inl h9)⟩, for_list (K := K) (a := l5) (xs := xa) (fun i σ H2 => ∃ xt : Option V, σ = [some (.ref a), some (.ref l3), xt, none, none, none, none, none, none, none, none, none, none, none] ∧ Same H9 H2)
    ⟨_, rfl, Same.refl _⟩ (fun i σ H2 _ ⟨_, _, s⟩ => .inl (.inl (s _ _ h9))) ?_ ?_⟩
  · rintro i x σ H2 hi ⟨xt, rfl, s2⟩
    obtain ⟨d, hd, Dx⟩ := A9.get hi
    obtain ⟨ok, nine⟩ := askB (oddRow_ask d (List.mem_of_getElem? hd))
    have D2 := Dx.same s2
    refine ⟨_, rfl, l5, x, d, rfl, D2, ok, fun r1 H3 e1 s3 => ?_⟩
    refine ⟨_, rfl, l5, x, d, rfl, D2.same s3, ok, nine, fun r2 H4 e2 s4 => ?_⟩
    obtain rfl := bool_iff e1 e2
    refine ⟨_, _, 1, rfl, rfl, alike_flat trivial, fun H5 s5 => ?_⟩
    refine ⟨true, rfl, iteF ?_⟩
    exact ⟨_, rfl, s2.trans (s3.trans (s4.trans s5))⟩
  rintro σ H2 ⟨xt, rfl, s2⟩
  have sB := sA.trans s2
  clear A9 h9 s2 sA
  -- the steps
  refine ⟨_, rfl, a, _, rfl, .inl (sB.seq hS), _, _, rfl, _, _, rfl, _, rfl, by omega, by omega, for_range (lo := 0) (fun i σ H3 => ∃ (y2 y3 y4 y5 y6 y7 y8 y9 y10 y11 y12 y13 : Option V), σ = [some (.ref a), some (.ref l3), y2, y3, y4, y5, y6, y7, y8, y9, y10, y11, y12, y13] ∧ Same H H3)
    ⟨_, _, _, _, _, _, _, _, _, _, _, _, rfl, sB⟩ ?_ (fun σ H3 ⟨_, _, _, _, _, _, _, _, _, _, _, _, e, _⟩ => q H3)⟩
  rintro i σ H3 hi ⟨y2, y3, y4, y5, y6, y7, y8, y9, y10, y11, y12, y13, rfl, s3⟩
  have i6 : (i : Int) < 6 := by omega
  clear lim lim2 sB
  refine ⟨_, rfl, _, rfl, a, ns, _, rfl, s3.seq hS, hl, by omega, by omega, fun b H4 hb B4 s4 => ?_⟩
  have fresh : ∀ {H' : Hp}, But b H4 H' → Same H H' := fun o x u z => o _ _ (s4 _ _ (s3 _ _ z)) (ne_of_none (s3 _ _ z) hb)
  refine ⟨_, rfl, b, _, 1, rfl, by decide, by decide, B4, by decide, fun t d p r ws kvs H5 ht5 W5 wo B5 o5 => ?_⟩
  refine ⟨t, _, rfl, .inl (.inl ht5), rfl, _, _, rfl, _, _, rfl, _, _, rfl, rfl, ?_⟩
  refine ⟨_, rfl, _, rfl, _, rfl, b, d, p, ws, kvs, _, rfl, B5, W5, wo, by decide, fun qs xs ds H6 hq6 qb A6 st6 l6 B6 o6 => ?_⟩
  have xl := A6.len
  refine ⟨qs, rfl, ⟨_, .inl (.inl hq6)⟩, for_list (K := K) (a := qs) (xs := xs) (fun m σ H7 => ∃ (z2 z8 z9 z10 z11 z12 z13 : Option V), σ = [some (.ref a), some (.ref l3), z2, some (.int (0 + (i : Int))), some (.ref b), some (.ref p), some (.ref d), some r, z8, z9, z10, z11, z12, z13] ∧ BoxAt H7 b (600 + 400 * m) ∧ But b H6 H7)
    ⟨_, _, _, _, _, _, _, rfl, B6.more (by omega), But.refl _ _⟩ (fun m σ H7 _ ⟨_, _, _, _, _, _, _, _, _, o⟩ => .inl (.inl (o _ _ hq6 qb))) ?_ ?_⟩
  · rintro m x σ H7 hx ⟨z2, z8, z9, z10, z11, z12, z13, rfl, B7, o7⟩
    have m9 : m < 9 := by
      have := (List.getElem?_eq_some_iff.mp hx).1
      omega
    obtain ⟨e, he, De⟩ := A6.get hx
    have F := st6 e (List.mem_of_getElem? he)
    have D7 := De.but o7 B6.some.choose_spec
    obtain ⟨es, rfl⟩ : ∃ es, e = .tuple es := by
      have := F.st
      cases e with
      | tuple es => exact ⟨es, rfl⟩
      | _ => exact this.elim
    obtain ⟨ax, xx, rfl, hax, Ax⟩ := D7.tup_of
    -- the things
    refine ⟨_, rfl, _, rfl, ax, xx, rfl, .inr (.inl hax), fun cl hcl => ⟨(by show 2 ≤ sizeLine; decide), fun lt hlt => ?_⟩⟩
    have s8 := same_new hcl (.lst xx)
    have s9 := same_new hlt (.lst [V.ref ax, V.ref cl])
    have clb : cl ≠ b := ne_box B7 hcl
    have ltb : lt ≠ b := ne_box (B7.same s8) hlt
    have ltc : cl ≠ lt := ne_of_none (upd_same : (upd H7 cl (.lst xx)) cl = _) hlt
    have lt7 := Same.none s8 hlt
    have B9 := (B7.same s8).same s9
    have D7t : DAt H7 lt (.ref ax) (.tuple es) := DAt.shift (fun _ _ h => h) (fun x us _ h => ⟨ne_of_none h lt7, h⟩) _ D7
    obtain ⟨ax', xx', eax, hax', Axt⟩ := D7t.tup_of
    cases eax
    cases tupAt_one hax hax'
    have T0 : Thg (upd (upd H7 cl (.lst xx)) lt (.lst [V.ref ax, V.ref cl])) b lt (.ref ax) (.tuple es) := ⟨(D7.same s8).same s9, (D7t.same s8).same s9, F.fq.more (by decide) (by decide) (by decide), by have := F.nd; omega⟩
    have T1 : Thg (upd (upd H7 cl (.lst xx)) lt (.lst [V.ref ax, V.ref cl])) b lt (.ref cl) (.list es) := ⟨by unfold DAt; exact ⟨cl, xx, rfl, clb, s9 _ _ upd_same, (Ax.same s8).same s9⟩, by unfold DAt; exact ⟨cl, xx, rfl, ltc, s9 _ _ upd_same, (Axt.same s8).same s9⟩,
      fq_list.mpr (fq_tup.mp (F.fq.more (by decide) (by decide) (by decide))), by have := F.nd; simp only [nd] at this ⊢; omega⟩
    have h9 : (upd (upd H7 cl (.lst xx)) lt (.lst [V.ref ax, V.ref cl])) lt = some (.lst [V.ref ax, V.ref cl]) := upd_same
    have o9 : But b H7 (upd (upd H7 cl (.lst xx)) lt (.lst [V.ref ax, V.ref cl])) := but_of (s8.trans s9)
    generalize upd (upd H7 cl (.lst xx)) lt (.lst [V.ref ax, V.ref cl]) = H9 at B9 T0 T1 h9 o9 ⊢
    refine ⟨4, rfl, by decide, by decide, for_range (lo := 0) (n := 4) (fun n σ H10 => ∃ (w10 w11 : Option V) (ys : List V) (fs : List PyData), σ = [some (.ref a), some (.ref l3), z2, some (.int (0 + (i : Int))), some (.ref b), some (.ref p), some (.ref d), some r, some (.ref ax), some (.ref lt), w10, w11, z12, z13] ∧
        H10 lt = some (.lst ys) ∧ Thgs H10 b lt ys fs ∧ ys.length = n + 2 ∧ Thg H10 b lt (.ref ax) (.tuple es) ∧ BoxAt H10 b (600 + 400 * m + 91 * n) ∧ But b H7 H10)
      ⟨_, _, _, [.tuple es, .list es], rfl, h9, ⟨T0, T1, trivial⟩, rfl, T0, B9, o9⟩ ?_ ?_⟩
    · rintro n σ H10 hn ⟨w10, w11, ys, fs, rfl, h10, Ts, yl, Tx, B10, o10⟩
      have dp := F.fq.dp
      refine ⟨_, rfl, _, rfl, b, .ref ax, .tuple es, _, 12, 6, 7, 200, rfl, B10, by omega, Tx.D, F.fq, F.nd, by decide, by decide, by omega, fun v1 d1 H11 D11 V11 f11 n11 B11 o11 => ?_⟩
      have h11 := o11 _ _ h10 ltb
      have T11 : Thg H11 b lt v1 d1 := ⟨D11, V11 lt _ ltb h10 Tx.C, f11.more (by decide) (by decide) (by decide), by omega⟩
      have Tx11 := Tx.but o11 B10
      have Ts11 : Thgs H11 b lt ys fs := Ts.map fun v d T => T.but o11 B10
      -- what is appended
      refine ⟨_, rfl, .inl ⟨rfl, _, .inl (.inl h11)⟩, _, rfl, b, _, _, rfl, B11, by omega, by decide, by decide, fun r3 H12 c0 c1 B12 o12 => ?_⟩
      have h12 := o12 _ _ h11 ltb
      have T12 := T11.but o12 B11
      have Tx12 := Tx11.but o12 B11
      have Ts12 : Thgs H12 b lt ys fs := Ts11.map fun v d T => T.but o12 B11
      refine ⟨rfl, decide (V.int r3 = V.int 0), rfl, ?_⟩
      by_cases e0 : V.int r3 = V.int 0
      · rw [decide_eq_true e0]
        refine iteT ⟨_, rfl, _, rfl, b, v1, d1, _, 13, 7, 16, 403, rfl, B12, by omega, T12.D, f11, by omega, by decide, by decide, by have := f11.dp; omega, fun v2 d2 H13 D13 V13 f13 n13 B13 o13 => ?_⟩
        have h13 := o13 _ _ h12 ltb
        have T13 : Thg H13 b lt v2 d2 := ⟨D13, V13 lt _ ltb h12 T12.C, f13, by omega⟩
        refine ⟨lt, ys, v2, rfl, rfl, h13, by omega, ?_⟩
        exact ⟨_, _, ys ++ [v2], fs ++ [d2], rfl, upd_same, Thgs.snoc (T13.set h13) ((Ts12.map fun v d T => T.but o13 B12).map fun v d T => T.set h13), by simp [yl], (Tx12.but o13 B12).set h13, (B13.upd ltb _).more (by omega), but_new lt7 (o10.trans (o11.trans (o12.trans o13))) fun z u hz nb => hz⟩
      · rw [decide_eq_false e0]
        refine iteF ⟨_, rfl, lt, ys, v1, rfl, rfl, h12, by omega, ?_⟩
        exact ⟨_, _, ys ++ [v1], fs ++ [d1], rfl, upd_same, Thgs.snoc (T12.set h12) (Ts12.map fun v d T => T.set h12), by simp [yl], Tx12.set h12, (B12.upd ltb _).more (by omega), but_new lt7 (o10.trans (o11.trans o12)) fun z u hz nb => hz⟩
    · rintro σ H10 ⟨w10, w11, ys, fs, rfl, h10, Ts, yl, Tx, B10, o10⟩
      refine ⟨_, rfl, lt, rfl, ⟨_, .inl (.inl h10)⟩, for_list (K := K) (a := lt) (xs := ys) (fun n σ H11 => ∃ (w2 w12 w13 : Option V), σ = [some (.ref a), some (.ref l3), w2, some (.int (0 + (i : Int))), some (.ref b), some (.ref p), some (.ref d), some r, some (.ref ax), some (.ref lt), w10, w11, w12, w13] ∧ Same H10 H11)
        ⟨_, _, _, rfl, Same.refl _⟩ (fun n σ H11 _ ⟨_, _, _, _, s⟩ => .inl (.inl (s _ _ h10))) ?_ ?_⟩
      · rintro n y σ H11 hy ⟨w2, w12, w13, rfl, s11⟩
        obtain ⟨f, T⟩ := Ts.get hy
        have T11 := T.same s11
        obtain ⟨ok, nine⟩ := T.ask
        obtain ⟨sh1, sh2, sh3, sh4⟩ := fq_shown T.fq T.D (by decide) (by decide) (by have := T.nd; omega)
        refine ⟨_, rfl, y, f, rfl, T11.D.dp, sh1, sh2, sh3, sh4, ?_⟩
        refine ⟨_, rfl, b, y, f, rfl, T11.D, ok, nine, fun due H12 e12 s12 => ?_⟩
        refine ⟨_, _, rfl, ?_⟩
        have T12 := T11.same s12
        refine ⟨_, rfl, b, y, f, rfl, T12.D, ok, fun ra H13 e13 s13 => ?_⟩
        obtain rfl := bool_iff e12 e13
        have T13 := T12.same s13
        refine ⟨_, rfl, b, y, f, rfl, T13.D, ok, fun rb H14 e14 s14 => ⟨(by show 2 ≤ sizeLine; decide), fun g1 hg1 => ?_⟩⟩
        obtain rfl := bool_iff e12 e14
        have s15 := same_new hg1 (.lst [V.bl due, V.bl due])
        refine ⟨_, rfl, _, rfl, (by show 2 ≤ sizeLine; decide), fun g2 hg2 => ?_⟩
        have s16 := same_new hg2 (.lst [V.bl due, V.bl due])
        refine ⟨_, _, 1, rfl, rfl, alike_bls (s16 _ _ upd_same) upd_same, fun H17 s17 => ?_⟩
        have T17 := (((T13.same s14).same s15).same s16).same s17
        refine ⟨true, rfl, iteF ?_⟩
        refine ⟨_, rfl, y, f, rfl, T17.D.dp, sh1, sh2, sh3, sh4, _, rfl, rfl, false, ne_strD rfl, iteF ?_⟩
        exact ⟨_, _, _, rfl, s11.trans (s12.trans (s13.trans (s14.trans (s15.trans (s16.trans s17)))))⟩
      · rintro σ H11 ⟨w2, w12, w13, rfl, s11⟩
        have T11 := Tx.same s11
        have ok := T11.ask.1
        refine ⟨_, rfl, b, .ref ax, .tuple es, rfl, T11.D, ok, fun rr H12 e12 s12 => ?_⟩
        obtain rfl : rr = true := e12.mpr F.st
        refine ⟨true, true, rfl, rfl, false, rfl, iteF ?_⟩
        exact ⟨_, _, _, _, _, _, _, rfl, ((B10.same s11).same s12).more (by omega), o7.trans (o10.trans (but_of (s11.trans s12)))⟩
  · rintro σ H7 ⟨z2, z8, z9, z10, z11, z12, z13, rfl, B7, o7⟩
    exact ⟨_, _, _, _, _, _, _, _, _, _, _, _, rfl, fresh (o5.trans (o6.trans o7))⟩
end
end Rp

namespace Rp
open PySem L2
theorem all_mk {l : PySem.W.OpenLaw} {w : World} {K : PySem.W.Frag} {h : Heap} {mg : Str → Option Value} {fa f1 f2 f3 f4 f5 f6 f7 f8 f9 f10 f11 f12 f13 f14 f15 f16 f17 f18 f19 f20 f21 f22 f23 f24 f25 f26 f27 f28 f29 f30 f31 f32 f33 f34 f35 f36 f37 : Addr} (X : K.In h) (G : h.Ns mainGlobals mg) (hfa : mg "law" = some (.ref fa))
    {od1 an1 od2 an2 od3 an3 od4 an4 od5 an5 od6 an6 od7 an7 od8 an8 od9 an9 od10 an10 od11 an11 od12 an12 od13 an13 od14 an14 od15 an15 od16 an16 od17 an17 od18 an18 od19 an19 od20 an20 od21 an21 od22 an22 od23 an23 od24 an24 od25 an25 od26 an26 od27 an27 od28 an28 od29 an29 od30 an30 od31 an31 od32 an32 od33 an33 od34 an34 od35 an35 od36 an36 od37 an37 : Option Addr} {sl1 sl2 sl3 sl4 sl5 sl6 sl7 sl8 sl9 sl10 sl11 sl12 sl13 sl14 sl15 sl16 sl17 sl18 sl19 sl20 sl21 sl22 sl23 sl24 sl25 sl26 sl27 sl28 sl29 sl30 sl31 sl32 sl33 sl34 sl35 sl36 sl37 : Array (Option Value)} {oc1 kV1 dc1 pm1 cd1 ct1 oc2 kV2 dc2 pm2 cd2 ct2 oc3 kV3 dc3 pm3 cd3 ct3 oc4 kV4 dc4 pm4 cd4 ct4 oc5 kV5 dc5 pm5 cd5 ct5 oc6 kV6 dc6 pm6 cd6 ct6 oc7 kV7 dc7 pm7 cd7 ct7 oc8 kV8 dc8 pm8 cd8 ct8 oc9 kV9 dc9 pm9 cd9 ct9 oc10 kV10 dc10 pm10 cd10 ct10 oc11 kV11 dc11 pm11 cd11 ct11 oc12 kV12 dc12 pm12 cd12 ct12 oc13 kV13 dc13 pm13 cd13 ct13 oc14 kV14 dc14 pm14 cd14 ct14 oc15 kV15 dc15 pm15 cd15 ct15 oc16 kV16 dc16 pm16 cd16 ct16 oc17 kV17 dc17 pm17 cd17 ct17 oc18 kV18 dc18 pm18 cd18 ct18 oc19 kV19 dc19 pm19 cd19 ct19 oc20 kV20 dc20 pm20 cd20 ct20 oc21 kV21 dc21 pm21 cd21 ct21 oc22 kV22 dc22 pm22 cd22 ct22 oc23 kV23 dc23 pm23 cd23 ct23 oc24 kV24 dc24 pm24 cd24 ct24 oc25 kV25 dc25 pm25 cd25 ct25 oc26 kV26 dc26 pm26 cd26 ct26 oc27 kV27 dc27 pm27 cd27 ct27 oc28 kV28 dc28 pm28 cd28 ct28 oc29 kV29 dc29 pm29 cd29 ct29 oc30 kV30 dc30 pm30 cd30 ct30 oc31 kV31 dc31 pm31 cd31 ct31 oc32 kV32 dc32 pm32 cd32 ct32 oc33 kV33 dc33 pm33 cd33 ct33 oc34 kV34 dc34 pm34 cd34 ct34 oc35 kV35 dc35 pm35 cd35 ct35 oc36 kV36 dc36 pm36 cd36 ct36 oc37 kV37 dc37 pm37 cd37 ct37 : Value}
    {fS s1 s2 s3 : Addr} {odS od1_ od2_ od3_ : Option Addr} {nS n1_ n2_ n3_ : Nat} {slS sl1_ sl2_ sl3_ : Array (Option Value)} {t1 t2 t3 t4 t5 t6 : Tok} {tc0 : Tok} {tc1 : Tok} {tc2 : Tok} {tc3 : Tok}
    (a1 : PySem.W.nsIn K mainGlobals "is_number" = some (some (.ref f1))) (l1 : K.lookup f1 = some ⟨oc1, od1, .func (PySem.W.fnOf "is_number" "is_number" (defArgs sNumber) (defBody sNumber) (defScope sNumber) .none kV1 dc1 pm1 an1 cd1 ct1), sl1⟩) (c1 : PySem.W.codeIn K cd1 "is_number" = true) (k1 : PySem.W.keepIn K (.ref f1) = true)
    (a2 : PySem.W.nsIn K mainGlobals "is_place" = some (some (.ref f2))) (l2 : K.lookup f2 = some ⟨oc2, od2, .func (PySem.W.fnOf "is_place" "is_place" (defArgs sPlace) (defBody sPlace) (defScope sPlace) .none kV2 dc2 pm2 an2 cd2 ct2), sl2⟩) (c2 : PySem.W.codeIn K cd2 "is_place" = true) (k2 : PySem.W.keepIn K (.ref f2) = true)
    (a3 : PySem.W.nsIn K mainGlobals "is_variable" = some (some (.ref f3))) (l3 : K.lookup f3 = some ⟨oc3, od3, .func (PySem.W.fnOf "is_variable" "is_variable" (defArgs sVariable) (defBody sVariable) (defScope sVariable) .none kV3 dc3 pm3 an3 cd3 ct3), sl3⟩) (c3 : PySem.W.codeIn K cd3 "is_variable" = true) (k3 : PySem.W.keepIn K (.ref f3) = true)
    (a4 : PySem.W.nsIn K mainGlobals "_has_shape" = some (some (.ref f4))) (l4 : K.lookup f4 = some ⟨oc4, od4, .func (PySem.W.fnOf "_has_shape" "_has_shape" (defArgs sShape) (defBody sShape) (defScope sShape) .none kV4 dc4 pm4 an4 cd4 ct4), sl4⟩) (c4 : PySem.W.codeIn K cd4 "_has_shape" = true) (k4 : PySem.W.keepIn K (.ref f4) = true)
    (a5 : PySem.W.nsIn K mainGlobals "is_term" = some (some (.ref f5))) (l5 : K.lookup f5 = some ⟨oc5, od5, .func (PySem.W.fnOf "is_term" "is_term" (defArgs sTerm) (defBody sTerm) (defScope sTerm) .none kV5 dc5 pm5 an5 cd5 ct5), sl5⟩) (c5 : PySem.W.codeIn K cd5 "is_term" = true) (k5 : PySem.W.keepIn K (.ref f5) = true)
    (a6 : PySem.W.nsIn K mainGlobals "_is_pair" = some (some (.ref f6))) (l6 : K.lookup f6 = some ⟨oc6, od6, .func (PySem.W.fnOf "_is_pair" "_is_pair" (defArgs sIsPair) (defBody sIsPair) (defScope sIsPair) .none kV6 dc6 pm6 an6 cd6 ct6), sl6⟩) (c6 : PySem.W.codeIn K cd6 "_is_pair" = true) (k6 : PySem.W.keepIn K (.ref f6) = true)
    (a7 : PySem.W.nsIn K mainGlobals "is_binding" = some (some (.ref f7))) (l7 : K.lookup f7 = some ⟨oc7, od7, .func (PySem.W.fnOf "is_binding" "is_binding" (defArgs sIsBinding) (defBody sIsBinding) (defScope sIsBinding) .none kV7 dc7 pm7 an7 cd7 ct7), sl7⟩) (c7 : PySem.W.codeIn K cd7 "is_binding" = true) (k7 : PySem.W.keepIn K (.ref f7) = true)
    (a8 : PySem.W.nsIn K mainGlobals "is_name" = some (some (.ref f8))) (l8 : K.lookup f8 = some ⟨oc8, od8, .func (PySem.W.fnOf "is_name" "is_name" (defArgs sIsName) (defBody sIsName) (defScope sIsName) .none kV8 dc8 pm8 an8 cd8 ct8), sl8⟩) (c8 : PySem.W.codeIn K cd8 "is_name" = true) (k8 : PySem.W.keepIn K (.ref f8) = true)
    (a9 : PySem.W.nsIn K mainGlobals "is_atom" = some (some (.ref f9))) (l9 : K.lookup f9 = some ⟨oc9, od9, .func (PySem.W.fnOf "is_atom" "is_atom" (defArgs sIsAtom) (defBody sIsAtom) (defScope sIsAtom) .none kV9 dc9 pm9 an9 cd9 ct9), sl9⟩) (c9 : PySem.W.codeIn K cd9 "is_atom" = true) (k9 : PySem.W.keepIn K (.ref f9) = true)
    (a10 : PySem.W.nsIn K mainGlobals "unlike" = some (some (.ref f10))) (l10 : K.lookup f10 = some ⟨oc10, od10, .func (PySem.W.fnOf "unlike" "unlike" (defArgs sUnlike) (defBody sUnlike) (defScope sUnlike) .none kV10 dc10 pm10 an10 cd10 ct10), sl10⟩) (c10 : PySem.W.codeIn K cd10 "unlike" = true) (k10 : PySem.W.keepIn K (.ref f10) = true)
    (a11 : PySem.W.nsIn K mainGlobals "is_saying" = some (some (.ref f11))) (l11 : K.lookup f11 = some ⟨oc11, od11, .func (PySem.W.fnOf "is_saying" "is_saying" (defArgs sIsSaying) (defBody sIsSaying) (defScope sIsSaying) .none kV11 dc11 pm11 an11 cd11 ct11), sl11⟩) (c11 : PySem.W.codeIn K cd11 "is_saying" = true) (k11 : PySem.W.keepIn K (.ref f11) = true)
    (a12 : PySem.W.nsIn K mainGlobals "is_step" = some (some (.ref f12))) (l12 : K.lookup f12 = some ⟨oc12, od12, .func (PySem.W.fnOf "is_step" "is_step" (defArgs sIsStep) (defBody sIsStep) (defScope sIsStep) .none kV12 dc12 pm12 an12 cd12 ct12), sl12⟩) (c12 : PySem.W.codeIn K cd12 "is_step" = true) (k12 : PySem.W.keepIn K (.ref f12) = true)
    (a13 : PySem.W.nsIn K mainGlobals "_law_box" = some (some (.ref f13))) (l13 : K.lookup f13 = some ⟨oc13, od13, .func (PySem.W.fnOf "_law_box" "_law_box" (defArgs sBox) (defBody sBox) (defScope sBox) .none kV13 dc13 pm13 an13 cd13 ct13), sl13⟩) (c13 : PySem.W.codeIn K cd13 "_law_box" = true) (k13 : PySem.W.keepIn K (.ref f13) = true)
    (a14 : PySem.W.nsIn K mainGlobals "_law_take" = some (some (.ref f14))) (l14 : K.lookup f14 = some ⟨oc14, od14, .func (PySem.W.fnOf "_law_take" "_law_take" (defArgs sTake) (defBody sTake) (defScope sTake) .none kV14 dc14 pm14 an14 cd14 ct14), sl14⟩) (c14 : PySem.W.codeIn K cd14 "_law_take" = true) (k14 : PySem.W.keepIn K (.ref f14) = true)
    (a15 : PySem.W.nsIn K mainGlobals "_law_pick" = some (some (.ref f15))) (l15 : K.lookup f15 = some ⟨oc15, od15, .func (PySem.W.fnOf "_law_pick" "_law_pick" (defArgs sPick) (defBody sPick) (defScope sPick) .none kV15 dc15 pm15 an15 cd15 ct15), sl15⟩) (c15 : PySem.W.codeIn K cd15 "_law_pick" = true) (k15 : PySem.W.keepIn K (.ref f15) = true)
    (a16 : PySem.W.nsIn K mainGlobals "_law_same" = some (some (.ref f16))) (l16 : K.lookup f16 = some ⟨oc16, od16, .func (PySem.W.fnOf "_law_same" "_law_same" (defArgs sSame) (defBody sSame) (defScope sSame) .none kV16 dc16 pm16 an16 cd16 ct16), sl16⟩) (c16 : PySem.W.codeIn K cd16 "_law_same" = true) (k16 : PySem.W.keepIn K (.ref f16) = true)
    (a17 : PySem.W.nsIn K mainGlobals "_law_names" = some (some (.ref f17))) (l17 : K.lookup f17 = some ⟨oc17, od17, .func (PySem.W.fnOf "_law_names" "_law_names" (defArgs sNames) (defBody sNames) (defScope sNames) .none kV17 dc17 pm17 an17 cd17 ct17), sl17⟩) (c17 : PySem.W.codeIn K cd17 "_law_names" = true) (k17 : PySem.W.keepIn K (.ref f17) = true)
    (a18 : PySem.W.nsIn K mainGlobals "_law_term" = some (some (.ref f18))) (l18 : K.lookup f18 = some ⟨oc18, od18, .func (PySem.W.fnOf "_law_term" "_law_term" (defArgs sTermL) (defBody sTermL) (defScope sTermL) .none kV18 dc18 pm18 an18 cd18 ct18), sl18⟩) (c18 : PySem.W.codeIn K cd18 "_law_term" = true) (k18 : PySem.W.keepIn K (.ref f18) = true)
    (a19 : PySem.W.nsIn K mainGlobals "_law_unlike" = some (some (.ref f19))) (l19 : K.lookup f19 = some ⟨oc19, od19, .func (PySem.W.fnOf "_law_unlike" "_law_unlike" (defArgs sUnlikeL) (defBody sUnlikeL) (defScope sUnlikeL) .none kV19 dc19 pm19 an19 cd19 ct19), sl19⟩) (c19 : PySem.W.codeIn K cd19 "_law_unlike" = true) (k19 : PySem.W.keepIn K (.ref f19) = true)
    (a20 : PySem.W.nsIn K mainGlobals "_law_shapes" = some (some (.ref f20))) (l20 : K.lookup f20 = some ⟨oc20, od20, .func (PySem.W.fnOf "_law_shapes" "_law_shapes" (defArgs sShapes) (defBody sShapes) (defScope sShapes) .none kV20 dc20 pm20 an20 cd20 ct20), sl20⟩) (c20 : PySem.W.codeIn K cd20 "_law_shapes" = true) (k20 : PySem.W.keepIn K (.ref f20) = true)
    (a21 : PySem.W.nsIn K mainGlobals "_law_base" = some (some (.ref f21))) (l21 : K.lookup f21 = some ⟨oc21, od21, .func (PySem.W.fnOf "_law_base" "_law_base" (defArgs sBaseL) (defBody sBaseL) (defScope sBaseL) .none kV21 dc21 pm21 an21 cd21 ct21), sl21⟩) (c21 : PySem.W.codeIn K cd21 "_law_base" = true) (k21 : PySem.W.keepIn K (.ref f21) = true)
    (a22 : PySem.W.nsIn K mainGlobals "_law_rule" = some (some (.ref f22))) (l22 : K.lookup f22 = some ⟨oc22, od22, .func (PySem.W.fnOf "_law_rule" "_law_rule" (defArgs sRuleL) (defBody sRuleL) (defScope sRuleL) .none kV22 dc22 pm22 an22 cd22 ct22), sl22⟩) (c22 : PySem.W.codeIn K cd22 "_law_rule" = true) (k22 : PySem.W.keepIn K (.ref f22) = true)
    (a23 : PySem.W.nsIn K mainGlobals "_law_rules" = some (some (.ref f23))) (l23 : K.lookup f23 = some ⟨oc23, od23, .func (PySem.W.fnOf "_law_rules" "_law_rules" (defArgs sRulesL) (defBody sRulesL) (defScope sRulesL) .none kV23 dc23 pm23 an23 cd23 ct23), sl23⟩) (c23 : PySem.W.codeIn K cd23 "_law_rules" = true) (k23 : PySem.W.keepIn K (.ref f23) = true)
    (a24 : PySem.W.nsIn K mainGlobals "_law_atom" = some (some (.ref f24))) (l24 : K.lookup f24 = some ⟨oc24, od24, .func (PySem.W.fnOf "_law_atom" "_law_atom" (defArgs sAtomL) (defBody sAtomL) (defScope sAtomL) .none kV24 dc24 pm24 an24 cd24 ct24), sl24⟩) (c24 : PySem.W.codeIn K cd24 "_law_atom" = true) (k24 : PySem.W.keepIn K (.ref f24) = true)
    (a25 : PySem.W.nsIn K mainGlobals "_law_saying" = some (some (.ref f25))) (l25 : K.lookup f25 = some ⟨oc25, od25, .func (PySem.W.fnOf "_law_saying" "_law_saying" (defArgs sSayingL) (defBody sSayingL) (defScope sSayingL) .none kV25 dc25 pm25 an25 cd25 ct25), sl25⟩) (c25 : PySem.W.codeIn K cd25 "_law_saying" = true) (k25 : PySem.W.keepIn K (.ref f25) = true)
    (a26 : PySem.W.nsIn K mainGlobals "_law_begin" = some (some (.ref f26))) (l26 : K.lookup f26 = some ⟨oc26, od26, .func (PySem.W.fnOf "_law_begin" "_law_begin" (defArgs sBegin) (defBody sBegin) (defScope sBegin) .none kV26 dc26 pm26 an26 cd26 ct26), sl26⟩) (c26 : PySem.W.codeIn K cd26 "_law_begin" = true) (k26 : PySem.W.keepIn K (.ref f26) = true)
    (a27 : PySem.W.nsIn K mainGlobals "_law_otherwise" = some (some (.ref f27))) (l27 : K.lookup f27 = some ⟨oc27, od27, .func (PySem.W.fnOf "_law_otherwise" "_law_otherwise" (defArgs sOther) (defBody sOther) (defScope sOther) .none kV27 dc27 pm27 an27 cd27 ct27), sl27⟩) (c27 : PySem.W.codeIn K cd27 "_law_otherwise" = true) (k27 : PySem.W.keepIn K (.ref f27) = true)
    (a28 : PySem.W.nsIn K mainGlobals "_law_is_count" = some (some (.ref f28))) (l28 : K.lookup f28 = some ⟨oc28, od28, .func (PySem.W.fnOf "_law_is_count" "_law_is_count" (defArgs sCountW) (defBody sCountW) (defScope sCountW) .none kV28 dc28 pm28 an28 cd28 ct28), sl28⟩) (c28 : PySem.W.codeIn K cd28 "_law_is_count" = true) (k28 : PySem.W.keepIn K (.ref f28) = true)
    (a29 : PySem.W.nsIn K mainGlobals "_law_is_term" = some (some (.ref f29))) (l29 : K.lookup f29 = some ⟨oc29, od29, .func (PySem.W.fnOf "_law_is_term" "_law_is_term" (defArgs sTermW) (defBody sTermW) (defScope sTermW) .none kV29 dc29 pm29 an29 cd29 ct29), sl29⟩) (c29 : PySem.W.codeIn K cd29 "_law_is_term" = true) (k29 : PySem.W.keepIn K (.ref f29) = true)
    (a30 : PySem.W.nsIn K mainGlobals "_law_is_word" = some (some (.ref f30))) (l30 : K.lookup f30 = some ⟨oc30, od30, .func (PySem.W.fnOf "_law_is_word" "_law_is_word" (defArgs sWordW) (defBody sWordW) (defScope sWordW) .none kV30 dc30 pm30 an30 cd30 ct30), sl30⟩) (c30 : PySem.W.codeIn K cd30 "_law_is_word" = true) (k30 : PySem.W.keepIn K (.ref f30) = true)
    (a31 : PySem.W.nsIn K mainGlobals "_law_is_atom" = some (some (.ref f31))) (l31 : K.lookup f31 = some ⟨oc31, od31, .func (PySem.W.fnOf "_law_is_atom" "_law_is_atom" (defArgs sAtomW) (defBody sAtomW) (defScope sAtomW) .none kV31 dc31 pm31 an31 cd31 ct31), sl31⟩) (c31 : PySem.W.codeIn K cd31 "_law_is_atom" = true) (k31 : PySem.W.keepIn K (.ref f31) = true)
    (a32 : PySem.W.nsIn K mainGlobals "_law_is_saying" = some (some (.ref f32))) (l32 : K.lookup f32 = some ⟨oc32, od32, .func (PySem.W.fnOf "_law_is_saying" "_law_is_saying" (defArgs sSayingW) (defBody sSayingW) (defScope sSayingW) .none kV32 dc32 pm32 an32 cd32 ct32), sl32⟩) (c32 : PySem.W.codeIn K cd32 "_law_is_saying" = true) (k32 : PySem.W.keepIn K (.ref f32) = true)
    (a33 : PySem.W.nsIn K mainGlobals "_law_is_binding" = some (some (.ref f33))) (l33 : K.lookup f33 = some ⟨oc33, od33, .func (PySem.W.fnOf "_law_is_binding" "_law_is_binding" (defArgs sBindingW) (defBody sBindingW) (defScope sBindingW) .none kV33 dc33 pm33 an33 cd33 ct33), sl33⟩) (c33 : PySem.W.codeIn K cd33 "_law_is_binding" = true) (k33 : PySem.W.keepIn K (.ref f33) = true)
    (a34 : PySem.W.nsIn K mainGlobals "_law_is_step" = some (some (.ref f34))) (l34 : K.lookup f34 = some ⟨oc34, od34, .func (PySem.W.fnOf "_law_is_step" "_law_is_step" (defArgs sStepW) (defBody sStepW) (defScope sStepW) .none kV34 dc34 pm34 an34 cd34 ct34), sl34⟩) (c34 : PySem.W.codeIn K cd34 "_law_is_step" = true) (k34 : PySem.W.keepIn K (.ref f34) = true)
    (a35 : PySem.W.nsIn K mainGlobals "_law_puts" = some (some (.ref f35))) (l35 : K.lookup f35 = some ⟨oc35, od35, .func (PySem.W.fnOf "_law_puts" "_law_puts" (defArgs sPuts) (defBody sPuts) (defScope sPuts) .none kV35 dc35 pm35 an35 cd35 ct35), sl35⟩) (c35 : PySem.W.codeIn K cd35 "_law_puts" = true) (k35 : PySem.W.keepIn K (.ref f35) = true)
    (a36 : PySem.W.nsIn K mainGlobals "_law_steps" = some (some (.ref f36))) (l36 : K.lookup f36 = some ⟨oc36, od36, .func (PySem.W.fnOf "_law_steps" "_law_steps" (defArgs sSteps) (defBody sSteps) (defScope sSteps) .none kV36 dc36 pm36 an36 cd36 ct36), sl36⟩) (c36 : PySem.W.codeIn K cd36 "_law_steps" = true) (k36 : PySem.W.keepIn K (.ref f36) = true)
    (a37 : PySem.W.nsIn K mainGlobals "law" = some (some (.ref f37))) (l37 : K.lookup f37 = some ⟨oc37, od37, .func (PySem.W.fnOf "law" "law" (defArgs sLaw) (defBody sLaw) (defScope sLaw) .none kV37 dc37 pm37 an37 cd37 ct37), sl37⟩) (c37 : PySem.W.codeIn K cd37 "law" = true) (k37 : PySem.W.keepIn K (.ref f37) = true)
    (z1 : PySem.W.nsIn K mainGlobals "tuple" = some none)
    (z2 : PySem.W.nsIn K mainGlobals "len" = some none)
    (z3 : PySem.W.nsIn K mainGlobals "abs" = some none)
    (z4 : PySem.W.nsIn K mainGlobals "int" = some none)
    (z5 : PySem.W.nsIn K mainGlobals "range" = some none)
    (z6 : PySem.W.nsIn K mainGlobals "dict" = some none)
    (z7 : PySem.W.nsIn K mainGlobals "sorted" = some none)
    (z8 : PySem.W.nsIn K mainGlobals "set" = some none)
    (z9 : PySem.W.nsIn K mainGlobals "max" = some none)
    (z10 : PySem.W.nsIn K mainGlobals "min" = some none)
    (z11 : PySem.W.nsIn K mainGlobals "list" = some none)
    (z12 : PySem.W.nsIn K mainGlobals "repr" = some none)
    (z13 : PySem.W.nsIn K mainGlobals "isinstance" = some none)
    (z14 : PySem.W.nsIn K mainGlobals "all" = some none)
    (z15 : PySem.W.nsIn K mainGlobals "zip" = some none)
    (z16 : PySem.W.nsIn K mainGlobals "str" = some none)
    (z17 : PySem.W.nsIn K mainGlobals "bool" = some none)
    (xS : PySem.W.nsIn K mainGlobals "SHAPES" = some (some (.ref fS)))
    (xL : K.lookup fS = some ⟨.type "tuple", odS, .seq #[.ref s1, .ref s2, .ref s3] nS, slS⟩)
    (x1 : K.lookup s1 = some ⟨.type "tuple", od1_, .seq #[.str "0" t1, .int 1 t2] n1_, sl1_⟩)
    (x2 : K.lookup s2 = some ⟨.type "tuple", od2_, .seq #[.str "s" t3, .int 2 t4] n2_, sl2_⟩)
    (x3 : K.lookup s3 = some ⟨.type "tuple", od3_, .seq #[.str "f" t5, .int 3 t6] n3_, sl3_⟩)
    (xc0 : PySem.W.nsIn K mainGlobals "LAST_VARIABLE" = some (some (.int 99 tc0)))
    (xc1 : PySem.W.nsIn K mainGlobals "LETTERS" = some (some (.str "abcdefghijklmnopqrstuvwxyz" tc1)))
    (xc2 : PySem.W.nsIn K mainGlobals "MOST_LETTERS" = some (some (.int 6 tc2)))
    (xc3 : PySem.W.nsIn K mainGlobals "MOST_HYPS" = some (some (.int 6 tc3)))
    : ∃ fd : FuncData, (∀ (s : Shared) (v : Value), BindsTo s fd ⟨[v], []⟩ [("_law_script", v)]) ∧ ∀ base : Heap, K.In base → base.Ns mainGlobals mg → GnOk l.prog w K mg base 66 fa fd ["_law_script"] (spLaw K) := by
  have e := hfa.symm.trans (PySem.W.mg_of X G a37)
  cases e
  have F1 := fun_mk (st := sNumber) l1 c1 k1
  have b1 := F1.binds (ps := ["thing"]) fun _ _ _ _ _ _ us hl => match us, hl with | [_], _ => rfl
  have m1 := PySem.W.mg_of X G a1
  have F2 := fun_mk (st := sPlace) l2 c2 k2
  have b2 := F2.binds (ps := ["thing"]) fun _ _ _ _ _ _ us hl => match us, hl with | [_], _ => rfl
  have m2 := PySem.W.mg_of X G a2
  have F3 := fun_mk (st := sVariable) l3 c3 k3
  have b3 := F3.binds (ps := ["thing"]) fun _ _ _ _ _ _ us hl => match us, hl with | [_], _ => rfl
  have m3 := PySem.W.mg_of X G a3
  have F4 := fun_mk (st := sShape) l4 c4 k4
  have b4 := F4.binds (ps := ["thing"]) fun _ _ _ _ _ _ us hl => match us, hl with | [_], _ => rfl
  have m4 := PySem.W.mg_of X G a4
  have F5 := fun_mk (st := sTerm) l5 c5 k5
  have b5 := F5.binds (ps := ["thing"]) fun _ _ _ _ _ _ us hl => match us, hl with | [_], _ => rfl
  have m5 := PySem.W.mg_of X G a5
  have F6 := fun_mk (st := sIsPair) l6 c6 k6
  have b6 := F6.binds (ps := ["thing"]) fun _ _ _ _ _ _ us hl => match us, hl with | [_], _ => rfl
  have m6 := PySem.W.mg_of X G a6
  have F7 := fun_mk (st := sIsBinding) l7 c7 k7
  have b7 := F7.binds (ps := ["thing"]) fun _ _ _ _ _ _ us hl => match us, hl with | [_], _ => rfl
  have m7 := PySem.W.mg_of X G a7
  have F8 := fun_mk (st := sIsName) l8 c8 k8
  have b8 := F8.binds (ps := ["thing"]) fun _ _ _ _ _ _ us hl => match us, hl with | [_], _ => rfl
  have m8 := PySem.W.mg_of X G a8
  have F9 := fun_mk (st := sIsAtom) l9 c9 k9
  have b9 := F9.binds (ps := ["thing"]) fun _ _ _ _ _ _ us hl => match us, hl with | [_], _ => rfl
  have m9 := PySem.W.mg_of X G a9
  have F10 := fun_mk (st := sUnlike) l10 c10 k10
  have b10 := F10.binds (ps := ["atoms"]) fun _ _ _ _ _ _ us hl => match us, hl with | [_], _ => rfl
  have m10 := PySem.W.mg_of X G a10
  have F11 := fun_mk (st := sIsSaying) l11 c11 k11
  have b11 := F11.binds (ps := ["thing"]) fun _ _ _ _ _ _ us hl => match us, hl with | [_], _ => rfl
  have m11 := PySem.W.mg_of X G a11
  have F12 := fun_mk (st := sIsStep) l12 c12 k12
  have b12 := F12.binds (ps := ["thing"]) fun _ _ _ _ _ _ us hl => match us, hl with | [_], _ => rfl
  have m12 := PySem.W.mg_of X G a12
  have F13 := fun_mk (st := sBox) l13 c13 k13
  have b13 := F13.binds (ps := ["_law_script", "_law_k"]) fun _ _ _ _ _ _ us hl => match us, hl with | [_, _], _ => rfl
  have m13 := PySem.W.mg_of X G a13
  have F14 := fun_mk (st := sTake) l14 c14 k14
  have b14 := F14.binds (ps := ["_law_box_here", "_law_reach"]) fun _ _ _ _ _ _ us hl => match us, hl with | [_, _], _ => rfl
  have m14 := PySem.W.mg_of X G a14
  have F15 := fun_mk (st := sPick) l15 c15 k15
  have b15 := F15.binds (ps := ["_law_box_here", "_law_things"]) fun _ _ _ _ _ _ us hl => match us, hl with | [_, _], _ => rfl
  have m15 := PySem.W.mg_of X G a15
  have F16 := fun_mk (st := sSame) l16 c16 k16
  have b16 := F16.binds (ps := ["_law_found", "_law_due"]) fun _ _ _ _ _ _ us hl => match us, hl with | [_, _], _ => rfl
  have m16 := PySem.W.mg_of X G a16
  have F17 := fun_mk (st := sNames) l17 c17 k17
  have b17 := F17.binds (ps := ["_law_box_here", "_law_count"]) fun _ _ _ _ _ _ us hl => match us, hl with | [_, _], _ => rfl
  have m17 := PySem.W.mg_of X G a17
  have F18 := fun_mk (st := sTermL) l18 c18 k18
  have b18 := F18.binds (ps := ["_law_box_here", "_law_pool", "_law_deep"]) fun _ _ _ _ _ _ us hl => match us, hl with | [_, _, _], _ => rfl
  have m18 := PySem.W.mg_of X G a18
  have F19 := fun_mk (st := sUnlikeL) l19 c19 k19
  have b19 := F19.binds (ps := ["_law_atoms"]) fun _ _ _ _ _ _ us hl => match us, hl with | [_], _ => rfl
  have m19 := PySem.W.mg_of X G a19
  have F20 := fun_mk (st := sShapes) l20 c20 k20
  have b20 := F20.binds (ps := ["_law_box_here", "_law_names_here"]) fun _ _ _ _ _ _ us hl => match us, hl with | [_, _], _ => rfl
  have m20 := PySem.W.mg_of X G a20
  have F21 := fun_mk (st := sBaseL) l21 c21 k21
  have b21 := F21.binds (ps := ["_law_shapes_here", "_law_word"]) fun _ _ _ _ _ _ us hl => match us, hl with | [_, _], _ => rfl
  have m21 := PySem.W.mg_of X G a21
  have F22 := fun_mk (st := sRuleL) l22 c22 k22
  have b22 := F22.binds (ps := ["_law_box_here", "_law_shapes_here", "_law_names_here"]) fun _ _ _ _ _ _ us hl => match us, hl with | [_, _, _], _ => rfl
  have m22 := PySem.W.mg_of X G a22
  have F23 := fun_mk (st := sRulesL) l23 c23 k23
  have b23 := F23.binds (ps := ["_law_box_here", "_law_shapes_here", "_law_names_here", "_law_count"]) fun _ _ _ _ _ _ us hl => match us, hl with | [_, _, _, _], _ => rfl
  have m23 := PySem.W.mg_of X G a23
  have F24 := fun_mk (st := sAtomL) l24 c24 k24
  have b24 := F24.binds (ps := ["_law_box_here", "_law_shapes_here", "_law_names_here", "_law_pool", "_law_deep"]) fun _ _ _ _ _ _ us hl => match us, hl with | [_, _, _, _, _], _ => rfl
  have m24 := PySem.W.mg_of X G a24
  have F25 := fun_mk (st := sSayingL) l25 c25 k25
  have b25 := F25.binds (ps := ["_law_box_here", "_law_shapes_here", "_law_names_here", "_law_pool", "_law_count"]) fun _ _ _ _ _ _ us hl => match us, hl with | [_, _, _, _, _], _ => rfl
  have m25 := PySem.W.mg_of X G a25
  have F26 := fun_mk (st := sBegin) l26 c26 k26
  have b26 := F26.binds (ps := ["_law_box_here", "_law_count"]) fun _ _ _ _ _ _ us hl => match us, hl with | [_, _], _ => rfl
  have m26 := PySem.W.mg_of X G a26
  have F27 := fun_mk (st := sOther) l27 c27 k27
  have b27 := F27.binds (ps := ["_law_box_here", "_law_thing"]) fun _ _ _ _ _ _ us hl => match us, hl with | [_, _], _ => rfl
  have m27 := PySem.W.mg_of X G a27
  have F28 := fun_mk (st := sCountW) l28 c28 k28
  have b28 := F28.binds (ps := ["_law_thing", "_law_top"]) fun _ _ _ _ _ _ us hl => match us, hl with | [_, _], _ => rfl
  have m28 := PySem.W.mg_of X G a28
  have F29 := fun_mk (st := sTermW) l29 c29 k29
  have b29 := F29.binds (ps := ["_law_thing"]) fun _ _ _ _ _ _ us hl => match us, hl with | [_], _ => rfl
  have m29 := PySem.W.mg_of X G a29
  have F30 := fun_mk (st := sWordW) l30 c30 k30
  have b30 := F30.binds (ps := ["_law_thing"]) fun _ _ _ _ _ _ us hl => match us, hl with | [_], _ => rfl
  have m30 := PySem.W.mg_of X G a30
  have F31 := fun_mk (st := sAtomW) l31 c31 k31
  have b31 := F31.binds (ps := ["_law_thing"]) fun _ _ _ _ _ _ us hl => match us, hl with | [_], _ => rfl
  have m31 := PySem.W.mg_of X G a31
  have F32 := fun_mk (st := sSayingW) l32 c32 k32
  have b32 := F32.binds (ps := ["_law_thing"]) fun _ _ _ _ _ _ us hl => match us, hl with | [_], _ => rfl
  have m32 := PySem.W.mg_of X G a32
  have F33 := fun_mk (st := sBindingW) l33 c33 k33
  have b33 := F33.binds (ps := ["_law_thing"]) fun _ _ _ _ _ _ us hl => match us, hl with | [_], _ => rfl
  have m33 := PySem.W.mg_of X G a33
  have F34 := fun_mk (st := sStepW) l34 c34 k34
  have b34 := F34.binds (ps := ["_law_thing"]) fun _ _ _ _ _ _ us hl => match us, hl with | [_], _ => rfl
  have m34 := PySem.W.mg_of X G a34
  have F35 := fun_mk (st := sPuts) l35 c35 k35
  have b35 := F35.binds (ps := ["_law_box_here", "_law_spots", "_law_pool"]) fun _ _ _ _ _ _ us hl => match us, hl with | [_, _, _], _ => rfl
  have m35 := PySem.W.mg_of X G a35
  have F36 := fun_mk (st := sSteps) l36 c36 k36
  have b36 := F36.binds (ps := ["_law_box_here", "_law_words", "_law_shapes_here"]) fun _ _ _ _ _ _ us hl => match us, hl with | [_, _, _], _ => rfl
  have m36 := PySem.W.mg_of X G a36
  have F37 := fun_mk (st := sLaw) l37 c37 k37
  have y1 := PySem.W.mg_none_of X G z1
  have y2 := PySem.W.mg_none_of X G z2
  have y3 := PySem.W.mg_none_of X G z3
  have y4 := PySem.W.mg_none_of X G z4
  have y5 := PySem.W.mg_none_of X G z5
  have y6 := PySem.W.mg_none_of X G z6
  have y7 := PySem.W.mg_none_of X G z7
  have y8 := PySem.W.mg_none_of X G z8
  have y9 := PySem.W.mg_none_of X G z9
  have y10 := PySem.W.mg_none_of X G z10
  have y11 := PySem.W.mg_none_of X G z11
  have y12 := PySem.W.mg_none_of X G z12
  have y13 := PySem.W.mg_none_of X G z13
  have y14 := PySem.W.mg_none_of X G z14
  have y15 := PySem.W.mg_none_of X G z15
  have y16 := PySem.W.mg_none_of X G z16
  have y17 := PySem.W.mg_none_of X G z17
  refine ⟨PySem.W.fnOf "law" "law" (defArgs sLaw) (defBody sLaw) (defScope sLaw) .none kV37 dc37 pm37 an37 cd37 ct37, fun s v => .of_eq rfl, fun base _ _ => ?_⟩
  have c0 : ∀ H, SqT K H fS [V.ref s1, .ref s2, .ref s3] := fun H => .inr ⟨_, _, _, xL, rfl, rfl, (by show 3 ≤ sizeLine; decide), .cons rfl (.cons rfl (.cons rfl .nil))⟩
  have c1 : ∀ H, SqT K H s1 [V.str "0", .int 1] := fun H => .inr ⟨_, _, _, x1, rfl, rfl, (by show 2 ≤ sizeLine; decide), .cons ⟨_, rfl⟩ (.cons ⟨_, rfl⟩ .nil)⟩
  have c2 : ∀ H, SqT K H s2 [V.str "s", .int 2] := fun H => .inr ⟨_, _, _, x2, rfl, rfl, (by show 2 ≤ sizeLine; decide), .cons ⟨_, rfl⟩ (.cons ⟨_, rfl⟩ .nil)⟩
  have c3 : ∀ H, SqT K H s3 [V.str "f", .int 3] := fun H => .inr ⟨_, _, _, x3, rfl, rfl, (by show 2 ≤ sizeLine; decide), .cons ⟨_, rfl⟩ (.cons ⟨_, rfl⟩ .nil)⟩
  have hS : ∀ H, Dp K H (.ref fS) shapesD := fun H =>
    .tup (c0 H) (.cons (.tup (c1 H) (.cons (.str _) (.cons (.int _) .nil))) (.cons (.tup (c2 H) (.cons (.str _) (.cons (.int _) .nil))) (.cons (.tup (c3 H) (.cons (.str _) (.cons (.int _) .nil))) .nil)))
  have M : SameG mg := ⟨y13, y11, y1, y2, y14, y15, y16, y4, y17⟩
  have G1_ := ok_number (P := l.prog) (w := w) (mg := mg) (base := base) F1 M
  have G2_ := ok_pl (P := l.prog) (w := w) (mg := mg) (base := base) F2 G1_ k1 b1 m1
  have G3_ := ok_variable (P := l.prog) (w := w) (mg := mg) (base := base) F3 G1_ k1 b1 m1 (PySem.W.mg_of X G xc0)
  have G4_ := ok_shape (P := l.prog) (w := w) (mg := mg) (base := base) F4 M (PySem.W.mg_of X G xS) hS
  have G5_ := ok_term (P := l.prog) (w := w) (mg := mg) (base := base) F5 G4_ k4 b4 m4 G3_ k3 b3 m3
  have G6_ := ok_ispr (P := l.prog) (w := w) (mg := mg) (base := base) F6 G3_ k3 b3 m3 G5_ k5 b5 m5 M
  have G7_ := ok_isbd (P := l.prog) (w := w) (mg := mg) (base := base) F7 G6_ k6 b6 m6 M
  have G8_ := ok_isnm (P := l.prog) (w := w) (mg := mg) (base := base) F8 M (PySem.W.mg_of X G xc1) (PySem.W.mg_of X G xc2)
  have G9_ := ok_isam (P := l.prog) (w := w) (mg := mg) (base := base) F9 G8_ k8 b8 m8 G5_ k5 b5 m5 M
  have G10_ := ok_unl (P := l.prog) (w := w) (mg := mg) (base := base) F10 y1
  have G11_ := ok_issy (P := l.prog) (w := w) (mg := mg) (base := base) F11 G9_ k9 b9 m9 G10_ k10 b10 m10 (PySem.W.mg_of X G xc3) M
  have G12_ := ok_isst (P := l.prog) (w := w) (mg := mg) (base := base) F12 G9_ k9 b9 m9 G2_ k2 b2 m2 G7_ k7 b7 m7 G11_ k11 b11 m11 G8_ k8 b8 m8 M
  have G13_ := ok_box (P := l.prog) (w := w) (mg := mg) (base := base) F13 y2 y3 y4
  have G14_ := ok_take (P := l.prog) (w := w) (mg := mg) (base := base) F14
  have G15_ := ok_pick (P := l.prog) (w := w) (mg := mg) (base := base) F15 F14 b14 m14 y2
  have G16_ := same_ok (P := l.prog) (w := w) (mg := mg) (base := base) F16 b16 m16 M 2
  have G17_ := ok_words (P := l.prog) (w := w) (mg := mg) (base := base) F17 F14 b14 m14 y5 y2
  have G18_ := lterm_ok (P := l.prog) (w := w) (mg := mg) (base := base) F18 b18 m18 G14_ k14 b14 m14 G15_ k15 b15 m15 3
  have G19_ := ok_unlikel (P := l.prog) (w := w) (mg := mg) (base := base) F19 y1
  have G20_ := ok_unlW (P := l.prog) (w := w) (mg := mg) (base := base) F19 y1
  have G21_ := ok_shapes (P := l.prog) (w := w) (mg := mg) (base := base) F20 G14_ k14 b14 m14 y6
  have G22_ := ok_basel (P := l.prog) (w := w) (mg := mg) (base := base) F21
  have G23_ := ok_rulel (P := l.prog) (w := w) (mg := mg) (base := base) F22 G14_ k14 b14 m14 G15_ k15 b15 m15 y5 y1
  have G24_ := ok_rulesl (P := l.prog) (w := w) (mg := mg) (base := base) F23 G14_ k14 b14 m14 G22_ k21 b21 m21 G23_ k22 b22 m22 y5
  have G25_ := ok_atoml (P := l.prog) (w := w) (mg := mg) (base := base) F24 G15_ k15 b15 m15 G18_ k18 b18 m18 y5 y1
  have G26_ := ok_sayingl (P := l.prog) (w := w) (mg := mg) (base := base) F25 G14_ k14 b14 m14 G25_ k24 b24 m24 G19_ k19 b19 m19 y5
  have G27_ := ok_begin (P := l.prog) (w := w) (mg := mg) (base := base) F26 G14_ k14 b14 m14 G17_ k17 b17 m17 G21_ k20 b20 m20 G24_ k23 b23 m23
  have G28_ := oth_ok (P := l.prog) (w := w) (mg := mg) (base := base) F27 b27 m27 G14_ k14 b14 m14 M 15
  have G29_ := ok_ct (P := l.prog) (w := w) (mg := mg) (base := base) F28 M
  have G30_ := tmw_ok (P := l.prog) (w := w) (mg := mg) (base := base) F29 b29 m29 G29_ k28 b28 m28 M 62
  have G31_ := ok_wordw (P := l.prog) (w := w) (mg := mg) (base := base) F30 M
  have G32_ := ok_atomw (P := l.prog) (w := w) (mg := mg) (base := base) F31 G31_ k30 b30 m30 G30_ k29 b29 m29 M
  have G33_ := ok_sayw (P := l.prog) (w := w) (mg := mg) (base := base) F32 G32_ k31 b31 m31 G20_ k19 b19 m19 M
  have G34_ := ok_bdw (P := l.prog) (w := w) (mg := mg) (base := base) F33 G29_ k28 b28 m28 G30_ k29 b29 m29 y7 y8 M
  have G35_ := ok_stw (P := l.prog) (w := w) (mg := mg) (base := base) F34 G32_ k31 b31 m31 G34_ k33 b33 m33 G33_ k32 b32 m32 G31_ k30 b30 m30 M
  have G36_ := ok_puts (P := l.prog) (w := w) (mg := mg) (base := base) F35 G14_ k14 b14 m14 G18_ k18 b18 m18 y1
  have G37_ := ok_stepsl (P := l.prog) (w := w) (mg := mg) (base := base) F36 G14_ k14 b14 m14 G15_ k15 b15 m15 G25_ k24 b24 m24 G26_ k25 b25 m25 G36_ k35 b35 m35
  exact ok_law F37 G13_ k13 b13 m13 G27_ k26 b26 m26 G37_ k36 b36 m36 G28_ k27 b27 m27 G14_ k14 b14 m14 G12_ k12 b12 m12 G35_ k34 b34 m34 G16_ k16 b16 m16 y5 y9 y10 y2 y11 y12
theorem walk {l : PySem.W.OpenLaw} {q : Program} {loose : List Str} {XP : (Str → Option Value) → Heap → Prop} {YP : World → Heap → Prop} {d : DefRec} {K : Params → PySem.W.Frag} (hn : l.most = some 63) (hdf : d.params.defaults = [])
    (hY : ∀ (w : World) (h : Heap), YP w h → (K w.params).In h)
    (F : ∀ (w : World) (mg : Str → Option Value) (fa : Addr) (h : Heap), (K w.params).In h → h.Ns mainGlobals mg → mg d.name = some (.ref fa) →
      ∃ fd : FuncData, (∀ (s : Shared) (u : Value), BindsTo s fd ⟨[u], []⟩ [("_law_script", u)]) ∧ ∀ base : Heap, (K w.params).In base → base.Ns mainGlobals mg → GnOk l.prog w (K w.params) mg base 66 fa fd ["_law_script"] (spLaw (K w.params))) :
    PySem.W.WalkO q loose XP YP l.row.toRowW d [] (fun f vs => PySem.call f vs) :=
  walk_ofG (n := 63) (k := 66) (x := "_law_script") (sp := spLaw) hn (by decide) hdf ⟨rfl, by decide, by decide⟩ hY F (fun _ _ a ns hl _ hS => ⟨a, ns, rfl, hS, hl, fun _ => rfl⟩)
end Rp
open PySem PySem.W PyProof.Rows
set_option maxRecDepth 100000 in
set_option maxHeartbeats 0 in
theorem PySem.Challenge.cw_ringproofs_k27_what_steps_are_holds : PySem.Challenge.rw_ringproofs_k27_what_steps_are.Holds := by
  w_on; o_law; k_head; (case hw => w_witness2)
  k_fill
  refine Rp.walk (l := PySem.Challenge.rw_ringproofs_k27_what_steps_are) rfl rfl (fun w h Y => PySem.W.kIn_of Y) ?F
  case F =>
    intro w mg fa h KX G hmg
    refine' Rp.all_mk KX G hmg ?a1 ?l1 ?c1 ?k1 ?a2 ?l2 ?c2 ?k2 ?a3 ?l3 ?c3 ?k3 ?a4 ?l4 ?c4 ?k4 ?a5 ?l5 ?c5 ?k5 ?a6 ?l6 ?c6 ?k6 ?a7 ?l7 ?c7 ?k7 ?a8 ?l8 ?c8 ?k8 ?a9 ?l9 ?c9 ?k9 ?a10 ?l10 ?c10 ?k10 ?a11 ?l11 ?c11 ?k11 ?a12 ?l12 ?c12 ?k12 ?a13 ?l13 ?c13 ?k13 ?a14 ?l14 ?c14 ?k14 ?a15 ?l15 ?c15 ?k15 ?a16 ?l16 ?c16 ?k16 ?a17 ?l17 ?c17 ?k17 ?a18 ?l18 ?c18 ?k18 ?a19 ?l19 ?c19 ?k19 ?a20 ?l20 ?c20 ?k20 ?a21 ?l21 ?c21 ?k21 ?a22 ?l22 ?c22 ?k22 ?a23 ?l23 ?c23 ?k23 ?a24 ?l24 ?c24 ?k24 ?a25 ?l25 ?c25 ?k25 ?a26 ?l26 ?c26 ?k26 ?a27 ?l27 ?c27 ?k27 ?a28 ?l28 ?c28 ?k28 ?a29 ?l29 ?c29 ?k29 ?a30 ?l30 ?c30 ?k30 ?a31 ?l31 ?c31 ?k31 ?a32 ?l32 ?c32 ?k32 ?a33 ?l33 ?c33 ?k33 ?a34 ?l34 ?c34 ?k34 ?a35 ?l35 ?c35 ?k35 ?a36 ?l36 ?c36 ?k36 ?a37 ?l37 ?c37 ?k37 ?z1 ?z2 ?z3 ?z4 ?z5 ?z6 ?z7 ?z8 ?z9 ?z10 ?z11 ?z12 ?z13 ?z14 ?z15 ?z16 ?z17 ?xS ?xL ?x1 ?x2 ?x3 ?xc0 ?xc1 ?xc2 ?xc3
    (case a1 => k_is); (case l1 => k_is); (case c1 => k_is); (case k1 => k_is)
    (case a2 => k_is); (case l2 => k_is); (case c2 => k_is); (case k2 => k_is)
    (case a3 => k_is); (case l3 => k_is); (case c3 => k_is); (case k3 => k_is)
    (case a4 => k_is); (case l4 => k_is); (case c4 => k_is); (case k4 => k_is)
    (case a5 => k_is); (case l5 => k_is); (case c5 => k_is); (case k5 => k_is)
    (case a6 => k_is); (case l6 => k_is); (case c6 => k_is); (case k6 => k_is)
    (case a7 => k_is); (case l7 => k_is); (case c7 => k_is); (case k7 => k_is)
    (case a8 => k_is); (case l8 => k_is); (case c8 => k_is); (case k8 => k_is)
    (case a9 => k_is); (case l9 => k_is); (case c9 => k_is); (case k9 => k_is)
    (case a10 => k_is); (case l10 => k_is); (case c10 => k_is); (case k10 => k_is)
    (case a11 => k_is); (case l11 => k_is); (case c11 => k_is); (case k11 => k_is)
    (case a12 => k_is); (case l12 => k_is); (case c12 => k_is); (case k12 => k_is)
    (case a13 => k_is); (case l13 => k_is); (case c13 => k_is); (case k13 => k_is)
    (case a14 => k_is); (case l14 => k_is); (case c14 => k_is); (case k14 => k_is)
    (case a15 => k_is); (case l15 => k_is); (case c15 => k_is); (case k15 => k_is)
    (case a16 => k_is); (case l16 => k_is); (case c16 => k_is); (case k16 => k_is)
    (case a17 => k_is); (case l17 => k_is); (case c17 => k_is); (case k17 => k_is)
    (case a18 => k_is); (case l18 => k_is); (case c18 => k_is); (case k18 => k_is)
    (case a19 => k_is); (case l19 => k_is); (case c19 => k_is); (case k19 => k_is)
    (case a20 => k_is); (case l20 => k_is); (case c20 => k_is); (case k20 => k_is)
    (case a21 => k_is); (case l21 => k_is); (case c21 => k_is); (case k21 => k_is)
    (case a22 => k_is); (case l22 => k_is); (case c22 => k_is); (case k22 => k_is)
    (case a23 => k_is); (case l23 => k_is); (case c23 => k_is); (case k23 => k_is)
    (case a24 => k_is); (case l24 => k_is); (case c24 => k_is); (case k24 => k_is)
    (case a25 => k_is); (case l25 => k_is); (case c25 => k_is); (case k25 => k_is)
    (case a26 => k_is); (case l26 => k_is); (case c26 => k_is); (case k26 => k_is)
    (case a27 => k_is); (case l27 => k_is); (case c27 => k_is); (case k27 => k_is)
    (case a28 => k_is); (case l28 => k_is); (case c28 => k_is); (case k28 => k_is)
    (case a29 => k_is); (case l29 => k_is); (case c29 => k_is); (case k29 => k_is)
    (case a30 => k_is); (case l30 => k_is); (case c30 => k_is); (case k30 => k_is)
    (case a31 => k_is); (case l31 => k_is); (case c31 => k_is); (case k31 => k_is)
    (case a32 => k_is); (case l32 => k_is); (case c32 => k_is); (case k32 => k_is)
    (case a33 => k_is); (case l33 => k_is); (case c33 => k_is); (case k33 => k_is)
    (case a34 => k_is); (case l34 => k_is); (case c34 => k_is); (case k34 => k_is)
    (case a35 => k_is); (case l35 => k_is); (case c35 => k_is); (case k35 => k_is)
    (case a36 => k_is); (case l36 => k_is); (case c36 => k_is); (case k36 => k_is)
    (case a37 => k_is); (case l37 => k_is); (case c37 => k_is); (case k37 => k_is)
    (case z1 => k_is); (case z2 => k_is); (case z3 => k_is); (case z4 => k_is)
    (case z5 => k_is); (case z6 => k_is); (case z7 => k_is); (case z8 => k_is)
    (case z9 => k_is); (case z10 => k_is); (case z11 => k_is); (case z12 => k_is)
    (case z13 => k_is); (case z14 => k_is); (case z15 => k_is); (case z16 => k_is)
    (case z17 => k_is); (case xS => k_is); (case xL => k_is); (case x1 => k_is)
    (case x2 => k_is); (case x3 => k_is); (case xc0 => k_is); (case xc1 => k_is)
    (case xc2 => k_is); (case xc3 => k_is)

