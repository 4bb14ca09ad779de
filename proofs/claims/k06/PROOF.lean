import PyProof.Rows.All
import Wide.All
import OpenK.AllK
import Wide.FinOn
import HandS.ForMost
import HandS.IsInst
import HandS.Style
import HandS.Set
import HandS.Strs
import HandS.SetBool
import HandS.SetFor
import PySem.Challenge.RW_ringproofs_k06_terms_and_bindings_as_tex
import HandS.Zip
import HandS.Deep
import HandS.Flow
import PyProof.Rows.RegFStrParts
import HandS.FStr
import HandS.Text
import HandS.CallLocal
import HandS.Codes
import PyProof.StrLaws
import HandS.Rev
import HandS.StrMore
import HandS.ReplaceLit
import HandS.ReplaceDef
import HandS.TupAny
import HandS.More
import HandS.SortInts
set_option Elab.async false
set_option linter.all false
set_option maxRecDepth 100000
set_option maxHeartbeats 4000000
/-! Two rules that the layer lacks: a comprehension that makes a set of ints, and set(xs) of a list of ints whose table is known well enough to be sorted afterwards. -/
namespace Rp
open PySem PySem.Spec PyProof.Rows L2 PpSet

section addi
variable {X : Cx}
/-- an int goes into a tracked set of ints -/
theorem putInt {pins : List (Addr × Obj)} {σ : L2.St} {H : Hp} {s : Shared} {E : Value → Shared → Prop} {D : Addr} {S : Int → Bool} {n : Nat} {y : Int} {t : Tok} {Q : Value → Shared → Prop}
    (I : Inv X pins σ H s) (hD : H D = some (SetO X.w D S n)) (few : n + 1 < scanBound)
    (go : ∀ s', Inv X pins σ (upd H D (SetO X.w D (fun j => S j || decide (j = y)) (if S y = true then n else n + 1))) s' → Q .none s') :
    wpAny (model X.prog X.w) X.A (call (.builtin "set.add") [.ref D, .int y t]) Q E s :=
  setR_add (setO_get I hD) few fun h' same now =>
    have there : ∃ u, h'.get? D = some u := let ⟨o, _, _, _, ho, _⟩ := now; ⟨o, ho⟩
    go _ (I.write (e := D) (t' := s.toks + 1) (by rw [hD]; trivial) (.inl rfl) (fun b u ne hu => (same.2 b ne).trans hu) there (setO_new now))

/-- what {e for x in .. if ..} asks where e is an int -/
def tScI (w : World) (wi : TI) (g : TG) (tt : TT) (te : TE) (vs : List Nat) : TE := fun σ H Q => wi σ H fun J H1 => ∀ D, H1 D = none →
  ∃ W : Nat → Nat → Hp → Prop, (∃ m, W 0 m (upd H1 D (SetO w D (fun _ => false) 0))) ∧ ∀ i m H, W i m H → (J.stop i H ∧ Q (.ref D) H) ∨
    (J.go i H ∧ ∃ Nx : Hp → Prop, (∀ H', Nx H' → ∃ m', m' < m ∧ W (i + 1) m' H') ∧ ∀ x H', J.yld i H x H' → g x (wipe σ vs) H' fun σ2 H2 => wipe σ2 vs = wipe σ vs ∧
      tt σ2 H2 fun b H3 => if b = true then te σ2 H3 fun y H4 => ∃ (k : Int) (S : Int → Bool) (n : Nat), y = .int k ∧ H4 D = some (SetO w D S n) ∧ n + 1 < scanBound ∧
        Nx (upd H4 D (SetO w D (fun j => S j || decide (j = k)) (if S k = true then n else n + 1))) else Nx H3)

abbrev emptySet (w : World) : Obj := { cls := .type "set", dict := none, data := .set #[] 0 (.fresh 0 0 (!w.params.followText "set-order")) }

theorem pe_scI {elt tg iter : Expr} {ifs : List Expr} {scope : Scope} {own : List (PySem.Str × Nat)} {pos : Pos} {wi : TI} {g : TG} {tt : TT} {te : TE}
    (hc : X.calm = true) (hN : X.N.Nodup) (hi : PI X tg iter wi) (ok : BlkOk X.N X.env.scope scope own)
    (hg : ∀ (s : Shared) (H : Hp) (C : Addr) (cl : List (PySem.Str × Addr)) (fp : List Addr), PG (X.blk s H scope (compEnvC scope cl C X.env) fp) tg g)
    (ht : ∀ (s : Shared) (H : Hp) (C : Addr) (cl : List (PySem.Str × Addr)) (fp : List Addr), PTs (X.blk s H scope (compEnvC scope cl C X.env) fp) ifs tt)
    (he : ∀ (s : Shared) (H : Hp) (C : Addr) (cl : List (PySem.Str × Addr)) (fp : List Addr), PE (X.blk s H scope (compEnvC scope cl C X.env) fp) elt te)
    (hs : ∀ x, foldedSetIterable iter X.env x = pure x := by intro _; rfl) :
    PE X (.SetComp elt [⟨tg, iter, ifs, 0⟩] scope pos) (tScI X.w wi g tt te (own.map (·.2))) := by
  refine ⟨fun pins s σ H Q I h => ?_⟩
  rw [eval_SetComp]
  have caught : ∀ y ∈ scope.names, y.2 = .free → ∃ c, X.env.cells.lookup y.1 = some c := fun y hy e =>
    (ok.free y hy e).elim (fun k => I.ok.has _ (.inl k)) fun k => I.ok.has _ (.inr k)
  refine wpAny_comprehension_free (use := none) rfl hs (closure_ok caught) ok.kind (fun y hy e => (ok.uniq y hy).trans (by rw [e])) (thn (hi.run pins s σ H _ I h) fun xv s1 hx => thn hx fun itv s2 h2 => ?_)
  obtain ⟨it, fp, tn, J, H2, rfl, I2, T, st2, f2, q⟩ := h2
  refine newSet_ok (newEnv_comp ?_)
  -- the new set's place
  obtain ⟨D, hD⟩ : ∃ D, s2.heap.objs.size = D := ⟨_, rfl⟩
  rw [hD]
  obtain ⟨W, ⟨m0, w0⟩, turn⟩ := q D (I2.hok.fresh (Nat.le_of_eq hD))
  obtain ⟨s3, hs3⟩ : ∃ s3 : Shared, { s2 with heap := s2.heap.push (emptySet X.w) } = s3 := ⟨_, rfl⟩
  have h3 : s3.heap = s2.heap.push (emptySet X.w) := by rw [← hs3]
  have I3 : Inv X pins σ (upd H2 D (SetO X.w D (fun _ => false) 0)) s3 := by
    have z := I2.laid (a := D) (o := SetO X.w D (fun _ => false) 0) (t' := s2.toks) (h' := s2.heap.push (emptySet X.w)) (fun b o e => Heap.get?_push_of_some _ e) (Nat.le_of_eq hD) (by rw [← hD]; exact setO_new (setR_fresh X.w))
    exact hs3 ▸ z
  have low : ∀ b ∈ fp, b < s2.heap.objs.size := fun b hb => let ⟨o, e, _⟩ := T.obj _ _ st2 b hb; Heap.lt_size e
  have f3 : ∀ b ∈ fp, FpOk X pins (upd H2 D (SetO X.w D (fun _ => false) 0)) b ∧ b < s3.heap.objs.size := fun b hb =>
    ⟨⟨(upd_ne (by rw [← hD]; exact Nat.ne_of_lt (low b hb))).trans (f2 b hb).1, (f2 b hb).2⟩, by rw [h3, Heap.size_push]; exact Nat.lt_succ_of_lt (low b hb)⟩
  have st3 : tn 0 s3.heap := T.keep _ _ _ st2 fun b _ o e => h3 ▸ Heap.get?_push_of_some _ e
  have I4 := block_start I3 ok hN f3
  obtain ⟨H3, hH3⟩ : ∃ H3, upd H2 D (SetO X.w D (fun _ => false) 0) = H3 := ⟨_, rfl⟩
  rw [hH3] at I3 f3 I4 w0
  obtain ⟨C, hC⟩ : ∃ C, s3.heap.objs.size = C := ⟨_, rfl⟩
  rw [hC] at I4
  have pg := hg s3 H3 C (cellsFrom (C + 1) scope.names (cloFrom X.env.cells scope.names [])) fp
  have pt := ht s3 H3 C (cellsFrom (C + 1) scope.names (cloFrom X.env.cells scope.names [])) fp
  have pe := he s3 H3 C (cellsFrom (C + 1) scope.names (cloFrom X.env.cells scope.names [])) fp
  subst hs3
  have hC' : (s2.heap.push (emptySet X.w)).objs.size = C := hC
  show codeAny _ _ (.compStart (.SetComp elt [⟨tg, iter, ifs, 0⟩] scope pos) 0 (.ref it) (.ref D) (compEnvC scope (cellsFrom ((s2.heap.push (emptySet X.w)).objs.size + 1) scope.names (cloFrom X.env.cells scope.names [])) (s2.heap.push (emptySet X.w)).objs.size X.env))
    (compPost (model X.prog X.w) X.A X.xe none (EP X pins σ Q) (.ref D) (s2.heap.push (emptySet X.w)).objs.size) { s2 with heap := pushCells ((s2.heap.push (emptySet X.w)).push { cls := .type "dict", data := .dict #[] }) scope.names }
  rw [hC']
  obtain ⟨ce, hce⟩ : ∃ ce, compEnvC scope (cellsFrom (C + 1) scope.names (cloFrom X.env.cells scope.names [])) C X.env = ce := ⟨_, rfl⟩
  rw [hce] at I4 pg pt pe ⊢
  have cL : ce.locals = C := by subst hce; rfl
  obtain ⟨s4, hs4⟩ : ∃ s4 : Shared, { s2 with heap := pushCells ((s2.heap.push (emptySet X.w)).push { cls := .type "dict", data := .dict #[] }) scope.names } = s4 := ⟨_, rfl⟩
  have I4 : Inv (X.blk _ H3 scope ce fp) [] (wipe σ (own.map (·.2))) H3 s4 := hs4 ▸ I4
  rw [hs4]
  have st4 : tn 0 s4.heap := T.keep _ _ _ st3 fun b _ o e => by rw [← hs4]; exact pushCells_keeps _ _ _ _ (Heap.get?_push_of_some _ e)
  obtain ⟨Y, hY⟩ : ∃ Y, X.blk { s2 with heap := s2.heap.push (emptySet X.w) } H3 scope ce fp = Y := ⟨_, rfl⟩
  have rest : ∀ {σ' : L2.St} {H' : Hp} {s' : Shared}, Inv Y [] σ' H' s' → (∀ b ∈ fp, H' b = none) → ∀ b ∈ fp, FpOk Y [] H' b := by
    subst hY
    intro σ' H' s' I' hn b hb
    exact ⟨hn b hb, (I'.ok.exf b hb).1, I'.ok.exfs b hb, .inl hb, fun x c e => (I'.ok.exf b hb).2 x c e, fun p hp => absurd (show p ∈ ([] : List (Addr × Obj)) ++ [] from hp) (by simp)⟩
  have round : codeAny (model X.prog X.w) X.A (.compLoop (.SetComp elt [⟨tg, iter, ifs, 0⟩] scope pos) 0 (.ref it) (.ref D) ce) (compPost (model X.prog X.w) X.A X.xe none (EP X pins σ Q) (.ref D) C) s4 := by
    refine compLoopS_any (fun n s' => ∃ i H', Inv Y [] (wipe σ (own.map (·.2))) H' s' ∧ tn i s'.heap ∧ (∀ b ∈ fp, H' b = none) ∧ W i n H') ?_ m0 ⟨0, H3, hY ▸ I4, st4, fun b hb => (f3 b hb).1.1, w0⟩
    rintro n s5 ⟨i, H5, I5, st5, n5, w5⟩
    rcases turn i n H5 w5 with ⟨stop, qq⟩ | ⟨go, Nx, hNx, step⟩
    · subst hY
      refine thnF (T.done (X.blk _ H3 scope ce fp) rfl rfl rfl hc i [] s5 _ H5 (fun _ _ => False) I5 (rest I5 n5) st5 stop) fun r s6 ⟨hr, I6⟩ => ?_
      subst hr
      have I7 : Inv X pins σ H5 s6 := I3.call' (ch := fp) I6.os I6.base I6.hok I6.bare fun b hb => ⟨(f3 b hb).1.2.2.2.1, (f3 b hb).1.2.1, (f3 b hb).1.2.2.2.2.1, (f3 b hb).1.2.2.2.2.2⟩
      have nC : H5 C = none := cL ▸ (show H5 ce.locals = none from I6.free)
      obtain ⟨m, hn, _⟩ := I6.loc
      have hn : s6.heap.Ns C m := cL ▸ (show s6.heap.Ns ce.locals m from hn)
      refine ⟨m, hn, fun h'' sb => ?_⟩
      obtain ⟨g0, g1, g2, g3, g4, g5⟩ := I3.fpOk (Nat.le_of_eq hC) nC
      exact ⟨.ref D, H5, I7.turned (t' := s6.toks) (fun b o hb e => (sb.2 b hb).trans e) g0 g1 g3 g4 g5, rfl, qq⟩
    · have ti := T.item Y (by subst hY; rfl) (by subst hY; rfl) (by subst hY; rfl) (by subst hY; exact hc) i [] s5 _ H5 (fun _ _ => False) I5 (rest I5 n5) st5 go
      subst hY
      refine thnF ti fun r s6 ⟨u, hr, h6⟩ => ?_
      subst hr
      refine thnF h6 fun _ s7 ⟨x, H7, I7, r7, y7, st7, n7⟩ => ?_
      refine thnF (pg.run _ s7 _ H7 x u _ (I7.pinned (rest I7 n7) (T.obj _ _ st7)) r7 (step x H7 y7)) fun _ s8 ⟨σ8, H8, I8, hw8, q8⟩ => ?_
      refine thnF (pt.run _ s8 σ8 H8 _ I8 q8) fun b s9 ⟨H9, I9, q9⟩ => ?_
      have turned : ∀ {s' : Shared} {H' : Hp}, Inv (X.blk { s2 with heap := s2.heap.push (emptySet X.w) } H3 scope ce fp) ([] ++ pinsAt fp s7.heap) σ8 H' s' → Nx H' → ∃ m, m < n ∧ ∃ i H', Inv (X.blk { s2 with heap := s2.heap.push (emptySet X.w) } H3 scope ce fp) [] (wipe σ (own.map (·.2))) H' s' ∧ tn i s'.heap ∧ (∀ b ∈ fp, H' b = none) ∧ W i m H' := by
        intro s' H' I' nx
        obtain ⟨m', hm, w'⟩ := hNx H' nx
        have pin : ∀ b ∈ fp, ∀ o, s7.heap.get? b = some o → s'.heap.get? b = some o ∧ H' b = none := fun b hb o e =>
          let z := I'.pin (b, o) (List.mem_append_right _ (List.mem_append_right _ (mem_pinsAt hb e))); ⟨z.1, z.2.1⟩
        refine ⟨m', hm, i + 1, H', (I'.unpinned (pins := [])).weak (by rw [← hw8, wipe_length]) (fun j v e => (wipe_some (by rw [hw8]; exact e)).1), T.keep _ _ _ st7 fun b hb o e => (pin b hb o e).1, fun b hb => ?_, w'⟩
        obtain ⟨o, e, _⟩ := T.obj _ _ st7 b hb
        exact (pin b hb o e).2
      cases b with
      | false => simp only [Bool.false_eq_true, if_false] at q9 ⊢; exact turned I9 q9
      | true =>
        simp only [if_true] at q9 ⊢
        refine thnF (pe.run _ s9 σ8 H9 _ I9 q9) fun z s10 ⟨yv, H10, I10, r10, k, S0, n0, ey, hD10, few, nx⟩ => ?_
        subst ey
        obtain ⟨t, rfl⟩ := r10
        exact putInt (X := X.blk _ H3 scope ce fp) I10 hD10 few fun s11 I11 => turned I11 nx
  exact codeAny_compStart_set round (T.self X.A 0 _ _ _ st4 round)

/-- the walk over a list that the block leaves as it is -/
theorem scI_list {w : World} {K : PySem.W.Frag} {a : Addr} {xs : List V} {g : TG} {tt : TT} {te : TE} {vs : List Nat} {σ : L2.St} {H1 : Hp} {D : Addr} {Qd : Hp → Prop}
    (Pv : Nat → Hp → Prop) (h0 : Pv 0 (upd H1 D (SetO w D (fun _ => false) 0))) (hl : ∀ i H, i ≤ xs.length → Pv i H → SqL K H a xs)
    (hs : ∀ i x H, xs[i]? = some x → Pv i H → g x (wipe σ vs) H fun σ2 H2 => wipe σ2 vs = wipe σ vs ∧ tt σ2 H2 fun b H3 => if b = true then te σ2 H3 fun y H4 =>
      ∃ (k : Int) (S : Int → Bool) (n : Nat), y = .int k ∧ H4 D = some (SetO w D S n) ∧ n + 1 < scanBound ∧ Pv (i + 1) (upd H4 D (SetO w D (fun j => S j || decide (j = k)) (if S k = true then n else n + 1))) else Pv (i + 1) H3)
    (hd : ∀ H, Pv xs.length H → Qd H) :
    ∃ W : Nat → Nat → Hp → Prop, (∃ m, W 0 m (upd H1 D (SetO w D (fun _ => false) 0))) ∧ ∀ i m H, W i m H → ((Itl K a).stop i H ∧ Qd H) ∨
      ((Itl K a).go i H ∧ ∃ Nx : Hp → Prop, (∀ H', Nx H' → ∃ m', m' < m ∧ W (i + 1) m' H') ∧ ∀ x H', (Itl K a).yld i H x H' → g x (wipe σ vs) H' fun σ2 H2 => wipe σ2 vs = wipe σ vs ∧
        tt σ2 H2 fun b H3 => if b = true then te σ2 H3 fun y H4 => ∃ (k : Int) (S : Int → Bool) (n : Nat), y = .int k ∧ H4 D = some (SetO w D S n) ∧ n + 1 < scanBound ∧
          Nx (upd H4 D (SetO w D (fun j => S j || decide (j = k)) (if S k = true then n else n + 1))) else Nx H3) := by
  refine ⟨fun i m H => m + i = xs.length ∧ Pv i H, ⟨xs.length, by simp, h0⟩, ?_⟩
  rintro i m H ⟨em, p⟩
  have here := hl i H (by omega) p
  rcases Nat.lt_or_ge i xs.length with lt | ge
  · refine .inr ⟨⟨xs, xs[i], here, by simp [lt]⟩, Pv (i + 1), fun H' p' => ⟨m - 1, by omega, by omega, p'⟩, fun x H' ⟨e, y⟩ => ?_⟩
    subst e
    exact hs i x _ (y xs here) p
  · have e : i = xs.length := by omega
    subst e
    exact .inl ⟨⟨xs, here, Nat.le_refl _⟩, hd H p⟩
end addi
end Rp

namespace Rp
open PySem PySem.Spec PyProof.Rows L2 PpSet
section
variable {P : Program} {w : World} {A : Around} {E : Value → Shared → Prop} {s : Shared}
set_option maxHeartbeats 6400000 in
theorem set_of_list {l : Addr} {items : Array Value} (ns : List Int) {Q : Value → Shared → Prop} (calm : A.handled = none) (hl : s.heap.IsList l items) (hi : IntsAre items.toList ns) (few : ns.length + 1 < scanBound)
    (go : ∀ (h' : Heap) (tk c : Nat), SetR w h' s.heap.objs.size (fun j => decide (j ∈ ns)) c → c ≤ ns.length → (∀ b o, s.heap.get? b = some o → h'.get? b = some o) → Q (.ref s.heap.objs.size) { s with heap := h', toks := tk }) :
    wpAny (model P w) A (call (.type "set") [.ref l]) Q E s := by
  have cnt : items.size = ns.length := by have q := IntsAre.length hi; rwa [Array.length_toList] at q
  obtain ⟨c, tl, hmro⟩ := F.called_set.mro
  have hmade := F.called_set.made
  have hsub := F.called_set.sub
  refine wpAny_call (codeAny_of_tree ?_)
  show wpAny _ _ (callAny (.type "set") _) _ _ _
  refine wpAny_pure ⟨Code.quiet_builtin _ (by decide +kernel), codeAny_builtin F.entry_type_call ?_⟩
  rw [Around.under_plain (weight_type_call_type "set" [.ref l] []) rfl]
  have h1 := F.called_set.notType
  have h2 := F.called_set.canCreate
  have hct := F.typeCall_set_1 (.ref l)
  repeat (any_goals (first | assumption | wp_step))
  refine codeAny_mono (code_set_led1 (.ref l) (E := E) (Q₁ := fun obj z => obj = .ref s.heap.objs.size ∧ z = { s with heap := s.heap.push (emptySet w) }) ⟨rfl, rfl⟩) fun r s₁ hr => ?_
  cases r with
  | error e => exact hr
  | ok fl =>
    cases fl with
    | ret obj =>
      obtain ⟨rfl, rfl⟩ := hr
      have atNew : (s.heap.push (emptySet w)).get? s.heap.objs.size = some (emptySet w) := Heap.get?_push_size _ rfl
      have hT : Shared.TypeIs { s with heap := s.heap.push (emptySet w) } (.ref s.heap.objs.size) "set" := ⟨_, atNew, rfl⟩
      have hli := F.called_set.init.lookup
      have hbi := F.called_set.init.bind (.ref s.heap.objs.size)
      repeat (any_goals (first | assumption | wp_step))
      refine codeAny_mono (codeAny_call_builtin (R := wants (fun r z => r = .none ∧ ∃ h' tk c, z = { s with heap := h', toks := tk } ∧ SetR w h' s.heap.objs.size (fun j => decide (j ∈ ns)) c ∧ c ≤ ns.length ∧
        (∀ b o, s.heap.get? b = some o → h'.get? b = some o)) E) F.called_set.init.plain F.entry_set_init (check_set_init_1 hT ?_)) fun r₂ s₂ hr₂ => ?_
      · obtain ⟨⟨ocls, odict, odata, oslots⟩, hol, hcl, nl, hdl⟩ := hl
        simp only at hcl hdl
        subst hcl hdl
        have hol' : (s.heap.push (emptySet w)).get? l = some { cls := .type "list", dict := odict, data := .seq items nl, slots := oslots } := Heap.get?_push_of_some _ hol
        have hsls := F.sub_list_set
        have hslf := F.sub_list_frozenset
        have hne : (Value.type "list" == Value.type "dict") = false := by decide
        have here : (s.heap.push (emptySet w)).IsList l items := ⟨_, hol', rfl, nl, rfl⟩
        unfold Builtin.«set.__init__» noKeywords Builtin.Frozenset.updateFrom
        generalize hPI : pyIter = PI
        wp_walk
        subst hPI
        refine wpAny_pyIter_list here (wpAny_bind (wpAny_runValue ?_))
        have below : l < s.heap.objs.size := Heap.lt_size hol
        have top : (s.heap.push (emptySet w)).objs.size = s.heap.objs.size + 1 := Heap.size_push ..
        have apart : l ≠ (s.heap.push (emptySet w)).objs.size := by rw [top]; exact Nat.ne_of_lt (Nat.lt_succ_of_lt below)
        have out : s.heap.objs.size ∉ [(s.heap.push (emptySet w)).objs.size, l] := by
          simp only [List.mem_cons, List.not_mem_nil, or_false, not_or, top]
          exact ⟨Nat.ne_of_lt (Nat.lt_succ_self _), Nat.ne_of_gt below⟩
        have each : ∀ (i : Nat) (v : Value), items[i]? = some v → ∃ k t, ns[i]? = some k ∧ v = .int k t := by
          intro i v hv
          have lt : i < ns.length := by rw [← cnt]; exact (Array.getElem?_eq_some_iff.mp hv).1
          obtain ⟨t, e⟩ := PyProof.Rows.IntsAre.int_at hi i v (by rw [Array.getElem?_toList]; exact hv)
          exact ⟨ns[i], t, List.getElem?_eq_getElem lt, by rw [e, List.getD_eq_getElem?_getD, List.getElem?_eq_getElem lt]; rfl⟩
        refine set_update_ints ((Walks.list (by simp [calm]) _ l apart items).toS) s.heap.objs.size out ns cnt few each (items.size - 0) 0 _ (by omega) (Nat.zero_le _)
          ⟨⟨_, Heap.get?_push_size _ rfl, rfl, rfl⟩, here.push _⟩ ⟨0, Nat.le_refl 0, setR_new_at (Heap.get?_push_of_some _ atNew)⟩ fun s' c' hm hc' hS' => ?_
        obtain ⟨h', g2, d', tk', os'⟩ := s'
        have eg : g2 = s.gens := hm.gens
        have ed : d' = s.drawn := hm.drawn
        have eo : os' = s.os := hm.os
        subst eg ed eo
        show wpAny _ _ _ _ _ _
        refine wpAny_pure ?_
        show wpAny _ _ (ret Value.none) _ _ _
        refine wpAny_pure ⟨rfl, h', tk', c', rfl, hS', by omega, fun b o e => ?_⟩
        have lt := Heap.lt_size e
        exact hm.heap b o (by simp only [List.mem_cons, List.not_mem_nil, or_false, not_or, top]; exact ⟨Nat.ne_of_lt lt, Nat.ne_of_lt (Nat.lt_succ_of_lt lt)⟩) (Heap.get?_push_of_some _ (Heap.get?_push_of_some _ e))
      · cases r₂ with
        | error e => exact hr₂
        | ok fl₂ =>
          cases fl₂ with
          | ret r =>
            obtain ⟨rfl, h', tk, c', rfl, hS', hc', hk'⟩ := hr₂
            repeat (any_goals (first | assumption | wp_step))
            exact go _ _ _ hS' hc' hk'
          | _ => exact hr₂.elim
    | _ => exact hr.elim
end
section
variable {X : Cx}
theorem intsOf : ∀ {ns : List Int} {us : List Value}, Vals (ns.map V.int) us → PyProof.Rows.IntsAre us ns
  | [], _, .nil => .nil
  | n :: ns, _, .cons ⟨k, e⟩ t => by subst e; exact .cons n k (intsOf t)
/-- set(xs), xs a list of ints -/
def rSetI (K : PySem.W.Frag) (w : World) : List V → Hp → VK → Prop := fun vs H Q => ∃ (a : Addr) (ns : List Int), vs = [V.ref a] ∧ SqL K H a (ns.map V.int) ∧ ns.length < 1000 ∧
  ∀ (p : Addr) (c : Nat), H p = none → c ≤ ns.length → Q (.ref p) (upd H p (SetO w p (fun j => decide (j ∈ ns)) c))
theorem cr_setI (hc : X.calm = true) : CallR X (.type "set") (rSetI X.K X.w) := by
  intro pins s σ H vs us Q I r h
  obtain ⟨a, ns, rfl, hs, hn, q⟩ := h
  rw [Vals.ref1 r]
  obtain ⟨its, rv, pl, hz⟩ := I.list hs
  refine set_of_list ns (I.ok.hd hc) pl.isList (by simpa using intsOf rv) (by unfold scanBound; omega) fun h' tk c R hc' k => ?_
  have hn : H s.heap.objs.size = none := I.hok.fresh (Nat.le_refl _)
  exact ⟨.ref _, upd H s.heap.objs.size (SetO X.w s.heap.objs.size (fun j => decide (j ∈ ns)) c), I.laid (t' := tk) k (Nat.le_refl _) (setO_new R), rfl, q _ c hn hc'⟩
end
end Rp

namespace Rp
open PySem L2
/-! ### TERMs -/
inductive Tm where
  | v (n : Int) | z | s (t : Tm) | f (l r : Tm)
  deriving DecidableEq
namespace Tm
def size : Tm → Nat
  | v _ => 1 | z => 1 | s t => t.size + 1 | f l r => l.size + r.size + 1
def deep : Tm → Nat
  | v _ => 0 | z => 0 | s t => t.deep + 1 | f l r => max l.deep r.deep + 1
def nums : Tm → List Int
  | v n => [n] | z => [] | s t => t.nums | f l r => l.nums ++ r.nums
/-- all parts, the whole first, the right-hand ones ahead of the left-hand ones -/
def rpost : Tm → List Tm
  | v n => [v n] | z => [z] | s t => s t :: t.rpost | f l r => f l r :: (r.rpost ++ l.rpost)
def kids : Tm → List Tm
  | v _ => [] | z => [] | s t => [t] | f l r => [l, r]
theorem size_pos : ∀ t : Tm, 1 ≤ t.size
  | v _ => Nat.le_refl _ | z => Nat.le_refl _ | s _ => by unfold size; omega | f _ _ => by unfold size; omega
theorem deep_lt : ∀ t : Tm, t.deep < t.size
  | v _ => Nat.zero_lt_one | z => Nat.zero_lt_one | s t => by have := deep_lt t; unfold deep size; omega
  | f l r => by have := deep_lt l; have := deep_lt r; unfold deep size; omega
theorem rpost_len : ∀ t : Tm, t.rpost.length = t.size
  | v _ => rfl | z => rfl | s t => by unfold rpost size; rw [List.length_cons, rpost_len t]
  | f l r => by unfold rpost size; rw [List.length_cons, List.length_append, rpost_len l, rpost_len r]; omega
/-- an int among the parts -/
theorem mem_rpost (n : Int) : ∀ t : Tm, v n ∈ t.rpost ↔ n ∈ t.nums
  | v m => by unfold rpost nums; simp
  | z => by unfold rpost nums; simp
  | s t => by unfold rpost nums; have := mem_rpost n t; simp [this]
  | f l r => by unfold rpost nums; have := mem_rpost n l; have := mem_rpost n r; simp [*]; exact Or.comm
theorem rpost_kids (t : Tm) : t.rpost = t :: (t.kids.reverse.flatMap rpost) := by
  cases t <;> simp [rpost, kids]
theorem kids_size (t : Tm) : (t.kids.map size).sum + 1 = t.size := by
  cases t <;> simp [kids, size] <;> omega
theorem nums_len : ∀ t : Tm, t.nums.length ≤ t.size
  | v _ => Nat.le_refl _ | z => Nat.zero_le _ | s t => by have := nums_len t; unfold nums size; omega
  | f l r => by have := nums_len l; have := nums_len r; unfold nums size; rw [List.length_append]; omega
/-- all signs, as law's leaves has them -/
def signs : Tm → List V
  | v n => [.int n] | z => [.str "0"] | s t => .str "s" :: t.signs | f l r => .str "f" :: (l.signs ++ r.signs)
theorem signs_len : ∀ t : Tm, t.signs.length = t.size
  | v _ => rfl | z => rfl | s t => by unfold signs size; rw [List.length_cons, signs_len t]
  | f l r => by unfold signs size; rw [List.length_cons, List.length_append, signs_len l, signs_len r]
end Tm
/-- the ints of a row of ints and texts -/
def rowInts : List V → List Int
  | [] => []
  | .int n :: r => n :: rowInts r
  | _ :: r => rowInts r
theorem rowInts_append : ∀ a b : List V, rowInts (a ++ b) = rowInts a ++ rowInts b
  | [], b => rfl
  | x :: r, b => by cases x <;> simp [rowInts, rowInts_append r b]
theorem signs_nums : ∀ t : Tm, rowInts t.signs = t.nums
  | .v _ => rfl | .z => rfl | .s t => by simp [Tm.signs, Tm.nums, rowInts, signs_nums t]
  | .f l r => by simp [Tm.signs, Tm.nums, rowInts, rowInts_append, signs_nums l, signs_nums r]
/-- a row of ints and texts -/
def Flat2 : V → Prop
  | .int _ => True
  | .str _ => True
  | _ => False
theorem signs_flat : ∀ t : Tm, ∀ x ∈ t.signs, Flat2 x
  | .v _, x, h => by simp [Tm.signs] at h; subst h; trivial
  | .z, x, h => by simp [Tm.signs] at h; subst h; trivial
  | .s t, x, h => by
    simp only [Tm.signs, List.mem_cons] at h
    rcases h with h | h
    · subst h; trivial
    · exact signs_flat t x h
  | .f l r, x, h => by
    simp only [Tm.signs, List.mem_cons, List.mem_append] at h
    rcases h with h | h | h
    · subst h; trivial
    · exact signs_flat l x h
    · exact signs_flat r x h
/-! ### two rising rows of the same ints are one -/
theorem rising_one : ∀ {a b : List Int}, a.Pairwise (· < ·) → b.Pairwise (· < ·) → (∀ k, k ∈ a ↔ k ∈ b) → a = b
  | [], [], _, _, _ => rfl
  | [], y :: b, _, _, h => by have := (h y).2 (by simp); simp at this
  | x :: a, [], _, _, h => by have := (h x).1 (by simp); simp at this
  | x :: a, y :: b, ha, hb, h => by
    rw [List.pairwise_cons] at ha hb
    have exy : x = y := by
      rcases List.mem_cons.mp ((h x).1 (by simp)) with e | e
      · exact e
      · rcases List.mem_cons.mp ((h y).2 (by simp)) with e' | e'
        · exact e'.symm
        · have := hb.1 x e
          have := ha.1 y e'
          omega
    subst exy
    rw [rising_one ha.2 hb.2 fun k => ?_]
    constructor
    · intro hk
      rcases List.mem_cons.mp ((h k).1 (List.mem_cons_of_mem _ hk)) with e | e
      · have := ha.1 k hk; omega
      · exact e
    · intro hk
      rcases List.mem_cons.mp ((h k).2 (List.mem_cons_of_mem _ hk)) with e | e
      · have := hb.1 k hk; omega
      · exact e
/-! ### heaps -/
/-- all but b stays -/
def But (b : Addr) (H H' : Hp) : Prop := ∀ c o, H c = some o → c ≠ b → H' c = some o
theorem But.refl (b : Addr) (H : Hp) : But b H H := fun _ _ h _ => h
theorem But.trans {b : Addr} {H H1 H2 : Hp} (x : But b H H1) (y : But b H1 H2) : But b H H2 := fun c o h n => y c o (x c o h n) n
theorem but_of {b : Addr} {H H' : Hp} (x : Same H H') : But b H H' := fun c o h _ => x c o h
theorem same_new {H : Hp} {p : Addr} (h : H p = none) (o : HO) : Same H (upd H p o) := fun b u q => by rw [upd_ne (ne_of_none q h)]; exact q
theorem but_upd {H : Hp} {b : Addr} (o : HO) : But b H (upd H b o) := fun c u h n => by rw [upd_ne n]; exact h
/-- the box of draws: j bounds how often it was drawn from -/
structure BoxAt (H : Hp) (b : Addr) (j : Nat) : Prop where
  ex : ∃ x y z : Int, H b = some (.lst [.int x, .int y, .int z]) ∧ 0 ≤ x ∧ 0 ≤ y ∧ y < 10000000000 ∧ 0 ≤ z ∧ z ≤ (j : Int)
theorem BoxAt.same {H H' : Hp} {b : Addr} {j : Nat} (B : BoxAt H b j) (e : Same H H') : BoxAt H' b j := by
  obtain ⟨x, y, z, h, r⟩ := B.ex
  exact ⟨x, y, z, e _ _ h, r⟩
theorem BoxAt.more {H : Hp} {b : Addr} {j k : Nat} (B : BoxAt H b j) (h : j ≤ k) : BoxAt H b k := by
  obtain ⟨x, y, z, e, h1, h2, h3, h4, h5⟩ := B.ex
  exact ⟨x, y, z, e, h1, h2, h3, h4, by omega⟩
theorem BoxAt.some {H : Hp} {b : Addr} {j : Nat} (B : BoxAt H b j) : ∃ xs, H b = some (.lst xs) := by
  obtain ⟨x, y, z, e, _⟩ := B.ex
  exact ⟨_, e⟩
/-- a TERM stands as the value v -/
inductive TmAt (H : Hp) : V → Tm → Prop where
  | v (n : Int) : TmAt H (.int n) (.v n)
  | z {a : Addr} (h : H a = some (.tup [.str "0"])) : TmAt H (.ref a) .z
  | s {a : Addr} {x : V} {t : Tm} (h : H a = some (.tup [.str "s", x])) (q : TmAt H x t) : TmAt H (.ref a) (.s t)
  | f {a : Addr} {x y : V} {l r : Tm} (h : H a = some (.tup [.str "f", x, y])) (q : TmAt H x l) (q' : TmAt H y r) : TmAt H (.ref a) (.f l r)
theorem TmAt.mono {H H' : Hp} (e : ∀ a xs, H a = some (.tup xs) → H' a = some (.tup xs)) {v : V} {t : Tm} (h : TmAt H v t) : TmAt H' v t := by
  induction h with
  | v n => exact .v n
  | z h => exact .z (e _ _ h)
  | s h _ ih => exact .s (e _ _ h) ih
  | f h _ _ ih ih' => exact .f (e _ _ h) ih ih'
theorem TmAt.same {H H' : Hp} (e : Same H H') {v : V} {t : Tm} (h : TmAt H v t) : TmAt H' v t := h.mono fun a xs q => e a _ q
theorem TmAt.but {H H' : Hp} {b : Addr} {ys : List V} (e : But b H H') (hb : H b = some (.lst ys)) {v : V} {t : Tm} (h : TmAt H v t) : TmAt H' v t :=
  h.mono fun a xs q => e a _ q (ne_of q hb (by intro z; cases z))
/-! ### what is alike, kind by kind (to a depth) -/
def Plain : V → Prop
  | .non => True
  | .bl _ => True
  | .int _ => True
  | .str _ => True
  | _ => False
def Alike (H : Hp) : Nat → V → V → Prop
  | 0, x, y => Plain x ∧ x = y
  | n + 1, x, y => (Plain x ∧ x = y) ∨ ∃ a b xs ys, x = .ref a ∧ y = .ref b ∧ ((H a = some (.lst xs) ∧ H b = some (.lst ys)) ∨ (H a = some (.tup xs) ∧ H b = some (.tup ys))) ∧
      xs.length = ys.length ∧ xs.length ≤ 1000000 ∧ ∀ (i : Nat) (u v : V), xs[i]? = some u → ys[i]? = some v → Alike H n u v
theorem Alike.mono {H H' : Hp} (e : Same H H') : ∀ (n : Nat) {x y : V}, Alike H n x y → Alike H' n x y
  | 0, _, _, h => by unfold Alike at h ⊢; exact h
  | n + 1, x, y, h => by
    unfold Alike at h ⊢
    rcases h with h | ⟨a, b, xs, ys, h1, h2, h3, h4, h5, h6⟩
    · exact .inl h
    · exact .inr ⟨a, b, xs, ys, h1, h2, h3.imp (fun q => ⟨e _ _ q.1, e _ _ q.2⟩) (fun q => ⟨e _ _ q.1, e _ _ q.2⟩), h4, h5, fun i u v p q => Alike.mono e n (h6 i u v p q)⟩
theorem alike_ints {H : Hp} {n : Nat} {a b : Addr} {ns : List Int} (ha : H a = some (.lst (ns.map V.int))) (hb : H b = some (.lst (ns.map V.int))) (hl : ns.length ≤ 1000000) : Alike H (n + 1) (.ref a) (.ref b) := by
  unfold Alike
  refine .inr ⟨a, b, _, _, rfl, rfl, .inl ⟨ha, hb⟩, rfl, by rw [List.length_map]; exact hl, fun i u v h1 h2 => ?_⟩
  have e : u = v := Option.some.inj (h1.symm.trans h2)
  subst e
  rw [List.getElem?_map] at h1
  cases q : ns[i]? with
  | none => rw [q] at h1; cases h1
  | some k =>
    rw [q] at h1
    cases h1
    cases n with
    | zero => unfold Alike; exact ⟨trivial, rfl⟩
    | succ n => unfold Alike; exact .inl ⟨trivial, rfl⟩
end Rp

/-! Defs whose body asks for the repr of lists and tuples: their promise is kept where no repr is at work (the around's guards are told to be none), and so where the law itself is called. -/
namespace Rp
open PySem PySem.Spec PyProof.Rows L2
structure GnOk (P : Program) (w : World) (K : PySem.W.Frag) (mg : Str → Option Value) (base : Heap) (k : Nat) (f : Addr) (fd : FuncData) (ps : List Str) (sp : Sp) : Prop where
  len : ∀ vs H Q E, sp vs H Q E → vs.length = ps.length
  run : ∀ (A : Around) (outer : List Env) (s : Shared) (H : Hp) (args : Args) (us : List Value) (vs : List V) (Q : VK) (E : XK), A.guards = some [] → Room k A → Env0 P w K mg base A outer s H → BindsTo s fd args (ps.zip us) → Vals vs us → sp vs H Q E →
    codeAny (model P w) A (.call (.ref f) args) (CR CX0 outer P w H s Q E) s
section
variable {P : Program} {w : World} {K : PySem.W.Frag} {mg : Str → Option Value} {base : Heap}
/-- a def by its body, the guards told -/
theorem gok {x qual : Str} {st : Stmt} {f : Addr} {fd : FuncData} {N ps : List Str} {k : Nat} {sp : Sp} (F : Fun K x qual st f fd) (S : FnScope N ps (defScope st)) (len : ∀ vs H Q E, sp vs H Q E → vs.length = ps.length)
    (walk : ∀ (cdv : Value) (A : Around) (outer : List Env) (s : Shared) (H : Hp) (vs : List V) (Q : VK) (E : XK), A.guards = some [] → Room k (A.deeper (envOfC qual (defScope st) s.heap.objs.size f cdv)) → sp vs H Q E →
      ∃ t, PSs (cxOf CX0 P w K mg base N qual (defScope st) f cdv A outer s H E).nox (defBody st) t ∧ t { nx := fun _ H' => Q .non H', rt := Q } (start N vs) H) : GnOk P w K mg base (k + 1) f fd ps sp := by
  obtain ⟨oc, od, kV, doc, pm, an, cdv, ct, osl, rfl, lk, hcd⟩ := F.ex
  refine ⟨len, fun A outer s H args us vs Q E hg hr e0 hb r hsp => ?_⟩
  have K0 : K.In s.heap := e0.mod.kin.keeps fun b o e => (e0.bs b o e).1
  have L0 : s.heap.NoLimit := e0.mod.nolimit.keeps fun b o e => (e0.bs b o e).1
  have each : ∀ y ∈ ps.zip us, (defScope st).names.lookup y.1 = some .local ∨ ((defScope st).names.lookup y.1 = some .cell ∧ ((cellsFrom (s.heap.objs.size + 1) (defScope st).names []).lookup y.1).isSome = true) := by
    rintro ⟨n, v⟩ hy
    exact (S.par n (List.of_mem_zip hy).1).imp id fun q => ⟨q, PySem.W.cellsFrom_some _ _ _ (.inl q)⟩
  refine codeAny_call_function hr.depth (K0 _ _ lk) rfl S.co S.gen rfl (PySem.W.codeRec_of K0 hcd) (hb _ _ _ _ (wpAny_newFunctionEnv_cells S.kind each fun env he s1 z => ?_))
  subst he
  refine ⟨L0.keeps z.toInCall.keep, codeAny_func ?_⟩
  obtain ⟨t, ht, hq⟩ := walk cdv A outer s H vs Q E hg (hr.deeper _) hsp
  have I : L2.Inv (cxOf CX0 P w K mg base N qual (defScope st) f cdv A outer s H E) [] (start N vs) H s1 := inv_start S hr.hd e0 (len _ _ _ _ hsp) r z
  refine wpAny_mono (ht.nox.run [] s1 (start N vs) H _ I hq) (fun fl s' hs => ?_) fun e s' hs => hs
  rcases fl with _ | _ | _ | u
  · obtain ⟨_, H', J, q⟩ := hs
    exact ⟨V.non, H', J.os, J.bare, J.base, J.hok, rfl, q⟩
  · exact hs.choose_spec.choose_spec.2.elim
  · exact hs.choose_spec.choose_spec.2.elim
  · obtain ⟨v, _, H', J, rv, q⟩ := hs
    exact ⟨v, H', J.os, J.bare, J.base, J.hok, rv, q⟩
end
section
variable {X : Cx} {k : Nat} {f : Addr} {fd : FuncData} {ps : List Str} {sp : Sp} {E : XK} {x : Str} {p pos : Pos} {e : Expr} {es : List Expr} {t : TA}
theorem pe_callG (F : GnOk X.prog X.w X.K X.mg X.base k f fd ps sp) (hgd : X.A.guards = some []) (hr : Room k X.A) (hg : Gl X x) (hm : X.mg x = some (.ref f)) (hk : PySem.W.keepIn X.K (.ref f) = true) (hb : Binds X.K fd ps []) (ha : PA X (e :: es) t)
    (hdb : (x == ("__debug__" : Str)) = false := by decide) (he : starEach (e :: es) X.env = (false, eval e X.env) :: starEach es X.env := by rfl) (hpl : (backTo pos (starEach es X.env)).any (·.1) = false := by rfl) :
    PE X (.Call (.Name x p) (e :: es) [] pos) (tCall sp [] E0 t) := by
  refine ⟨fun pins s σ H Q I h => wpAny_Call_Name_kw (ld_glob I hg hm ?_ hdb)⟩
  refine PySem.W.callWith_K (h₀ := X.base) I.ok.mod.kin hk (thn (ha.run pos pins s σ H _ I h) fun us s1 ⟨vs, H1, I1, r, q⟩ => ⟨I1.kIn, ?_⟩) he hpl
  have q : sp vs H1 Q E0 := by
    have z : sp (vs ++ []) H1 Q E0 := q
    rwa [List.append_nil] at z
  have hl : us.length = ps.length := r.length.symm.trans (F.len _ _ _ _ q)
  have hb' := hb s1 us I1.kIn (by rw [List.append_nil]; exact hl)
  rw [List.append_nil] at hb'
  refine wpAny_call (codeAny_mono (F.run X.A X.stack s1 H1 ⟨us, []⟩ us vs Q E0 hgd hr I1.env0 hb' r q) fun r' s' hq => ?_)
  rcases r' with e' | fl
  · exact hq.elim
  · rcases fl with _ | _ | _ | u
    · exact hq.elim
    · exact hq.elim
    · exact hq.elim
    · exact I1.after hq
/-- repr(v), v data at any depth -/
def rReprD (K : PySem.W.Frag) : List V → Hp → VK → Prop := fun vs H Q => ∃ (v : V) (d : PyData), vs = [v] ∧ Dp K H v d ∧ d.showable = true ∧ d.hasDict = false ∧ d.depth ≤ 64 ∧ d.shown.length ≤ sizeLine ∧ Q (.str d.shown) H
theorem cr_reprD (hgd : X.A.guards = some []) (hu : X.A.units + 66 < cLine) : CallR X (.builtin "repr") (rReprD X.K) := by
  intro pins s σ H vs us Q I r h
  obtain ⟨v, d, rfl, hd, sh, nd, dp, sz, q⟩ := h
  obtain ⟨u, rfl, ru⟩ := vals1 r
  obtain ⟨as, rd⟩ := Dp.reads I d v u hd ru
  cases hd with
  | non => cases ru; exact PySem.P.repr_of_none ⟨.str "None", H, I.tok _, ⟨_, rfl⟩, by simpa [PyData.shown] using q⟩
  | bl b => cases ru; exact PySem.P.repr_of_bool ⟨.str (if b then "True" else "False"), H, I.tok _, ⟨_, rfl⟩, by simpa [PyData.shown] using q⟩
  | int i =>
    obtain ⟨t, rfl⟩ := ru
    exact PySem.P.repr_of_int (by simpa [PyData.showable] using sh) ⟨.str (toString i), H, I.tok _, ⟨_, rfl⟩, by simpa [PyData.shown] using q⟩
  | str x =>
    obtain ⟨t, rfl⟩ := ru
    exact PySem.P.repr_of_str ⟨.str (reprText x), H, I.tok _, ⟨_, rfl⟩, by simpa [PyData.shown] using q⟩ (by simpa [PyData.shown] using sz)
  | lst a b =>
    cases ru
    exact PySem.repr_of_reads' rd sh (fun e => by rw [nd] at e; cases e) hgd (by omega) (fun _ _ e => e) (fun h' u tk k => ⟨.str _, H, I.kept (t' := tk) k, ⟨u, rfl⟩, q⟩) sz
  | tup a b =>
    cases ru
    exact PySem.repr_of_reads' rd sh (fun e => by rw [nd] at e; cases e) hgd (by omega) (fun _ _ e => e) (fun h' u tk k => ⟨.str _, H, I.kept (t' := tk) k, ⟨u, rfl⟩, q⟩) sz
end
/-- the law's own call, its promise with the guards told -/
theorem law_callG {P : Program} {w : World} {K : PySem.W.Frag} {mg mb : Str → Option Value} {k : Nat} {fa a : Addr} {fd : FuncData} {x : Str} {sp : Sp} {s₁ : Shared} {vs : List Value} {ns : List Int}
    (KX : K.In s₁.heap) (hns : s₁.heap.Ns mainGlobals mg) (hb : s₁.heap.Ns builtinsNs mb) (hbb : ∀ x : Str, x ≠ "__name__" → mb x = bootBuiltins x) (hlim : s₁.heap.NoLimit) (hg : s₁.gens = #[])
    (ha : s₁.heap.get? a = some { cls := .type "list", data := .seq vs.toArray }) (hi : IntsAre vs ns) (hl : ns.length ≤ sizeLine) (hr : Room k callerA)
    (F : ∀ base : Heap, K.In base → base.Ns mainGlobals mg → GnOk P w K mg base k fa fd [x] sp) (bind : ∀ (s : Shared) (u : Value), BindsTo s fd ⟨[u], []⟩ [(x, u)])
    (ask : ∀ H : Hp, Only H → SqL K H a (ns.map V.int) → sp [.ref a] H (fun v _ => v = .bl true) E0) :
    codeAny (model P w) callerA (.call (.ref fa) ⟨[.ref a], []⟩) (fun r s' => r = .ok (.ret (.bool true)) ∧ OldK s₁.heap s'.heap ∧ s'.os = s₁.os ∧ AllBare s'.gens) s₁ := by
  have rv := vals_ints hi
  have lenV := hi.length
  have from_ : ∀ H : Hp, Only H → SqL K H a (ns.map V.int) → HOk P w H s₁.heap → (∀ b, H b ≠ none → b = a ∧ K.lookup a = none) →
      codeAny (model P w) callerA (.call (.ref fa) ⟨[.ref a], []⟩) (fun r s' => r = .ok (.ret (.bool true)) ∧ OldK s₁.heap s'.heap ∧ s'.os = s₁.os ∧ AllBare s'.gens) s₁ := by
    intro H only hS hok hA
    have free : ∀ {b : Addr} {o : Obj}, s₁.heap.get? b = some o → (b = a → False) → H b = none := fun {b o} _ n => by
      cases q : H b with
      | none => rfl
      | some u => exact (n (hA b (by rw [q]; simp)).1).elim
    have low : ∀ {b : Addr} {o : Obj}, s₁.heap.get? b = some o → H b = none → (hidT s₁.heap H).get? b = some o := fun e n => hidT_get e n
    have names : ∀ {b : Addr} {m : Str → Option Value}, s₁.heap.Ns b m → (hidT s₁.heap H).Ns b m := fun {b m} ⟨o, es, ep, e, d, r⟩ =>
      ⟨o, es, ep, low e (free e fun z => by subst z; rw [ha] at e; cases e; cases d), d, r⟩
    have hK : K.In (hidT s₁.heap H) := fun b o e => low (KX b o e) (by
      cases q : H b with
      | none => rfl
      | some u =>
        obtain ⟨z, zk⟩ := hA b (by rw [q]; simp)
        subst z
        rw [zk] at e; cases e)
    have M : Mod K mg (hidT s₁.heap H) := ⟨hK, names hns, ⟨mb, names hb, hbb⟩, let ⟨mc, h1, h2⟩ := hlim; ⟨mc, names h1, h2⟩⟩
    have e0 : Env0 P w K mg (hidT s₁.heap H) callerA [] s₁ H := ⟨rfl, M, fun b o e => of_hidT e, Nat.le_of_eq (hidT_size _ _), trivial, fun b z => absurd (show b ∈ ([] : List Addr) from z) (by simp), hok, .of_eq hg⟩
    refine codeAny_mono ((F _ hK (names hns)).run callerA [] s₁ H ⟨[.ref a], []⟩ [.ref a] [.ref a] _ _ rfl hr e0 (bind s₁ (.ref a)) (.cons rfl .nil) (ask H only hS)) fun r s' h => ?_
    rcases r with e | fl
    · exact h.elim
    · rcases fl with _ | _ | _ | u
      · exact h.elim
      · exact h.elim
      · exact h.elim
      · obtain ⟨v, H', os, bare, un, hok', r', q⟩ := h
        obtain rfl : v = .bl true := q
        obtain rfl : u = Value.bool true := r'
        refine ⟨rfl, OldK.of_keep fun b o e => ?_, os, bare⟩
        cases q : H b with
        | none => exact un.keep b o e q (by intro z; exact absurd (show b ∈ ([] : List Addr) from z) (by simp)) (by simp)
        | some u =>
          rcases only b with z | ⟨ob, xs, z⟩
          · rw [q] at z; cases z
          · obtain ⟨e1, _⟩ := hok b _ z
            obtain ⟨e2, _⟩ := hok' b _ (un.frzs b ob _ z)
            rw [e] at e1; cases e1
            exact e2
  cases hk : K.lookup a with
  | some o =>
    have e := KX a o hk
    rw [ha] at e
    cases e
    exact from_ (fun _ => none) (fun _ => .inl rfl) (.inr ⟨_, vs.toArray, _, hk, rfl, rfl, rfl, by rw [List.size_toArray, lenV]; exact hl, by simpa using rv⟩) (fun b u z => nomatch (show (none : Option HO) = some u from z)) fun b z => absurd rfl z
  | none =>
    have at_ : ∀ b, (fun b => if b = a then some (HO.frz { cls := .type "list", data := .seq vs.toArray } (.lst (ns.map V.int))) else none) b ≠ none → b = a := fun b z => by
      by_cases hb : b = a
      · exact hb
      · exact absurd (if_neg hb) z
    refine from_ _ (fun b => ?_) (.inl (.inr ⟨_, if_pos rfl⟩)) (fun b u z => ?_) fun b z => ⟨at_ b z, hk⟩
    · by_cases hb : b = a
      · exact .inr ⟨_, _, if_pos hb⟩
      · exact .inl (if_neg hb)
    · have hb := at_ b (fun e => by have y := z.symm.trans e; cases y)
      subst hb
      have z' := (if_pos rfl).symm.trans z
      cases z'
      exact ⟨ha, by rw [List.length_map]; exact hl, vs, _, rv, ha⟩
theorem walk_ofG {l : PySem.W.OpenLaw} {n k : Nat} {q : Program} {loose : List Str} {XP : (Str → Option Value) → Heap → Prop} {YP : World → Heap → Prop} {d : DefRec} {K : Params → PySem.W.Frag} {sp : PySem.W.Frag → Sp} {x : Str}
    (hn : l.most = some n) (hn2 : n ≤ sizeLine) (hdf : d.params.defaults = []) (hr : Room k callerA) (hY : ∀ (w : World) (h : Heap), YP w h → (K w.params).In h)
    (F : ∀ (w : World) (mg : Str → Option Value) (fa : Addr) (h : Heap), (K w.params).In h → h.Ns mainGlobals mg → mg d.name = some (.ref fa) →
      ∃ fd : FuncData, (∀ (s : Shared) (u : Value), BindsTo s fd ⟨[u], []⟩ [(x, u)]) ∧ ∀ base : Heap, (K w.params).In base → base.Ns mainGlobals mg → GnOk l.prog w (K w.params) mg base k fa fd [x] (sp (K w.params)))
    (ask : ∀ (K : PySem.W.Frag) (H : Hp) (a : Addr) (ns : List Int), ns.length ≤ n → Only H → SqL K H a (ns.map V.int) → sp K [.ref a] H (fun v _ => v = .bl true) E0) :
    PySem.W.WalkO q loose XP YP l.row.toRowW d [] (fun f vs => PySem.call f vs) := by
  refine Att.attach_call hn hdf fun w s₀ s₁ mg mb fa o pm cd doc a vs ns G Y ho hd hcd hmg hobj hints hlen hg => ?_
  obtain ⟨fd, hb, hF⟩ := F w mg fa _ (hY w _ Y) G.T.g hmg
  exact law_callG (hY w _ Y) G.T.g G.T.b G.T.builtins G.T.nolimit hg hobj hints (Nat.le_trans hlen hn2) hr hF hb fun H hO hS => ask _ H a ns hlen hO hS
end Rp

namespace Rp
open PySem L2
def top (i : Nat) : Stmt := PySem.Challenge.pw_ringproofs_k06_terms_and_bindings_as_tex.main.body.getD i (.Pass ⟨0, 0, 0, 0⟩)
abbrev sNumber : Stmt := top 7
abbrev sVariable : Stmt := top 8
abbrev sShape : Stmt := top 9
abbrev sTerm : Stmt := top 10
abbrev sParts : Stmt := top 11
abbrev sInside : Stmt := top 12
abbrev sFold : Stmt := top 13
abbrev sIsPair : Stmt := top 14
abbrev sIsBinding : Stmt := top 15
abbrev sTextOf : Stmt := top 18
abbrev sTermText : Stmt := top 19
abbrev sNumberOf : Stmt := top 20
abbrev sFromSigns : Stmt := top 21
abbrev sTermOrNone : Stmt := top 22
abbrev sTermIn : Stmt := top 23
abbrev sBindingText : Stmt := top 24
abbrev sPairIn : Stmt := top 25
abbrev sBindingOrNone : Stmt := top 26
abbrev sBindingIn : Stmt := top 27
abbrev sBox : Stmt := top 29
abbrev sTake : Stmt := top 30
abbrev sPick : Stmt := top 31
abbrev sSame : Stmt := top 32
abbrev sTree : Stmt := top 33
abbrev sFresh : Stmt := top 34
abbrev sText : Stmt := top 35
abbrev sPairs : Stmt := top 36
abbrev sLawBT : Stmt := top 37
abbrev sRight : Stmt := top 38
abbrev sLaw : Stmt := top 39
end Rp

namespace Rp
open PySem L2
/-! ### promises -/
def spBox (K : PySem.W.Frag) : Sp := fun vs H Q _ => ∃ (a : Addr) (ns : List Int) (k : Int), vs = [.ref a, .int k] ∧ SqL K H a (ns.map V.int) ∧ ns.length ≤ 63 ∧ 0 ≤ k ∧ k ≤ 63 ∧
  ∀ (b : Addr) (H' : Hp), H b = none → BoxAt H' b 0 → Same H H' → Q (.ref b) H'
def spTake : Sp := fun vs H Q _ => ∃ (b : Addr) (c : Int) (j : Nat), vs = [.ref b, .int c] ∧ BoxAt H b j ∧ j ≤ 1000000 ∧ 1 ≤ c ∧ c ≤ 1000000 ∧
  ∀ (r : Int) (H' : Hp), 0 ≤ r → r < c → BoxAt H' b (j + 1) → But b H H' → Q (.int r) H'
def spPick : Sp := fun vs H Q _ => ∃ (b p : Addr) (xs : List V) (j : Nat), vs = [.ref b, .ref p] ∧ BoxAt H b j ∧ j ≤ 1000000 ∧ H p = some (.lst xs) ∧ p ≠ b ∧ 1 ≤ xs.length ∧ xs.length ≤ 1000000 ∧
  ∀ (v : V) (H' : Hp), v ∈ xs → BoxAt H' b (j + 1) → But b H H' → Q v H'
section
variable {P : Program} {w : World} {K : PySem.W.Frag} {mg : Str → Option Value} {base : Heap}
theorem fmod_pos {a c : Int} (h : 0 < c) : 0 ≤ a.fmod c ∧ a.fmod c < c := by
  rw [Int.fmod_eq_emod_of_nonneg a (Int.le_of_lt h)]
  exact ⟨Int.emod_nonneg a (by omega), Int.emod_lt_of_pos a h⟩
theorem fdiv_pos {a c : Int} (h : 0 < c) (ha : 0 ≤ a) : 0 ≤ a.fdiv c := by
  rw [Int.fdiv_eq_ediv_of_nonneg a (Int.le_of_lt h)]
  exact Int.ediv_nonneg ha (Int.le_of_lt h)
theorem scBox : FnScope ["_law_script", "_law_k", "_law_cell"] ["_law_script", "_law_k"] (defScope sBox) := ⟨rfl, rfl, rfl, by decide +kernel, rfl, by decide +kernel, by decide +kernel⟩
theorem ok_box {f : Addr} {fd : FuncData} (F : Fun K "_law_box" "_law_box" sBox f fd) (mLen : mg "len" = none) (mAbs : mg "abs" = none) (mInt : mg "int" = none) :
    FnOk P w K mg base CX0 1 f fd ["_law_script", "_law_k"] (spBox K) := by
  refine F.ok scBox (fun vs H Q E h => ?_) (fun cdv A outer s H vs Q E hr h => ?_)
  · obtain ⟨a, ns, k, rfl, _⟩ := h
    rfl
  obtain ⟨a, ns, k, rfl, hS, hl, h0, h1, q⟩ := h
  refine ⟨_, pss_cons (ps_set (i := 2) scBox.nd rfl (Or.inl rfl) pe_int)
    (pss_cons (ps_if (pt_cmpR op_lt (pv 1) (pe_callB call_len_seq (by rfl) mLen PySem.boot_len (pa_cons (pv 0) pa_nil)) (nomark _))
      (pss_one (ps_set (i := 2) scBox.nd rfl (Or.inl rfl) (pe_ix ix_list (pv 0) (pv 1) (fun _ _ => rfl)))) pss_nil)
    (pss_one (ps_ret (pe_lst (pa_cons
      (pe_op op_mul (pe_callB call_abs (by rfl) mAbs (by decide +kernel) (pa_cons (pv 2) pa_nil))
        (pe_callTy call_int1 (by rfl) mInt (by decide +kernel) (pa_cons (pe_cmpR op_ge (pe_callB call_abs (by rfl) mAbs (by decide +kernel) (pa_cons (pv 2) pa_nil)) (pe_op op_pow pe_int pe_int) (nomark _)) pa_nil)))
      (pa_cons (pe_op op_add (pe_op op_add (pe_op op_modN (pv 2) pe_int) (pe_op op_mul pe_int (pv 1))) pe_int) (pa_cons pe_int pa_nil))))))), ?_⟩
  refine ⟨_, rfl, _, rfl, a, _, rfl, .inl hS, _, _, rfl, rfl, _, rfl, ?_⟩
  have two : ∀ (b : Bool), -(2 ^ 64) < (if b = true then (1 : Int) else 0) ∧ (if b = true then (1 : Int) else 0) < 2 ^ 64 ∧ 0 ≤ (if b = true then (1 : Int) else 0) := by decide
  have pos : ∀ c : Int, 0 ≤ if c < 0 then -c else c := fun c => by split <;> omega
  have m := fun c : Int => fmod_pos (a := c) (c := 2147483629) (by decide)
  refine ite2 (fun c => ?_) (fun c => ?_)
  · have hk : k.toNat < ns.length := by
      have z : k < (((ns.map V.int).length : Nat) : Int) := of_decide_eq_true c
      rw [List.length_map] at z
      omega
    have it : atI (ns.map V.int) k = some (.int ns[k.toNat]) := at_of (j := k.toNat) (by omega) (by rw [List.getElem?_map, List.getElem?_eq_getElem hk]; rfl)
    refine ⟨_, rfl, _, rfl, a, _, _, _, rfl, rfl, hS, it, ?_⟩
    refine ⟨_, rfl, _, rfl, _, rfl, _, rfl, _, _, rfl, rfl, ⟨by decide, by decide, by decide⟩, _, _, rfl, rfl, .inr ⟨_, rfl, ?_⟩⟩
    refine ⟨_, _, rfl, rfl, .inr ⟨(two _).1, (two _).2.1⟩, _, rfl, _, _, rfl, rfl, (fun h => absurd h (by decide)), _, rfl, _, _, rfl, rfl, .inl ⟨by decide, by decide⟩, _, _, rfl, rfl, _, _, rfl, rfl, (by show 3 ≤ sizeLine; decide), fun b hb => ?_⟩
    have mm := m ns[k.toNat]
    exact q b _ hb ⟨_, _, _, upd_same, Int.mul_nonneg (pos _) (two _).2.2, by omega, by omega, by decide, by decide⟩ (same_new hb _)
  · refine ⟨_, rfl, _, rfl, _, rfl, _, rfl, _, _, rfl, rfl, ⟨by decide, by decide, by decide⟩, _, _, rfl, rfl, .inr ⟨_, rfl, ?_⟩⟩
    refine ⟨_, _, rfl, rfl, .inr ⟨(two _).1, (two _).2.1⟩, _, rfl, _, _, rfl, rfl, (fun h => absurd h (by decide)), _, rfl, _, _, rfl, rfl, .inl ⟨by decide, by decide⟩, _, _, rfl, rfl, _, _, rfl, rfl, (by show 3 ≤ sizeLine; decide), fun b hb => ?_⟩
    have mm := m 0
    exact q b _ hb ⟨_, _, _, upd_same, Int.mul_nonneg (pos _) (two _).2.2, by omega, by omega, by decide, by decide⟩ (same_new hb _)
theorem scTake : FnScope ["_law_box_here", "_law_count", "_law_found", "_law_once"] ["_law_box_here", "_law_count"] (defScope sTake) := ⟨rfl, rfl, rfl, by decide +kernel, rfl, by decide +kernel, by decide +kernel⟩
theorem ok_take {f : Addr} {fd : FuncData} (F : Fun K "_law_take" "_law_take" sTake f fd) : FnOk P w K mg base CX0 1 f fd ["_law_box_here", "_law_count"] spTake := by
  refine F.ok scTake (fun vs H Q E h => ?_) (fun cdv A outer s H vs Q E hr h => ?_)
  · obtain ⟨b, c, j, rfl, _⟩ := h
    rfl
  obtain ⟨b, c, j, rfl, B, hj, h1, h2, q⟩ := h
  obtain ⟨x, y, z, hb, x0, y0, y1, z0, z1⟩ := id B
  have s0 : SqL K H b [.int x, .int y, .int z] := .inl (.inl hb)
  have a0 : ∀ u v t : Int, atI [V.int u, .int v, .int t] 0 = some (.int u) := fun u v t => at_of (j := 0) rfl rfl
  have a1 : ∀ u v t : Int, atI [V.int u, .int v, .int t] 1 = some (.int v) := fun u v t => at_of (j := 1) rfl rfl
  have a2 : ∀ u v t : Int, atI [V.int u, .int v, .int t] 2 = some (.int t) := fun u v t => at_of (j := 2) rfl rfl
  refine ⟨_, pss_cons (ps_if (pt_cmpR op_gt (pe_ix ix_list (pv 0) pe_int (fun _ _ => rfl)) pe_int (nomark _))
      (pss_cons (ps_set (i := 2) scTake.nd rfl (Or.inl rfl) (pe_op op_modN (pe_ix ix_list (pv 0) pe_int (fun _ _ => rfl)) (pv 1)))
      (pss_cons (ps_asg (pe_op op_fdivN (pe_ix ix_list (pv 0) pe_int (fun _ _ => rfl)) (pv 1)) (pg_sub (pv 0) pe_int set_list))
      (pss_one (ps_ret (pv 2))))) pss_nil)
    (pss_cons (ps_asg (pe_op op_add (pe_ix ix_list (pv 0) pe_int (fun _ _ => rfl)) pe_int) (pg_sub (pv 0) pe_int set_list))
    (pss_cons (ps_set (i := 3) scTake.nd rfl (Or.inl rfl) (pe_op op_modN (pe_op op_pow (pe_op op_add (pe_ix ix_list (pv 0) pe_int (fun _ _ => rfl)) (pe_op op_mul pe_int (pe_ix ix_list (pv 0) pe_int (fun _ _ => rfl)))) pe_int) pe_int))
    (pss_one (ps_ret (pe_op op_modN (pe_op op_fdivN (pe_op op_modN (pe_op op_add (pe_op op_mul (pv 3) (pe_op op_add (pe_op op_modN (pv 3) pe_int) pe_int)) (pe_op op_mul (pe_ix ix_list (pv 0) pe_int (fun _ _ => rfl)) pe_int)) pe_int) pe_int) (pv 1)))))), ?_⟩
  refine ⟨_, rfl, b, _, _, _, rfl, rfl, s0, a0 _ _ _, _, _, rfl, rfl, _, rfl, ?_⟩
  refine ite2 (fun d => ?_) (fun d => ?_)
  · refine ⟨_, rfl, b, _, _, _, rfl, rfl, s0, a0 _ _ _, _, rfl, _, _, rfl, rfl, (by omega), ?_⟩
    refine ⟨_, rfl, b, _, _, _, rfl, rfl, s0, a0 _ _ _, _, rfl, _, _, rfl, rfl, ⟨by omega, by omega⟩, ?_⟩
    refine ⟨_, rfl, b, _, _, 0, rfl, rfl, hb, rfl, ?_⟩
    have m := fmod_pos (a := x) (c := c) (by omega)
    exact ⟨_, rfl, q _ _ m.1 m.2 ⟨_, _, _, upd_same, fdiv_pos (by omega) x0, y0, y1, z0, by omega⟩ (but_upd _)⟩
  · refine ⟨_, rfl, b, _, _, _, rfl, rfl, s0, a2 _ _ _, _, _, rfl, rfl, ?_⟩
    refine ⟨_, rfl, b, _, _, 2, rfl, rfl, hb, rfl, ?_⟩
    have hb' : (upd H b (.lst [.int x, .int y, .int (z + 1)])) b = some (.lst [.int x, .int y, .int (z + 1)]) := upd_same
    have s1 : SqL K (upd H b (.lst [.int x, .int y, .int (z + 1)])) b [.int x, .int y, .int (z + 1)] := .inl (.inl hb')
    refine ⟨_, rfl, b, _, _, _, rfl, rfl, s1, a1 _ _ _, _, rfl, b, _, _, _, rfl, rfl, s1, a2 _ _ _, _, _, rfl, rfl, .inl ⟨by decide, by decide⟩, _, _, rfl, rfl, _, _, rfl, rfl, ⟨by decide, by decide, by omega⟩, _, _, rfl, rfl, (fun h => absurd h (by decide)), ?_⟩
    generalize (y + 39373 * (z + 1)) ^ Int.toNat 5 = g
    have m := fmod_pos (a := g) (c := 2147483647) (by decide)
    refine ⟨_, rfl, _, rfl, _, _, rfl, rfl, (fun h => absurd h (by decide)), _, _, rfl, rfl, _, _, rfl, rfl, .inl ⟨by omega, by omega⟩, _, rfl, b, _, _, _, rfl, rfl, s1, a2 _ _ _, _, _, rfl, rfl, .inl ⟨by omega, by omega⟩, _, _, rfl, rfl, _, _, rfl, rfl, (fun h => absurd h (by decide)), _, _, rfl, rfl, ⟨by decide, by decide⟩, _, rfl, _, _, rfl, rfl, (by omega), ?_⟩
    generalize Int.fdiv _ _ = e
    have m2 := fmod_pos (a := e) (c := c) (by omega)
    exact q _ _ m2.1 m2.2 ⟨_, _, _, upd_same, x0, y0, y1, by omega, by omega⟩ (but_upd _)
theorem scPick : FnScope ["_law_box_here", "_law_things"] ["_law_box_here", "_law_things"] (defScope sPick) := ⟨rfl, rfl, rfl, by decide +kernel, rfl, by decide +kernel, by decide +kernel⟩
theorem ok_pick {f fT : Addr} {fd fdT : FuncData} (F : Fun K "_law_pick" "_law_pick" sPick f fd) (FT : Fun K "_law_take" "_law_take" sTake fT fdT) (bT : Binds K fdT ["_law_box_here", "_law_count"] []) (mT : mg "_law_take" = some (.ref fT)) (mLen : mg "len" = none) :
    FnOk P w K mg base CX0 2 f fd ["_law_box_here", "_law_things"] spPick := by
  have GT : FnOk P w K mg base CX0 1 fT fdT ["_law_box_here", "_law_count"] spTake := ok_take FT
  refine F.ok scPick (fun vs H Q E h => ?_) (fun cdv A outer s H vs Q E hr h => ?_)
  · obtain ⟨b, p, xs, j, rfl, _⟩ := h
    rfl
  obtain ⟨b, p, xs, j, rfl, B, hj, hp, ne, l1, l2, q⟩ := h
  refine ⟨_, pss_one (ps_ret (pe_ix ix_list (pv 1) (pe_call GT hr rfl mT FT.kp bT .nil pass0 (pa_cons (pv 0) (pa_cons (pe_callB call_len_seq (by rfl) mLen PySem.boot_len (pa_cons (pv 1) pa_nil)) pa_nil))) (fun _ _ => rfl))), ?_⟩
  refine ⟨_, rfl, _, rfl, _, rfl, p, _, rfl, .inl (.inl (.inl hp)), b, _, j, rfl, B, hj, by omega, by omega, fun r H' r0 r1 B' o => ?_⟩
  have hr' : r.toNat < xs.length := by omega
  refine ⟨p, _, _, _, rfl, rfl, .inl (.inl (o _ _ hp ne)), at_of (j := r.toNat) (v := xs[r.toNat]) (by omega) (List.getElem?_eq_getElem hr'), ?_⟩
  exact q _ _ (List.getElem_mem hr') B' o
end
end Rp

namespace Rp
open PySem L2
def spTree (n : Nat) : Sp := fun vs H Q _ => ∃ (b p : Addr) (ns : List Int) (j : Nat) (room : Int), vs = [.ref b, .int room, .ref p] ∧ BoxAt H b j ∧ j + room.toNat ≤ 1000000 ∧ H p = some (.lst (ns.map V.int)) ∧ p ≠ b ∧ ns.length ≤ 100 ∧ 1 ≤ room ∧ room ≤ (n : Int) ∧
  ∀ (v : V) (t : Tm) (H' : Hp), TmAt H' v t → t.size = room.toNat → (∀ m ∈ t.nums, m ∈ ns) → BoxAt H' b (j + room.toNat) → But b H H' → Q v H'
def spFresh : Sp := fun vs H Q _ => ∃ (b : Addr) (j : Nat), vs = [.ref b] ∧ BoxAt H b j ∧ j + 9 ≤ 1000000 ∧
  ∀ (p : Addr) (ns : List Int) (H' : Hp), H p = none → H' p = some (.lst (ns.map V.int)) → (∀ m ∈ ns, 0 ≤ m ∧ m ≤ 99) → ns.length ≤ 4 → BoxAt H' b (j + 9) → But b H H' → Q (.ref p) H'
def spLeaves (n : Nat) : Sp := fun vs H Q _ => ∃ (v : V) (t : Tm), vs = [v] ∧ TmAt H v t ∧ t.size ≤ 1000 ∧ t.deep < n ∧ ∀ (p : Addr) (H' : Hp), H p = none → H' p = some (.lst t.signs) → Same H H' → Q (.ref p) H'
section
variable {P : Program} {w : World} {K : PySem.W.Frag} {mg : Str → Option Value} {base : Heap}
theorem none_left {k : Nat} {f : Addr} {fd : FuncData} {ps : List Str} {sp : Sp} (no : ∀ vs H Q E, ¬ sp vs H Q E) : FnOk P w K mg base CX0 k f fd ps sp :=
  ⟨fun vs H Q E h => absurd h (no vs H Q E), fun A outer s H args us vs Q E _ _ _ _ h => absurd h (no vs H Q E)⟩
theorem v1_ne {x y : Int} (c : ¬ decide (V.int x = V.int y) = true) : x ≠ y := fun e => c (by rw [e]; simp)
theorem v1_eq {x y : Int} (c : decide (V.int x = V.int y) = true) : x = y := V.int.inj (of_decide_eq_true c)
theorem scTree : FnScope ["_law_box_here", "_law_room", "_law_fresh_here", "_law_left"] ["_law_box_here", "_law_room", "_law_fresh_here"] (defScope sTree) := ⟨rfl, rfl, rfl, by decide +kernel, rfl, by decide +kernel, by decide +kernel⟩
theorem ok_tree {n : Nat} {f fT fP : Addr} {fd fdT fdP : FuncData} (F : Fun K "_law_tree" "_law_tree" sTree f fd) (b3 : Binds K fd ["_law_box_here", "_law_room", "_law_fresh_here"] []) (mTree : mg "_law_tree" = some (.ref f))
    (G : FnOk P w K mg base CX0 (n + 2) f fd ["_law_box_here", "_law_room", "_law_fresh_here"] (spTree n))
    (FT : Fun K "_law_take" "_law_take" sTake fT fdT) (bT : Binds K fdT ["_law_box_here", "_law_count"] []) (mT : mg "_law_take" = some (.ref fT))
    (FP : Fun K "_law_pick" "_law_pick" sPick fP fdP) (bP : Binds K fdP ["_law_box_here", "_law_things"] []) (mP : mg "_law_pick" = some (.ref fP)) (mLen : mg "len" = none) (mList : mg "list" = none) :
    FnOk P w K mg base CX0 (n + 3) f fd ["_law_box_here", "_law_room", "_law_fresh_here"] (spTree (n + 1)) := by
  have GT : FnOk P w K mg base CX0 1 fT fdT ["_law_box_here", "_law_count"] spTake := ok_take FT
  have GP : FnOk P w K mg base CX0 2 fP fdP ["_law_box_here", "_law_things"] spPick := ok_pick FP FT bT mT mLen
  refine F.ok scTree (fun vs H Q E h => ?_) (fun cdv A outer s H vs Q E hr h => ?_)
  · obtain ⟨b, p, ns, j, room, rfl, _⟩ := h
    rfl
  obtain ⟨b, p, ns, j, room, rfl, B, hj, hp, pb, hl, r1, r2, q⟩ := h
  have hr1 : Room 1 _ := hr.mono (by omega)
  have hr2 : Room 2 _ := hr.mono (by omega)
  refine ⟨_, pss_cons (ps_if (pt_cmpR op_eq (pv 1) pe_int (nomark _)) (pss_one (ps_ret (pe_call GP hr2 rfl mP FP.kp bP .nil pass0
        (pa_cons (pv 0) (pa_cons (pe_op op_cat (pe_op op_rep (pe_callTy call_list_of (by rfl) mList (by decide +kernel) (pa_cons (pv 2) pa_nil)) pe_int) (pe_lst (pa_cons (pe_tup (pa_cons pe_str pa_nil)) pa_nil))) pa_nil))))) pss_nil)
    (pss_cons (ps_set (i := 3) scTree.nd rfl (Or.inl rfl) (pe_call GT hr1 rfl mT FT.kp bT .nil pass0 (pa_cons (pv 0) (pa_cons (pe_op op_sub (pv 1) pe_int) pa_nil))))
    (pss_cons (ps_if (pt_cmpR op_eq (pv 3) pe_int (nomark _)) (pss_one (ps_ret (pe_tup (pa_cons pe_str (pa_cons (pe_call G hr rfl mTree F.kp b3 .nil pass0 (pa_cons (pv 0) (pa_cons (pe_op op_sub (pv 1) pe_int) (pa_cons (pv 2) pa_nil)))) pa_nil))))) pss_nil)
    (pss_one (ps_ret (pe_tup (pa_cons pe_str (pa_cons (pe_call G hr rfl mTree F.kp b3 .nil pass0 (pa_cons (pv 0) (pa_cons (pv 3) (pa_cons (pv 2) pa_nil))))
      (pa_cons (pe_call G hr rfl mTree F.kp b3 .nil pass0 (pa_cons (pv 0) (pa_cons (pe_op op_sub (pe_op op_sub (pv 1) pe_int) (pv 3)) (pa_cons (pv 2) pa_nil)))) pa_nil)))))))), ?_⟩
  refine ⟨_, rfl, rfl, _, rfl, ?_⟩
  refine ite2 (fun c => ?_) (fun c => ?_)
  · -- a leaf
    have e1 : room = 1 := v1_eq c
    subst e1
    refine ⟨_, rfl, _, rfl, p, _, rfl, .inl (.inl (.inl hp)), fun l hl1 => ?_⟩
    refine ⟨l, _, _, rfl, rfl, upd_same, by decide, by decide, ?_, fun l2 hl2 => ?_⟩
    · rw [List.length_map]
      show ns.length * 2 ≤ sizeLine
      have : (1000 : Nat) ≤ sizeLine := by decide
      omega
    refine ⟨(by show 1 ≤ sizeLine; decide), fun t ht => ?_⟩
    refine ⟨(by show 1 ≤ sizeLine; decide), fun l3 hl3 => ?_⟩
    have z2 : upd (upd (upd H l (.lst (ns.map V.int))) l2 (.lst (List.replicate (Int.toNat 2) (ns.map V.int)).flatten)) t (.tup [.str "0"]) l2 = some (.lst (List.replicate (Int.toNat 2) (ns.map V.int)).flatten) := by
      rw [upd_ne (ne_of_none upd_same ht)]
      exact upd_same
    have ne3 : l2 ≠ l3 := ne_of_none z2 hl3
    refine ⟨l2, l3, _, _, rfl, rfl, by rw [upd_ne ne3]; exact z2, upd_same, ?_, fun l4 hl4 => ?_⟩
    · have : (1000 : Nat) ≤ sizeLine := by decide
      simp
      omega
    have s1 := same_new hl1 (.lst (ns.map V.int))
    have s2 := same_new hl2 (.lst (List.replicate (Int.toNat 2) (ns.map V.int)).flatten)
    have s3 := same_new ht (.tup [.str "0"])
    have s4 := same_new hl3 (.lst [.ref t])
    have s5 := same_new hl4 (.lst ((List.replicate (Int.toNat 2) (ns.map V.int)).flatten ++ [.ref t]))
    have sA : Same H _ := s1.trans (s2.trans (s3.trans (s4.trans s5)))
    obtain ⟨ys, hb⟩ := B.some
    refine ⟨b, l4, _, j, rfl, B.same sA, by omega, upd_same, ?_, by simp; omega, ?_, fun v H' hv B' o => ?_⟩
    · intro e
      subst e
      exact absurd ((s1.trans (s2.trans (s3.trans s4))) _ _ hb) (by rw [hl4]; intro z; cases z)
    · simp
      omega
    have hz := (s4.trans s5) _ _ (upd_same : upd (upd (upd H l (.lst (ns.map V.int))) l2 (.lst (List.replicate (Int.toNat 2) (ns.map V.int)).flatten)) t (.tup [.str "0"]) t = some (.tup [.str "0"]))
    rcases List.mem_append.mp hv with hv | hv
    · have hv' : v ∈ ns.map V.int := by
        rw [List.mem_flatten] at hv
        obtain ⟨l', h1, h2⟩ := hv
        rw [List.mem_replicate] at h1
        rw [← h1.2]
        exact h2
      obtain ⟨m, hm, rfl⟩ := List.mem_map.mp hv'
      exact q _ (.v m) H' (.v m) rfl (fun k hk => by simp [Tm.nums] at hk; subst hk; exact hm) B' ((but_of sA).trans o)
    · have ev : v = .ref t := by simpa using hv
      subst ev
      exact q _ .z H' (.z (o _ _ hz (ne_of hz (B.same sA).some.choose_spec (by intro z; cases z)))) rfl (fun k hk => by simp [Tm.nums] at hk) B' ((but_of sA).trans o)
  · have n1 : room ≠ 1 := v1_ne c
    refine ⟨_, rfl, _, rfl, _, _, rfl, rfl, b, _, j, rfl, B, by omega, by omega, by omega, fun left H1 l0 l1 B1 o1 => ?_⟩
    have hp1 := o1 _ _ hp pb
    refine ⟨_, rfl, rfl, _, rfl, ?_⟩
    refine ite2 (fun d => ?_) (fun d => ?_)
    · refine ⟨_, rfl, _, rfl, _, _, rfl, rfl, _, rfl, b, p, ns, j + 1, room - 1, rfl, B1, by omega, hp1, pb, hl, by omega, by omega, fun v t H2 T hs hm B2 o2 => ?_⟩
      refine ⟨(by show 2 ≤ sizeLine; decide), fun a ha => ?_⟩
      have sn := same_new ha (.tup [.str "s", v])
      refine q _ (.s t) _ (.s upd_same (T.same sn)) ?_ hm ((B2.same sn).more (by omega)) (o1.trans (o2.trans (but_of sn)))
      show t.size + 1 = _
      omega
    · have n2 : left ≠ 0 := v1_ne d
      refine ⟨_, rfl, _, rfl, _, rfl, b, p, ns, j + 1, left, rfl, B1, by omega, hp1, pb, hl, by omega, by omega, fun v t H2 T hs hm B2 o2 => ?_⟩
      refine ⟨_, rfl, _, rfl, _, _, rfl, rfl, _, rfl, _, _, rfl, rfl, _, rfl, b, p, ns, j + 1 + left.toNat, room - 1 - left, rfl, B2, by omega, o2 _ _ hp1 pb, pb, hl, by omega, by omega, fun v' t' H3 T' hs' hm' B3 o3 => ?_⟩
      refine ⟨(by show 3 ≤ sizeLine; decide), fun a ha => ?_⟩
      have sn := same_new ha (.tup [.str "f", v, v'])
      obtain ⟨ys, hb⟩ := B2.some
      refine q _ (.f t t') _ (.f upd_same ((T.but o3 hb).same sn) (T'.same sn)) ?_ ?_ ((B3.same sn).more (by omega)) (o1.trans (o2.trans (o3.trans (but_of sn))))
      · show t.size + t'.size + 1 = _
        omega
      · intro m h
        rcases List.mem_append.mp h with h | h
        · exact hm m h
        · exact hm' m h
theorem trees_ok {f fT fP : Addr} {fd fdT fdP : FuncData} (F : Fun K "_law_tree" "_law_tree" sTree f fd) (b3 : Binds K fd ["_law_box_here", "_law_room", "_law_fresh_here"] []) (mTree : mg "_law_tree" = some (.ref f))
    (FT : Fun K "_law_take" "_law_take" sTake fT fdT) (bT : Binds K fdT ["_law_box_here", "_law_count"] []) (mT : mg "_law_take" = some (.ref fT))
    (FP : Fun K "_law_pick" "_law_pick" sPick fP fdP) (bP : Binds K fdP ["_law_box_here", "_law_things"] []) (mP : mg "_law_pick" = some (.ref fP)) (mLen : mg "len" = none) (mList : mg "list" = none) :
    ∀ n : Nat, FnOk P w K mg base CX0 (n + 2) f fd ["_law_box_here", "_law_room", "_law_fresh_here"] (spTree n)
  | 0 => none_left fun vs H Q E h => by
    obtain ⟨b, p, ns, j, room, _, _, _, _, _, _, h1, h2, _⟩ := h
    omega
  | n + 1 => ok_tree F b3 mTree (trees_ok F b3 mTree FT bT mT FP bP mP mLen mList n) FT bT mT FP bP mP mLen mList
end
end Rp

namespace Rp
open PySem L2
section
variable {P : Program} {w : World} {K : PySem.W.Frag} {mg : Str → Option Value} {base : Heap}
theorem big1000 : (1000 : Nat) ≤ sizeLine := by decide
theorem scFresh : FnScope ["_law_box_here", "_law_found", "_law_turn", "_law_number"] ["_law_box_here"] (defScope sFresh) := ⟨rfl, rfl, rfl, by decide +kernel, rfl, by decide +kernel, by decide +kernel⟩
theorem ok_fresh {f fT : Addr} {fd fdT : FuncData} (F : Fun K "_law_fresh" "_law_fresh" sFresh f fd) (FT : Fun K "_law_take" "_law_take" sTake fT fdT) (bT : Binds K fdT ["_law_box_here", "_law_count"] []) (mT : mg "_law_take" = some (.ref fT))
    (mRange : mg "range" = none) (mInt : mg "int" = none) : FnOk P w K mg base CX0 2 f fd ["_law_box_here"] spFresh := by
  have GT : FnOk P w K mg base CX0 1 fT fdT ["_law_box_here", "_law_count"] spTake := ok_take FT
  refine F.ok scFresh (fun vs H Q E h => ?_) (fun cdv A outer s H vs Q E hr h => ?_)
  · obtain ⟨b, j, rfl, _⟩ := h
    rfl
  obtain ⟨b, j, rfl, B, hj, q⟩ := h
  refine ⟨_, pss_cons (ps_set (i := 1) scFresh.nd rfl (Or.inl rfl) (pe_lst pa_nil))
    (pss_cons (ps_for PassesOwn.never rfl (pi_range1 rfl mRange (pa_cons (pe_op op_add pe_int (pe_call GT hr rfl mT FT.kp bT .nil pass0 (pa_cons (pv 0) (pa_cons pe_int pa_nil)))) pa_nil)) (pg_name (i := 2) scFresh.nd rfl (Or.inl rfl))
      (pss_cons (ps_set (i := 3) scFresh.nd rfl (Or.inl rfl) (pe_ix ix_list (pe_lst (pa_cons (pv 2) (pa_cons (pe_call GT hr rfl mT FT.kp bT .nil pass0 (pa_cons (pv 0) (pa_cons pe_int pa_nil))) (pa_cons (pe_op op_sub pe_int (pv 2)) pa_nil))))
          (pe_call GT hr rfl mT FT.kp bT .nil pass0 (pa_cons (pv 0) (pa_cons pe_int pa_nil))) (fun _ _ => rfl)))
      (pss_one (ps_set (i := 1) scFresh.nd rfl (Or.inl rfl) (pe_op op_cat (pv 1) (pe_op op_rep (pe_lst (pa_cons (pv 3) pa_nil)) (pe_callTy call_int1 (by rfl) mInt (by decide +kernel) (pa_cons (pe_cmpR op_notIn_seq (pv 3) (pv 1) (by rfl)) pa_nil))))))))
    (pss_one (ps_ret (pv 1)))), ?_⟩
  refine ⟨(by show 0 ≤ sizeLine; decide), fun p0 hp0 => ?_⟩
  have s0 := same_new hp0 (.lst [])
  refine ⟨_, rfl, b, _, j, rfl, B.same s0, by omega, by decide, by decide, fun r H1 r0 r4 B1 o1 => ?_⟩
  obtain ⟨ys, hb⟩ := B.some
  have pb : p0 ≠ b := fun e => by subst e; rw [hb] at hp0; cases hp0
  refine ⟨_, _, rfl, rfl, _, rfl, by omega, by omega, for_range (lo := 0) (n := (1 + r).toNat) (fun i σ H2 => ∃ (p : Addr) (ns : List Int) (tv nv : Option V), σ = [some (.ref b), some (.ref p), tv, nv] ∧ H p = none ∧ p ≠ b ∧ H2 p = some (.lst (ns.map V.int)) ∧
      (∀ m ∈ ns, 0 ≤ m ∧ m ≤ 99) ∧ ns.length ≤ i ∧ BoxAt H2 b (j + 1 + 2 * i) ∧ But b H H2) ⟨p0, [], none, none, rfl, hp0, pb, o1 _ _ upd_same pb, (by simp), Nat.le_refl _, B1, (but_of s0).trans o1⟩ ?_ ?_⟩
  · rintro i σ H2 hi ⟨p, ns, tv, nv, rfl, hpn, pb', hp, hm, hl, B2, o2⟩
    refine ⟨_, rfl, _, rfl, b, _, _, rfl, B2, by omega, by decide, by decide, fun r1 H3 a0 a1 B3 o3 => ?_⟩
    refine ⟨_, rfl, _, _, rfl, rfl, (by show 3 ≤ sizeLine; decide), fun d hd => ?_⟩
    have s4 := same_new hd (.lst [V.int (0 + (i : Int)), V.int r1, V.int (99 - (0 + (i : Int)))])
    refine ⟨_, rfl, b, _, _, rfl, B3.same s4, by omega, by decide, by decide, fun r2 H5 c0 c1 B5 o5 => ?_⟩
    obtain ⟨ys3, hb3⟩ := B3.some
    have db : d ≠ b := fun e => by subst e; rw [hb3] at hd; cases hd
    have hd5 := o5 _ _ upd_same db
    have hp5 := o5 _ _ (s4 _ _ (o3 _ _ hp pb')) pb'
    obtain ⟨num, hat, hnum⟩ : ∃ num : Int, atI [V.int (0 + (i : Int)), V.int r1, V.int (99 - (0 + (i : Int)))] r2 = some (.int num) ∧ 0 ≤ num ∧ num ≤ 99 := by
      rcases (by omega : r2 = 0 ∨ r2 = 1 ∨ r2 = 2) with e | e | e <;> subst e
      · exact ⟨_, at_of (j := 0) rfl rfl, by omega, by omega⟩
      · exact ⟨_, at_of (j := 1) rfl rfl, by omega, by omega⟩
      · exact ⟨_, at_of (j := 2) rfl rfl, by omega, by omega⟩
    refine ⟨d, _, _, _, rfl, rfl, .inl (.inl hd5), hat, ?_⟩
    refine ⟨_, rfl, _, rfl, (by show 1 ≤ sizeLine; decide), fun e he => ?_⟩
    have s6 := same_new he (.lst [V.int num])
    have flat : ∀ l : List Int, (l.map V.int).all flatV = true := fun l => by rw [List.all_map]; exact List.all_eq_true.mpr fun _ _ => rfl
    obtain ⟨k, hk⟩ : ∃ k : Bool, (if true = true then !inV (V.int num) (ns.map V.int) else inV (V.int num) (ns.map V.int)) = k := ⟨_, rfl⟩
    refine ⟨_, rfl, _, rfl, p, _, rfl, .inl (.inl (.inl (s6 _ _ hp5))), rfl, flat ns, .inr ⟨k, congrArg (fun z => [V.bl z]) hk, ?_⟩⟩
    have rep : ∃ ms : List Int, (List.replicate (Int.toNat (if k = true then 1 else 0)) [V.int num]).flatten = ms.map V.int ∧ (∀ m ∈ ms, 0 ≤ m ∧ m ≤ 99) ∧ ms.length ≤ 1 := by
      cases k
      · exact ⟨[], rfl, by simp, by decide⟩
      · exact ⟨[num], rfl, by simpa using hnum, by simp⟩
    obtain ⟨ms, ems, hms, lms⟩ := rep
    refine ⟨e, _, _, rfl, rfl, upd_same, by cases k <;> decide, by cases k <;> decide, ?_, fun e2 he2 => ?_⟩
    · have := big1000
      cases k <;> simp <;> omega
    have hne : p ≠ e2 := ne_of_none (s6 _ _ hp5) he2
    have s7 := same_new he2 (.lst (List.replicate (Int.toNat (if k = true then 1 else 0)) [V.int num]).flatten)
    refine ⟨p, e2, ns.map V.int, ms.map V.int, rfl, rfl, s7 _ _ (s6 _ _ hp5), ?_, ?_, fun l hln => ?_⟩
    · rw [← ems]; exact upd_same
    · rw [List.length_map, List.length_map]; have := big1000; omega
    have s8 := same_new hln (.lst (ns.map V.int ++ ms.map V.int))
    have sz := s6.trans (s7.trans s8)
    have oz : But b H _ := o2.trans (o3.trans ((but_of s4).trans (o5.trans (but_of sz))))
    refine ⟨l, ns ++ ms, _, _, rfl, ?_, ?_, ?_, ?_, ?_, ((B5.same sz).more (by omega)), oz⟩
    · cases z : H l with
      | none => rfl
      | some o =>
        have nlb : l ≠ b := fun e => by
          subst e
          obtain ⟨y5, hb5⟩ := B5.some
          rw [(s6.trans s7) _ _ hb5] at hln
          cases hln
        rw [(o2.trans (o3.trans ((but_of s4).trans (o5.trans (but_of (s6.trans s7)))))) _ _ z nlb] at hln
        cases hln
    · intro e
      subst e
      obtain ⟨y5, hb5⟩ := B5.some
      rw [(s6.trans s7) _ _ hb5] at hln
      cases hln
    · rw [upd_same, List.map_append]
    · intro m h
      rcases List.mem_append.mp h with h | h
      · exact hm m h
      · exact hms m h
    · rw [List.length_append]; omega
  · rintro σ H2 ⟨p, ns, tv, nv, rfl, hpn, pb', hp, hm, hl, B2, o2⟩
    exact ⟨_, rfl, q p ns H2 hpn hp hm (by omega) (B2.more (by omega)) o2⟩
end
end Rp

namespace Rp
open PySem L2
/-- the value of a TERM is an int or a tuple that stands -/
theorem TmAt.ty {K : PySem.W.Frag} {H : Hp} {v : V} {t : Tm} (h : TmAt H v t) : (∃ n, v = .int n ∧ t = .v n) ∨ (∃ a xs, v = .ref a ∧ H a = some (.tup xs) ∧ TyX K H v (.type "tuple") ∧ (∀ n, t ≠ .v n)) := by
  cases h with
  | v n => exact .inl ⟨n, rfl, rfl⟩
  | z h => exact .inr ⟨_, _, rfl, h, .base (.tup h), fun n e => by cases e⟩
  | s h _ => exact .inr ⟨_, _, rfl, h, .base (.tup h), fun n e => by cases e⟩
  | f h _ _ => exact .inr ⟨_, _, rfl, h, .base (.tup h), fun n e => by cases e⟩
def signHead : Tm → Str
  | .v _ => "" | .z => "0" | .s _ => "s" | .f _ _ => "f"
/-- a TERM that is no variable: its tuple, its parts -/
theorem TmAt.tupled {H : Hp} {v : V} {t : Tm} (h : TmAt H v t) (no : ∀ n, t ≠ .v n) : ∃ a ks, v = .ref a ∧ H a = some (.tup (.str (signHead t) :: ks)) ∧ ks.length = t.kids.length ∧ ∀ (i : Nat) (x : V) (k : Tm), ks[i]? = some x → t.kids[i]? = some k → TmAt H x k := by
  cases h with
  | v n => exact absurd rfl (no n)
  | z h => exact ⟨_, [], rfl, h, rfl, fun i x k h => by simp at h⟩
  | @s a x t h q =>
    refine ⟨_, [x], rfl, h, rfl, fun i y k h1 h2 => ?_⟩
    cases i with
    | zero => simp [Tm.kids] at h1 h2; subst h1 h2; exact q
    | succ i => simp at h1
  | @f a x y l r h q q' =>
    refine ⟨_, [x, y], rfl, h, rfl, fun i u k h1 h2 => ?_⟩
    match i with
    | 0 => simp [Tm.kids] at h1 h2; subst h1 h2; exact q
    | 1 => simp [Tm.kids] at h1 h2; subst h1 h2; exact q'
    | i + 2 => simp at h1
theorem signs_kids : ∀ {t : Tm}, (∀ n, t ≠ .v n) → t.signs = .str (signHead t) :: t.kids.flatMap Tm.signs
  | .v n, h => absurd rfl (h n)
  | .z, _ => rfl
  | .s t, _ => by simp [Tm.signs, Tm.kids, signHead]
  | .f l r, _ => by simp [Tm.signs, Tm.kids, signHead]
theorem kid_deep {t k : Tm} (h : k ∈ t.kids) : k.deep < t.deep := by
  cases t with
  | v n => simp [Tm.kids] at h
  | z => simp [Tm.kids] at h
  | s t => simp [Tm.kids] at h; subst h; exact Nat.lt_succ_self _
  | f l r =>
    simp [Tm.kids] at h
    rcases h with h | h <;> subst h <;> (simp only [Tm.deep]; omega)
theorem kid_size {t k : Tm} (h : k ∈ t.kids) : k.size < t.size := by
  cases t with
  | v n => simp [Tm.kids] at h
  | z => simp [Tm.kids] at h
  | s t => simp [Tm.kids] at h; subst h; exact Nat.lt_succ_self _
  | f l r =>
    simp [Tm.kids] at h
    rcases h with h | h <;> subst h <;> (simp only [Tm.size]; omega)
theorem take_flat {t : Tm} (i : Nat) : ((t.kids.take i).flatMap Tm.signs).length ≤ t.size := by
  cases t with
  | v n => simp [Tm.kids]
  | z => simp [Tm.kids]
  | s t =>
    match i with
    | 0 => simp
    | i + 1 => simp [Tm.kids, Tm.signs_len, Tm.size]
  | f l r =>
    match i with
    | 0 => simp
    | 1 => simp [Tm.kids, Tm.signs_len, Tm.size]; try omega
    | i + 2 => simp [Tm.kids, Tm.signs_len, Tm.size]; try omega
theorem cut_tail (x : V) (ks : List V) : cutV (x :: ks) (some 1) none = ks := by
  have e : HT.sIx (x :: ks).length 0 (some 1) = 1 := by
    have := HT.sIx_nat (x :: ks).length 0 1
    rw [List.length_cons] at this ⊢
    rw [show (some 1 : Option Int) = some ((1 : Nat) : Int) from rfl, this]
    omega
  unfold cutV
  rw [e, HT.sIx_none, List.drop_one, List.tail_cons, List.take_of_length_le (by simp)]
theorem cut_part (x : V) (ks : List V) : ¬ (HT.sIx (x :: ks).length 0 (some 1) = 0 ∧ HT.sIx (x :: ks).length (x :: ks).length none = (x :: ks).length) := by
  have := HT.sIx_nat (x :: ks).length 0 1
  rw [List.length_cons] at this ⊢
  rw [show (some 1 : Option Int) = some ((1 : Nat) : Int) from rfl, this]
  omega
section
variable {P : Program} {w : World} {K : PySem.W.Frag} {mg : Str → Option Value} {base : Heap}
theorem kit_ii : PySem.W.kitOne K (.type "int") (.type "int") = some true := kit_ty (by decide +kernel)
theorem kit_ti : PySem.W.kitOne K (.type "tuple") (.type "int") = some false := kit_ty (by decide +kernel)
theorem kit_si : PySem.W.kitOne K (.type "str") (.type "int") = some false := kit_ty (by decide +kernel)
end
end Rp

namespace Rp
open PySem PySem.Spec PyProof.Rows L2
/-- list.extend by any tuple object -/
theorem extend_by (l : Addr) (xs : Array Value) (n : Nat) (b : Addr) (od : Option Addr) (ys : Array Value) (m : Nat) (sl : Array (Option Value)) (short : ¬(!xs.isEmpty && Builtin.List.listTooLong (xs.size + ys.size)) = true) (h1 : xs.size ≤ sizeLine) (h2 : xs.size + ys.size ≤ sizeLine + 1) :
    Meets (Builtin.«list.extend» ⟨[.ref l, .ref b], []⟩) (fun _ R s => s.heap.get? l = some { cls := .type "list", data := .seq xs n } ∧ s.heap.get? b = some ⟨.type "tuple", od, .seq ys m, sl⟩ ∧
      R (.ok (.ret Value.none)) { s with heap := s.heap.update l (Obj.mapSeq fun x => x ++ ys) }) :=
  .of_wp fun prog w A R s ⟨hl, hb, h⟩ => by
    obtain ⟨hp, g, d, tk, os⟩ := s
    have g1 := sub_list_list
    have g2 := sub_tuple_list
    have g3 := sub_tuple_tuple
    have g4 := sub_list_tuple
    have both : (xs ++ ys).size ≤ sizeLine + 1 := by rw [Array.size_append]; exact h2
    wp_walk using (wpAny_updateSeq hl rfl (hz := h1) (_hz' := both)), wpAny_loadPart' hl, wpAny_loadPart' hb
    exact ⟨_, rfl, h⟩
section
variable {X : Cx}
/-- xs.extend(t), t a tuple -/
def rExtT (K : PySem.W.Frag) : V → List V → Hp → VK → Prop := fun x vs H Q => ∃ (l b : Addr) (xs zs : List V), x = .ref l ∧ vs = [.ref b] ∧ H l = some (.lst xs) ∧ SqT K H b zs ∧ xs.length + zs.length ≤ sizeLine ∧ Q .non (upd H l (.lst (xs ++ zs)))
theorem mt_extendT : MtM X "list.extend" (rExtT X.K) := by
  intro pins s σ H x vs v us Q I rx rv h
  obtain ⟨l, b, xs, zs, rfl, rfl, hH, hB, few, q⟩ := h
  cases rx
  obtain ⟨u, rfl, ru⟩ := rv.one
  cases ru
  obtain ⟨z, its, n, r, hl, e⟩ := I.lstM hH
  obtain ⟨its2, r2, ⟨⟨c2, d2, dat2, sl2⟩, e2, hc2, n2, hd2⟩, hz2⟩ := I.tuple hB
  simp only at hc2 hd2
  subst hc2 hd2
  have l1 := r.length
  have l2 := r2.length
  have room : its.toArray.size + its2.toArray.size ≤ sizeLine := by rw [List.size_toArray, List.size_toArray]; omega
  have short : ¬ (!its.toArray.isEmpty && Builtin.List.listTooLong (its.toArray.size + its2.toArray.size)) = true := by
    rw [notLongL room, Bool.and_false]; exact Bool.false_ne_true
  refine call_meets PySem.F.slot_list_extend ⟨_, e, rfl⟩ PySem.F.entry_list_extend (PySem.F.args_list_extend_2 _ _) (extend_by l its.toArray n b d2 its2.toArray n2 sl2 short (by rw [List.size_toArray]; omega) (by omega)) ⟨e, e2, ?_⟩
  refine ⟨.non, _, I.lset (its' := its ++ its2) (t' := s.toks) hH e (by simp) (r.append r2) ?_, rfl, q⟩
  rw [List.length_append]; omega
end
end Rp

namespace Rp
open PySem L2
/-- values and TERMs side by side -/
def AllAt (H : Hp) : List V → List Tm → Prop
  | [], [] => True
  | x :: xs, t :: ts => TmAt H x t ∧ AllAt H xs ts
  | _, _ => False
theorem AllAt.len {H : Hp} : ∀ {xs : List V} {ts : List Tm}, AllAt H xs ts → xs.length = ts.length
  | [], [], _ => rfl
  | x :: xs, t :: ts, h => congrArg (· + 1) (AllAt.len h.2)
theorem AllAt.append {H : Hp} : ∀ {xs ys : List V} {ts us : List Tm}, AllAt H xs ts → AllAt H ys us → AllAt H (xs ++ ys) (ts ++ us)
  | [], _, [], _, _, h => h
  | x :: xs, _, t :: ts, _, h, h' => ⟨h.1, AllAt.append h.2 h'⟩
theorem AllAt.parted {H : Hp} : ∀ {xs ys : List V} {ts : List Tm}, AllAt H (xs ++ ys) ts → ∃ t1 t2, ts = t1 ++ t2 ∧ AllAt H xs t1 ∧ AllAt H ys t2
  | [], _, ts, h => ⟨[], ts, rfl, trivial, h⟩
  | x :: xs, ys, t :: ts, h => by
    obtain ⟨t1, t2, e, h1, h2⟩ := AllAt.parted (xs := xs) h.2
    exact ⟨t :: t1, t2, by rw [e]; rfl, ⟨h.1, h1⟩, h2⟩
theorem AllAt.mono {H H' : Hp} (e : ∀ a xs, H a = some (.tup xs) → H' a = some (.tup xs)) : ∀ {xs : List V} {ts : List Tm}, AllAt H xs ts → AllAt H' xs ts
  | [], [], _ => trivial
  | x :: xs, t :: ts, h => ⟨h.1.mono e, AllAt.mono e h.2⟩
theorem AllAt.back {H : Hp} : ∀ {xs : List V} {ts : List Tm}, AllAt H xs ts → AllAt H xs.reverse ts.reverse
  | [], [], _ => trivial
  | x :: xs, t :: ts, h => by
    rw [List.reverse_cons, List.reverse_cons]
    exact (AllAt.back h.2).append ⟨h.1, trivial⟩
theorem AllAt.get {H : Hp} : ∀ {xs : List V} {ts : List Tm} {i : Nat} {x : V}, AllAt H xs ts → xs[i]? = some x → ∃ t, ts[i]? = some t ∧ TmAt H x t
  | x :: xs, t :: ts, 0, y, h, e => by simp at e; subst e; exact ⟨t, rfl, h.1⟩
  | x :: xs, t :: ts, i + 1, y, h, e => by simpa using AllAt.get h.2 (by simpa using e)
theorem AllAt.of {H : Hp} : ∀ {xs : List V} {ts : List Tm}, xs.length = ts.length → (∀ (i : Nat) (x : V) (k : Tm), xs[i]? = some x → ts[i]? = some k → TmAt H x k) → AllAt H xs ts
  | [], [], _, _ => trivial
  | x :: xs, t :: ts, l, h => ⟨h 0 x t rfl rfl, AllAt.of (by simpa using l) fun i y k a b => h (i + 1) y k (by simpa using a) (by simpa using b)⟩
def spParts : Sp := fun vs H Q _ => ∃ (v : V) (t : Tm), vs = [v] ∧ TmAt H v t ∧ ∀ (p : Addr) (ks : List V) (H' : Hp), H p = none → H' p = some (.tup ks) → AllAt H' ks t.kids → Same H H' → Q (.ref p) H'
def spInside : Sp := fun vs H Q _ => ∃ (v : V) (t : Tm), vs = [v] ∧ TmAt H v t ∧ t.size ≤ 1000 ∧ ∀ (p : Addr) (xs : List V) (H' : Hp), H p = none → H' p = some (.lst xs) → AllAt H' xs t.rpost.reverse → Same H H' → Q (.ref p) H'
def spSize : Sp := fun vs H Q _ => ∃ (v : V) (t : Tm), vs = [v] ∧ TmAt H v t ∧ t.size ≤ 1000 ∧ ∀ H', Same H H' → Q (.int (t.size : Nat)) H'
def spVars : Sp := fun vs H Q _ => ∃ (v : V) (t : Tm), vs = [v] ∧ TmAt H v t ∧ t.size ≤ 60 ∧ ∀ (p : Addr) (ns : List Int) (H' : Hp), H p = none → H' p = some (.lst (ns.map V.int)) → ns.Pairwise (· < ·) → (∀ k, k ∈ ns ↔ k ∈ t.nums) → Same H H' → Q (.ref p) H'
section
variable {P : Program} {w : World} {K : PySem.W.Frag} {mg : Str → Option Value} {base : Heap}
theorem scParts : FnScope ["term"] ["term"] (defScope sParts) := ⟨rfl, rfl, rfl, by decide +kernel, rfl, by decide +kernel, by decide +kernel⟩
theorem ok_parts {f : Addr} {fd : FuncData} (F : Fun K "_parts" "_parts" sParts f fd) (mIsi : mg "isinstance" = none) (mInt : mg "int" = none) : FnOk P w K mg base CX0 1 f fd ["term"] spParts := by
  refine F.ok scParts (fun vs H Q E h => ?_) (fun cdv A outer s H vs Q E hr h => ?_)
  · obtain ⟨v, t, rfl, _⟩ := h
    rfl
  obtain ⟨v, t, rfl, T, q⟩ := h
  refine ⟨_, pss_one (ps_ret (pe_ifExp (pt_val (pe_callB call_isi (by rfl) mIsi (by decide +kernel) (pa_cons (pv 0) (pa_cons (pe_bltn (v := .ty "int") (by rfl) mInt (by decide +kernel) rfl) pa_nil)))) (pe_tup pa_nil) (pe_slice sl_tup (pv 0) (po_some pe_int) po_none))), ?_⟩
  rcases T.ty (K := K) with ⟨m, rfl, rfl⟩ | ⟨a, xs, rfl, ha, ty, no⟩
  · refine ⟨_, rfl, _, _, _, _, true, rfl, .ty "int", .base (.int m), kit_ii, true, rfl, iteT ?_⟩
    exact ⟨(by show 0 ≤ sizeLine; decide), fun p hp => q p [] _ hp upd_same trivial (same_new hp _)⟩
  · obtain ⟨a', ks, e, ha', hk, hks⟩ := T.tupled no
    cases e
    refine ⟨_, rfl, _, _, _, _, false, rfl, .ty "int", ty, kit_ti, false, rfl, iteF ?_⟩
    refine ⟨_, rfl, 1, rfl, a, _, rfl, .inl (.inl ha'), cut_part _ _, fun p hp => ?_⟩
    rw [cut_tail]
    have s1 := same_new hp (.tup ks)
    exact q p ks _ hp upd_same (AllAt.of hk fun i x k a b => (hks i x k a b).same s1) s1
theorem scInside : FnScope ["term", "found", "todo", "part"] ["term"] (defScope sInside) := ⟨rfl, rfl, rfl, by decide +kernel, rfl, by decide +kernel, by decide +kernel⟩
/-- how many parts are still to come -/
def leftOf (n : Nat) (σ : List (Option V)) (H : Hp) : Nat := match σ with
  | _ :: some (V.ref p) :: _ => (match H p with
    | some (HO.lst xs) => n - xs.length
    | _ => 0)
  | _ => 0
theorem leftOf_is {n : Nat} {v : Option V} {p : Addr} {r : List (Option V)} {H : Hp} {xs : List V} (h : H p = some (.lst xs)) : leftOf n (v :: some (.ref p) :: r) H = n - xs.length := by
  unfold leftOf
  simp [h]
theorem ok_inside {f fP : Addr} {fd fdP : FuncData} (F : Fun K "inside_out" "inside_out" sInside f fd) (FP : Fun K "_parts" "_parts" sParts fP fdP) (bP : Binds K fdP ["term"] []) (mP : mg "_parts" = some (.ref fP)) (mIsi : mg "isinstance" = none) (mInt : mg "int" = none) :
    FnOk P w K mg base CX0 2 f fd ["term"] spInside := by
  have GP : FnOk P w K mg base CX0 1 fP fdP ["term"] spParts := ok_parts FP mIsi mInt
  refine F.ok scInside (fun vs H Q E h => ?_) (fun cdv A outer s H vs Q E hr h => ?_)
  · obtain ⟨v, t, rfl, _⟩ := h
    rfl
  obtain ⟨v, t, rfl, T, hz, q⟩ := h
  refine ⟨_, pss_cons (ps_set (i := 1) scInside.nd rfl (Or.inl rfl) (pe_lst pa_nil))
    (pss_cons (ps_set (i := 2) scInside.nd rfl (Or.inl rfl) (pe_lst (pa_cons (pv 0) pa_nil)))
    (pss_cons (ps_while PassesOwn.never (pt_truth (pv 2) (by intro _; rfl))
      (pss_cons (ps_set (i := 3) scInside.nd rfl (Or.inl rfl) (pe_bm0 PySem.F.plainAttrs_list PySem.F.slot_list_pop PySem.F.type_list_pop mt_pop (pv 2)))
      (pss_cons (ps_expr (pe_bm PySem.F.plainAttrs_list PySem.F.slot_list_append PySem.F.type_list_append mt_append (pv 1) (pa_cons (pv 3) pa_nil)))
      (pss_one (ps_expr (pe_bm PySem.F.plainAttrs_list PySem.F.slot_list_extend PySem.F.type_list_extend mt_extendT (pv 2) (pa_cons (pe_call GP hr rfl mP FP.kp bP .nil pass0 (pa_cons (pv 3) pa_nil)) pa_nil)))))))
    (pss_one (ps_ret (pe_revL (pv 1)))))), ?_⟩
  refine ⟨(by show 0 ≤ sizeLine; decide), fun p hp => ?_⟩
  refine ⟨_, rfl, (by show 1 ≤ sizeLine; decide), fun d hd => ?_⟩
  have s1 := same_new hp (.lst [])
  have s2 := same_new hd (.lst [v])
  have s12 : Same H _ := s1.trans s2
  have pd : p ≠ d := ne_of_none upd_same hd
  dsimp only [gName, tSeq]
  refine while_by (fun σ H2 => ∃ (fxs txs : List V) (fs ts : List Tm) (x : Option V), σ = [some v, some (.ref p), some (.ref d), x] ∧ H2 p = some (.lst fxs) ∧ H2 d = some (.lst txs) ∧ AllAt H2 fxs fs ∧ AllAt H2 txs ts ∧ fs ++ ts.reverse.flatMap Tm.rpost = t.rpost ∧ Same H H2)
    (leftOf t.size) ⟨[], [v], [], [t], none, rfl, s2 _ _ upd_same, upd_same, trivial, ⟨T.same s12, trivial⟩, by simp, s12⟩ ?_ (fun σ H Q Q' m ⟨v, hv, k, hk, q⟩ => ⟨v, hv, k, hk, m _ _ q⟩)
  rintro σ H2 ⟨fxs, txs, fs, ts, x, rfl, h1, h2, A1, A2, eq, sH⟩
  refine ⟨_, rfl, !txs.isEmpty, .inl ⟨txs, .inl (.inl h2), rfl⟩, ?_⟩
  have tot := congrArg List.length eq
  rw [List.length_append, Tm.rpost_len, ← A1.len] at tot
  rcases List.eq_nil_or_concat txs with e | ⟨M, y, e⟩
  · subst e
    refine iteF ?_
    have e2 : ts = [] := by have := A2.len; cases ts with | nil => rfl | cons => simp at this
    subst e2
    have e3 : fs = t.rpost := by simpa using eq
    subst e3
    refine ⟨_, rfl, p, _, rfl, .inl (.inl h1), fun r hr2 => ?_⟩
    have s3 := same_new hr2 (.lst fxs.reverse)
    refine q r _ _ (sH.free hr2) upd_same (A1.back.mono fun a xs z => s3 _ _ z) (sH.trans s3)
  · rw [List.concat_eq_append] at e
    subst e
    have ne : (!(M ++ [y]).isEmpty) = true := by simp
    rw [ne]
    refine iteT ?_
    obtain ⟨L, k', e2, AM, Ay⟩ := A2.parted
    subst e2
    obtain ⟨k, rfl, Tk⟩ : ∃ k, k' = [k] ∧ TmAt H2 y k := by
      match k', Ay with
      | [k], Ay => exact ⟨k, rfl, Ay.1⟩
    have ek : fs ++ (k :: (k.kids.reverse.flatMap Tm.rpost ++ L.reverse.flatMap Tm.rpost)) = t.rpost := by
      rw [← eq]
      simp [Tm.rpost_kids k]
    have room : fxs.length < t.size := by
      have := congrArg List.length ek
      rw [List.length_append, Tm.rpost_len, ← A1.len, List.length_cons] at this
      omega
    have big := big1000
    -- part = todo.pop()
    refine ⟨_, rfl, .inl ⟨rfl, _, .inl (.inl h2)⟩, d, _, y, rfl, rfl, h2, by simp, ?_⟩
    rw [List.dropLast_concat]
    have dp : d ≠ p := fun z => pd z.symm
    have t3 : ∀ a xs, H2 a = some (.tup xs) → upd H2 d (.lst M) a = some (.tup xs) := fun a xs z => by rw [upd_ne (ne_of z h2 (by intro z; cases z))]; exact z
    -- found.append(part)
    refine ⟨_, rfl, .inl ⟨rfl, fxs, .inl (.inl (by rw [upd_ne pd]; exact h1))⟩, _, rfl, p, fxs, y, rfl, rfl, (by rw [upd_ne pd]; exact h1), by omega, ?_⟩
    have h1' : (upd (upd H2 d (.lst M)) p (.lst (fxs ++ [y]))) p = some (.lst (fxs ++ [y])) := upd_same
    have h2' : (upd (upd H2 d (.lst M)) p (.lst (fxs ++ [y]))) d = some (.lst M) := by rw [upd_ne dp]; exact upd_same
    have t4 : ∀ a xs, H2 a = some (.tup xs) → (upd (upd H2 d (.lst M)) p (.lst (fxs ++ [y]))) a = some (.tup xs) := fun a xs z => by
      rw [upd_ne (ne_of z h1 (by intro z; cases z))]; exact t3 a xs z
    have pn : H p = none := hp
    have dn : H d = none := s1.free hd
    have sH4 : Same H (upd (upd H2 d (.lst M)) p (.lst (fxs ++ [y]))) := fun b o z => by
      rw [upd_ne (ne_of_none z pn), upd_ne (ne_of_none z dn)]; exact sH b o z
    -- todo.extend(_parts(part))
    refine ⟨_, rfl, .inl ⟨rfl, M, .inl (.inl h2')⟩, _, rfl, y, k, rfl, Tk.mono t4, fun g ks H5 hg h5 A5 s5 => ?_⟩
    have kl := A5.len
    have lim : M.length + ks.length ≤ sizeLine := by
      have a1 := congrArg List.length ek
      have a2 : k.kids.length ≤ 2 := by cases k <;> simp [Tm.kids]
      have a3 : L.length ≤ (L.reverse.flatMap Tm.rpost).length := by
        have : ∀ l : List Tm, l.length ≤ (l.flatMap Tm.rpost).length := by
          intro l
          induction l with
          | nil => simp
          | cons z l ih => rw [List.flatMap_cons, List.length_append, Tm.rpost_len, List.length_cons]; have := Tm.size_pos z; omega
        have := this L.reverse
        rwa [List.length_reverse] at this
      have a4 := AM.len
      rw [List.length_append, List.length_cons, List.length_append, Tm.rpost_len] at a1
      have a5 : (1000 : Nat) + 1000 ≤ sizeLine := by decide
      omega
    refine ⟨d, g, M, ks, rfl, rfl, s5 _ _ h2', .inl (.inl h5), lim, ?_⟩
    have h1'' := s5 _ _ h1'
    have t6 : ∀ a xs, H5 a = some (.tup xs) → upd H5 d (.lst (M ++ ks)) a = some (.tup xs) := fun a xs z => by rw [upd_ne (ne_of z (s5 _ _ h2') (by intro z; cases z))]; exact z
    have t7 : ∀ a xs, H2 a = some (.tup xs) → upd H5 d (.lst (M ++ ks)) a = some (.tup xs) := fun a xs z => t6 a xs (s5 _ _ (t4 a xs z))
    have h1d : (upd H5 d (.lst (M ++ ks))) p = some (.lst (fxs ++ [y])) := by rw [upd_ne pd]; exact h1''
    refine ⟨⟨fxs ++ [y], M ++ ks, fs ++ [k], L ++ k.kids, some y, rfl, h1d, upd_same, (A1.mono t7).append ⟨Tk.mono t7, trivial⟩, (AM.mono t7).append (A5.mono t6), ?_, ?_⟩, ?_⟩
    · rw [← ek]; simp
    · intro b o z
      rw [upd_ne (ne_of_none z dn)]
      exact s5 _ _ (sH4 b o z)
    · show leftOf t.size (some v :: some (.ref p) :: _) _ < leftOf t.size (some v :: some (.ref p) :: _) H2
      rw [leftOf_is h1d, leftOf_is h1, List.length_append, List.length_singleton]
      omega
end
end Rp

namespace Rp
open PySem L2 RZ
/-- [.. for a, b in zip(xs, ys)], both lists or both tuples, as long -/
theorem lc_pairs {J : It} {xs ys : List V} {g : TG} {tt : TT} {te : TE} {vs : List Nat} {σ : L2.St} {H1 : Hp} {D : Addr} {Qd : Hp → Prop} (same : xs.length = ys.length) (Pv : Nat → Hp → Prop)
    (stops : ∀ H, Pv xs.length H → J.stop xs.length H) (goes : ∀ i H, i < xs.length → Pv i H → J.go i H)
    (gives : ∀ i H v H', Pv i H → J.yld i H v H' → ∃ T x y, v = .ref T ∧ xs[i]? = some x ∧ ys[i]? = some y ∧ H T = none ∧ H' = upd H T (.tup [x, y]))
    (h0 : Pv 0 (upd H1 D (.lst [])))
    (hs : ∀ (i : Nat) (x y : V) (T : Addr) (H : Hp), xs[i]? = some x → ys[i]? = some y → Pv i H → H T = none → g (.ref T) (wipe σ vs) (upd H T (.tup [x, y])) fun σ2 H2 => wipe σ2 vs = wipe σ vs ∧
      tt σ2 H2 fun b H3 => if b = true then te σ2 H3 fun y H4 => ∃ acc, H4 D = some (.lst acc) ∧ acc.length < sizeLine ∧ Pv (i + 1) (upd H4 D (.lst (acc ++ [y]))) else Pv (i + 1) H3)
    (hd : ∀ H, Pv xs.length H → Qd H) :
    ∃ W : Nat → Nat → Hp → Prop, (∃ m, W 0 m (upd H1 D (.lst []))) ∧ ∀ i m H, W i m H → (J.stop i H ∧ Qd H) ∨
      (J.go i H ∧ ∃ Nx : Hp → Prop, (∀ H', Nx H' → ∃ m', m' < m ∧ W (i + 1) m' H') ∧ ∀ x H', J.yld i H x H' → g x (wipe σ vs) H' fun σ2 H2 => wipe σ2 vs = wipe σ vs ∧
        tt σ2 H2 fun b H3 => if b = true then te σ2 H3 fun y H4 => ∃ acc, H4 D = some (.lst acc) ∧ acc.length < sizeLine ∧ Nx (upd H4 D (.lst (acc ++ [y]))) else Nx H3) := by
  refine ⟨fun i m H => m + i = xs.length ∧ Pv i H, ⟨xs.length, by simp, h0⟩, ?_⟩
  rintro i m H ⟨em, p⟩
  rcases Nat.lt_or_ge i xs.length with lt | ge
  · refine .inr ⟨goes i H lt p, Pv (i + 1), fun H' p' => ⟨m - 1, by omega, by omega, p'⟩, fun v H' y => ?_⟩
    obtain ⟨T, x, y', rfl, hx, hy, hT, rfl⟩ := gives i H v H' p y
    exact hs i x y' T H hx hy p hT
  · have e : i = xs.length := by omega
    subst e
    exact .inl ⟨stops H p, hd H p⟩
def spSame (n : Nat) : Sp := fun vs H Q _ => ∃ (x y : V) (m : Nat), vs = [x, y] ∧ n = m + 1 ∧ Alike H m x y ∧ ∀ H', Same H H' → Q (.bl true) H'
section
variable {P : Program} {w : World} {K : PySem.W.Frag} {mg : Str → Option Value} {base : Heap}
structure SameG (mg : Str → Option Value) : Prop where
  isi : mg "isinstance" = none
  list : mg "list" = none
  tuple : mg "tuple" = none
  len : mg "len" = none
  all : mg "all" = none
  zip : mg "zip" = none
  str : mg "str" = none
  int : mg "int" = none
  bool : mg "bool" = none
theorem scSame : FnScope ["_law_found", "_law_due", "_law_one", "_law_two"] ["_law_found", "_law_due"] (defScope sSame) := ⟨rfl, rfl, rfl, by decide +kernel, rfl, by decide +kernel, by decide +kernel⟩
theorem kitB_of {K : PySem.W.Frag} {a b : String} {r : Bool} (h : kitB a b = some r) : PySem.W.kitOne K (.type a) (.type b) = some r := h
theorem kit_lt {K : PySem.W.Frag} {a : String} {p r : Bool} (h1 : kitB a "list" = some p) (h2 : kitB a "tuple" = some r) : PySem.W.kitAny K (.type a) [.type "list", .type "tuple"] = some (p || r) := by
  refine kitAny_cons (kitB_of h1) (fun e => ?_) (fun e => by rw [e]; rfl)
  refine kitAny_cons (kitB_of h2) (fun e2 => by rw [e, e2]; exact kitAny_nil) (fun e2 => by rw [e, e2]; rfl)
theorem ok_same {n : Nat} {f : Addr} {fd : FuncData} (F : Fun K "_law_same" "_law_same" sSame f fd) (b2 : Binds K fd ["_law_found", "_law_due"] []) (mF : mg "_law_same" = some (.ref f)) (G : FnOk P w K mg base CX0 n f fd ["_law_found", "_law_due"] (spSame n)) (M : SameG mg) :
    FnOk P w K mg base CX0 (n + 1) f fd ["_law_found", "_law_due"] (spSame (n + 1)) := by
  refine F.ok scSame (fun vs H Q E h => ?_) (fun cdv A outer s H vs Q E hr h => ?_)
  · obtain ⟨x, y, m, rfl, _⟩ := h
    rfl
  obtain ⟨x, y, m, rfl, em, hA, q⟩ := h
  have em : n = m := by omega
  subst em
  refine ⟨_, pss_cons (ps_if (pt_val (pe_callB (id := "isinstance") call_isiT (by rfl) M.isi (by decide +kernel) (pa_cons (pv 1) (pa_cons (pe_tup (pa_cons (pe_bltn (v := .ty "list") (by rfl) M.list (by decide +kernel) rfl) (pa_cons (pe_bltn (v := .ty "tuple") (by rfl) M.tuple (by decide +kernel) rfl) pa_nil))) pa_nil))))
      (pss_cons (ps_if (PW.pt (pw_or (pt_cmpR op_ne
            (pe_callB (id := "isinstance") call_isi (by rfl) M.isi (by decide +kernel) (pa_cons (pv 0) (pa_cons (pe_bltn (v := .ty "list") (by rfl) M.list (by decide +kernel) rfl) pa_nil)))
            (pe_callB (id := "isinstance") call_isi (by rfl) M.isi (by decide +kernel) (pa_cons (pv 1) (pa_cons (pe_bltn (v := .ty "list") (by rfl) M.list (by decide +kernel) rfl) pa_nil))) (nomark _))
          (pw_or1 (pt_cmpR op_ne
            (pe_callB (id := "isinstance") call_isi (by rfl) M.isi (by decide +kernel) (pa_cons (pv 0) (pa_cons (pe_bltn (v := .ty "tuple") (by rfl) M.tuple (by decide +kernel) rfl) pa_nil)))
            (pe_callB (id := "isinstance") call_isi (by rfl) M.isi (by decide +kernel) (pa_cons (pv 1) (pa_cons (pe_bltn (v := .ty "tuple") (by rfl) M.tuple (by decide +kernel) rfl) pa_nil))) (nomark _))))) (pss_one (ps_ret pe_bl)) pss_nil)
      (pss_cons (ps_if (pt_cmpR op_ne (pe_callB call_len_seq (by rfl) M.len PySem.boot_len (pa_cons (pv 0) pa_nil)) (pe_callB call_len_seq (by rfl) M.len PySem.boot_len (pa_cons (pv 1) pa_nil)) (nomark _)) (pss_one (ps_ret pe_bl)) pss_nil)
      (pss_one (ps_ret (pe_callB (cr_all rfl) (by rfl) M.all (by decide +kernel) (pa_cons (pe_lc (own := [("_law_one", 2), ("_law_two", 3)]) (g := gTup K 2 (gCons (gName 2) (gCons (gName 3) gNil))) (tt := tYes) (te := tCall (spSame n) [] E0 (tCons (tVar 2) (tCons (tVar 3) tNil))) rfl scSame.nd
        (pi_zipA (by rfl) M.zip (pa_cons (pv 0) (pa_cons (pv 1) pa_nil))) (blkOk_by (N := ["_law_found", "_law_due", "_law_one", "_law_two"]) (sc := defScope sSame) (by decide +kernel))
        (fun _ _ _ _ _ => pg_tup (by rfl) (pgs_cons (pg_name (i := 2) scSame.nd rfl (Or.inl rfl)) (pgs_cons (pg_name (i := 3) scSame.nd rfl (Or.inl rfl)) pgs_nil)))
        (fun _ _ _ _ _ => pts_nil) (fun _ _ _ _ _ => pe_call G hr (by rfl) mF F.kp b2 .nil pass0 (pa_cons (pv 2) (pa_cons (pv 3) pa_nil)))) pa_nil)))))) pss_nil)
    (pss_cons (ps_if (PW.pt (pw_or (pt_cmpR op_isN (pv 1) pe_non (nomark _)) (pw_or1 (pt_val (pe_callB (id := "isinstance") call_isi (by rfl) M.isi (by decide +kernel) (pa_cons (pv 1) (pa_cons (pe_bltn (v := .ty "str") (by rfl) M.str (by decide +kernel) rfl) pa_nil)))))))
      (pss_one (ps_ret (pe_and (pe_cmpR op_eq (pv 0) (pv 1) (nomark _)) (pe_one (pe_cmpR op_eq
            (pe_callB (id := "isinstance") call_isi (by rfl) M.isi (by decide +kernel) (pa_cons (pv 0) (pa_cons (pe_bltn (v := .ty "str") (by rfl) M.str (by decide +kernel) rfl) pa_nil)))
            (pe_callB (id := "isinstance") call_isi (by rfl) M.isi (by decide +kernel) (pa_cons (pv 1) (pa_cons (pe_bltn (v := .ty "str") (by rfl) M.str (by decide +kernel) rfl) pa_nil))) (nomark _)))))) pss_nil)
    (pss_one (ps_ret (pe_and (pe_callB (id := "isinstance") call_isi (by rfl) M.isi (by decide +kernel) (pa_cons (pv 0) (pa_cons (pe_bltn (v := .ty "int") (by rfl) M.int (by decide +kernel) rfl) pa_nil)))
      (pe_and (pe_cmpR op_eq
            (pe_callB (id := "isinstance") call_isi (by rfl) M.isi (by decide +kernel) (pa_cons (pv 0) (pa_cons (pe_bltn (v := .ty "bool") (by rfl) M.bool (by decide +kernel) rfl) pa_nil)))
            (pe_callB (id := "isinstance") call_isi (by rfl) M.isi (by decide +kernel) (pa_cons (pv 1) (pa_cons (pe_bltn (v := .ty "bool") (by rfl) M.bool (by decide +kernel) rfl) pa_nil))) (nomark _))
        (pe_one (pe_cmpR op_eq (pv 0) (pv 1) (nomark _)))))))), ?_⟩
  refine ⟨_, rfl, (by show 2 ≤ sizeLine; decide), fun p hp => ?_⟩
  have s1 := same_new hp (.tup [V.ty "list", V.ty "tuple"])
  have plain : Plain x ∧ x = y ∨ ∃ m a b xs ys, n = m + 1 ∧ x = .ref a ∧ y = .ref b ∧ ((H a = some (.lst xs) ∧ H b = some (.lst ys)) ∨ (H a = some (.tup xs) ∧ H b = some (.tup ys))) ∧
      xs.length = ys.length ∧ xs.length ≤ 1000000 ∧ ∀ (i : Nat) (u v : V), xs[i]? = some u → ys[i]? = some v → Alike H m u v := by
    cases n with
    | zero => unfold Alike at hA; exact .inl hA
    | succ m =>
      unfold Alike at hA
      rcases hA with h | ⟨a, b, xs, ys, h⟩
      · exact .inl h
      · exact .inr ⟨m, a, b, xs, ys, rfl, h⟩
  rcases plain with ⟨px, rfl⟩ | ⟨m, a, b, xs, ys, rfl, rfl, rfl, kinds, hl, hz, each⟩
  · cases x with
    | int i =>
      refine ⟨_, p, _, _, [.type "list", .type "tuple"], false, rfl, upd_same, .cons (.ty _) (.cons (.ty _) .nil), .base (.int i), kit_lt (p := false) (r := false) (by decide +kernel) (by decide +kernel), false, rfl, iteF ?_⟩
      refine ⟨_, rfl, rfl, false, congrArg V.bl (decide_eq_false (fun z => nomatch z)), iteF ?_⟩
      refine ⟨_, rfl, _, _, _, _, false, rfl, .ty "str", .base (.int i), kitB_of (by decide +kernel), false, rfl, iteF ?_⟩
      refine ⟨_, rfl, _, _, _, _, true, rfl, .ty "int", .base (.int i), kitB_of (by decide +kernel), true, rfl, iteT ?_⟩
      refine ⟨_, rfl, _, _, _, _, false, rfl, .ty "bool", .base (.int i), kitB_of (by decide +kernel), _, rfl, _, _, _, _, false, rfl, .ty "bool", .base (.int i), kitB_of (by decide +kernel), rfl, true, congrArg V.bl (decide_eq_true rfl), iteT ?_⟩
      refine ⟨_, rfl, _, rfl, rfl, ?_⟩
      have e : decide (V.int i = V.int i) = true := decide_eq_true rfl
      rw [e]
      exact q _ s1
    | bl i =>
      refine ⟨_, p, _, _, [.type "list", .type "tuple"], false, rfl, upd_same, .cons (.ty _) (.cons (.ty _) .nil), .base (.bl i), kit_lt (p := false) (r := false) (by decide +kernel) (by decide +kernel), false, rfl, iteF ?_⟩
      refine ⟨_, rfl, rfl, false, congrArg V.bl (decide_eq_false (fun z => nomatch z)), iteF ?_⟩
      refine ⟨_, rfl, _, _, _, _, false, rfl, .ty "str", .base (.bl i), kitB_of (by decide +kernel), false, rfl, iteF ?_⟩
      refine ⟨_, rfl, _, _, _, _, true, rfl, .ty "int", .base (.bl i), kitB_of (by decide +kernel), true, rfl, iteT ?_⟩
      refine ⟨_, rfl, _, _, _, _, true, rfl, .ty "bool", .base (.bl i), kitB_of (by decide +kernel), _, rfl, _, _, _, _, true, rfl, .ty "bool", .base (.bl i), kitB_of (by decide +kernel), rfl, true, congrArg V.bl (decide_eq_true rfl), iteT ?_⟩
      refine ⟨_, rfl, _, rfl, rfl, ?_⟩
      have e : decide (V.bl i = V.bl i) = true := decide_eq_true rfl
      rw [e]
      exact q _ s1
    | str i =>
      refine ⟨_, p, _, _, [.type "list", .type "tuple"], false, rfl, upd_same, .cons (.ty _) (.cons (.ty _) .nil), .base (.str i), kit_lt (p := false) (r := false) (by decide +kernel) (by decide +kernel), false, rfl, iteF ?_⟩
      refine ⟨_, rfl, rfl, false, congrArg V.bl (decide_eq_false (fun z => nomatch z)), iteF ?_⟩
      refine ⟨_, rfl, _, _, _, _, true, rfl, .ty "str", .base (.str i), kitB_of (by decide +kernel), true, rfl, iteT ?_⟩
      refine ⟨_, rfl, _, rfl, rfl, true, congrArg V.bl (decide_eq_true rfl), iteT ?_⟩
      refine ⟨_, rfl, _, _, _, _, true, rfl, .ty "str", .base (.str i), kitB_of (by decide +kernel), _, rfl, _, _, _, _, true, rfl, .ty "str", .base (.str i), kitB_of (by decide +kernel), rfl, ?_⟩
      have e : decide (V.bl true = V.bl true) = true := decide_eq_true rfl
      rw [e]
      exact q _ s1
    | non =>
      refine ⟨_, p, _, _, [.type "list", .type "tuple"], false, rfl, upd_same, .cons (.ty _) (.cons (.ty _) .nil), .base .non, kit_lt (p := false) (r := false) (by decide +kernel) (by decide +kernel), false, rfl, iteF ?_⟩
      refine ⟨_, rfl, rfl, true, congrArg V.bl (decide_eq_true rfl), iteT ?_⟩
      refine iteT ?_
      refine ⟨_, rfl, _, rfl, rfl, true, congrArg V.bl (decide_eq_true rfl), iteT ?_⟩
      refine ⟨_, rfl, _, _, _, _, false, rfl, .ty "str", .base .non, kitB_of (by decide +kernel), _, rfl, _, _, _, _, false, rfl, .ty "str", .base .non, kitB_of (by decide +kernel), rfl, ?_⟩
      have e : decide (V.bl false = V.bl false) = true := decide_eq_true rfl
      rw [e]
      exact q _ s1
    | _ => exact px.elim
  · rcases kinds with ⟨ha, hb⟩ | ⟨ha, hb⟩
    · have ha1 := s1 _ _ ha
      have hb1 := s1 _ _ hb
      refine ⟨_, p, _, _, [.type "list", .type "tuple"], true, rfl, upd_same, .cons (.ty _) (.cons (.ty _) .nil), .base (.lst hb1), kit_lt (p := true) (r := false) (by decide +kernel) (by decide +kernel), true, rfl, iteT ?_⟩
      refine ⟨_, rfl, _, _, _, _, true, rfl, .ty "list", .base (.lst ha1), kitB_of (by decide +kernel), _, rfl, _, _, _, _, true, rfl, .ty "list", .base (.lst hb1), kitB_of (by decide +kernel), rfl, false, congrArg (fun z => V.bl (!z)) (decide_eq_true rfl), iteF ?_⟩
      refine ⟨_, rfl, _, _, _, _, false, rfl, .ty "tuple", .base (.lst ha1), kitB_of (by decide +kernel), _, rfl, _, _, _, _, false, rfl, .ty "tuple", .base (.lst hb1), kitB_of (by decide +kernel), rfl, false, congrArg (fun z => V.bl (!z)) (decide_eq_true rfl), iteF ?_⟩
      refine ⟨_, rfl, a, _, rfl, .inl (.inl (.inl ha1)), _, rfl, b, _, rfl, .inl (.inl (.inl hb1)), rfl, false, congrArg (fun z => V.bl (!z)) (decide_eq_true (by rw [hl])), iteF ?_⟩
      refine ⟨_, rfl, _, rfl, a, b, xs, ys, rfl, .inl ⟨.inl (.inl ha1), .inl (.inl hb1), fun D hD => ?_⟩⟩
      refine lc_pairs (J := Itz K a b) (xs := xs) (ys := ys) hl (fun i H2 => H2 D = some (.lst (List.replicate i (V.bl true))) ∧ Same _ H2)
        (fun H2 h => ⟨xs, ys, .inl (.inl (h.2 _ _ ha1)), .inl (.inl (h.2 _ _ hb1)), .inl (Nat.le_refl _)⟩)
        (fun i H2 lt h => ⟨xs, ys, xs[i], ys[i]'(by omega), .inl (.inl (h.2 _ _ ha1)), .inl (.inl (h.2 _ _ hb1)), List.getElem?_eq_getElem lt, List.getElem?_eq_getElem (by omega)⟩)
        (fun i H2 v H3 h ⟨T, u, v', e1, hT, e2, f1, f2⟩ => ⟨T, u, v', e1, f1 xs (.inl (.inl (h.2 _ _ ha1))), f2 ys (.inl (.inl (h.2 _ _ hb1))), hT, e2⟩)
        ⟨upd_same, same_new hD _⟩ (fun i u v T H2 hu hv h hT => ?_) (fun H2 h => ⟨D, List.replicate xs.length true, rfl, .inl (.inl (by rw [List.map_replicate]; exact h.1)), ?_⟩)
      · have sT := same_new hT (.tup [u, v])
        refine ⟨T, _, rfl, .inl (.inl upd_same), rfl, _, _, rfl, _, _, rfl, rfl, rfl, ?_⟩
        have lt : i < xs.length := (List.getElem?_eq_some_iff.mp hu).1
        refine ⟨_, rfl, _, rfl, u, v, m, rfl, rfl, Alike.mono (s1.trans (h.2.trans sT)) m (each i u v hu hv), fun H4 s4 => ⟨_, s4 _ _ (sT _ _ h.1), ?_, ?_, ?_⟩⟩
        · rw [List.length_replicate]; exact Nat.lt_of_lt_of_le (by omega : i < 1000000) (by decide)
        · rw [upd_same, List.replicate_succ']
        · intro c o z
          have nD : c ≠ D := fun e => by subst e; rw [hD] at z; cases z
          rw [upd_ne nD]
          exact s4 _ _ (sT _ _ (h.2 _ _ z))
      · have e : (List.replicate xs.length true).all id = true := by rw [List.all_eq_true]; intro x hx; rw [List.eq_of_mem_replicate hx]; rfl
        rw [e]
        exact q _ (s1.trans h.2)
    · have ha1 := s1 _ _ ha
      have hb1 := s1 _ _ hb
      refine ⟨_, p, _, _, [.type "list", .type "tuple"], true, rfl, upd_same, .cons (.ty _) (.cons (.ty _) .nil), .base (.tup hb1), kit_lt (p := false) (r := true) (by decide +kernel) (by decide +kernel), true, rfl, iteT ?_⟩
      refine ⟨_, rfl, _, _, _, _, false, rfl, .ty "list", .base (.tup ha1), kitB_of (by decide +kernel), _, rfl, _, _, _, _, false, rfl, .ty "list", .base (.tup hb1), kitB_of (by decide +kernel), rfl, false, congrArg (fun z => V.bl (!z)) (decide_eq_true rfl), iteF ?_⟩
      refine ⟨_, rfl, _, _, _, _, true, rfl, .ty "tuple", .base (.tup ha1), kitB_of (by decide +kernel), _, rfl, _, _, _, _, true, rfl, .ty "tuple", .base (.tup hb1), kitB_of (by decide +kernel), rfl, false, congrArg (fun z => V.bl (!z)) (decide_eq_true rfl), iteF ?_⟩
      refine ⟨_, rfl, a, _, rfl, .inr (.inl (.inl ha1)), _, rfl, b, _, rfl, .inr (.inl (.inl hb1)), rfl, false, congrArg (fun z => V.bl (!z)) (decide_eq_true (by rw [hl])), iteF ?_⟩
      refine ⟨_, rfl, _, rfl, a, b, xs, ys, rfl, .inr ⟨.inl (.inl ha1), .inl (.inl hb1), fun D hD => ?_⟩⟩
      refine lc_pairs (J := ItzT K a b) (xs := xs) (ys := ys) hl (fun i H2 => H2 D = some (.lst (List.replicate i (V.bl true))) ∧ Same _ H2)
        (fun H2 h => ⟨xs, ys, .inl (.inl (h.2 _ _ ha1)), .inl (.inl (h.2 _ _ hb1)), .inl (Nat.le_refl _)⟩)
        (fun i H2 lt h => ⟨xs, ys, xs[i], ys[i]'(by omega), .inl (.inl (h.2 _ _ ha1)), .inl (.inl (h.2 _ _ hb1)), List.getElem?_eq_getElem lt, List.getElem?_eq_getElem (by omega)⟩)
        (fun i H2 v H3 h ⟨T, u, v', e1, hT, e2, f1, f2⟩ => ⟨T, u, v', e1, f1 xs (.inl (.inl (h.2 _ _ ha1))), f2 ys (.inl (.inl (h.2 _ _ hb1))), hT, e2⟩)
        ⟨upd_same, same_new hD _⟩ (fun i u v T H2 hu hv h hT => ?_) (fun H2 h => ⟨D, List.replicate xs.length true, rfl, .inl (.inl (by rw [List.map_replicate]; exact h.1)), ?_⟩)
      · have sT := same_new hT (.tup [u, v])
        refine ⟨T, _, rfl, .inl (.inl upd_same), rfl, _, _, rfl, _, _, rfl, rfl, rfl, ?_⟩
        have lt : i < xs.length := (List.getElem?_eq_some_iff.mp hu).1
        refine ⟨_, rfl, _, rfl, u, v, m, rfl, rfl, Alike.mono (s1.trans (h.2.trans sT)) m (each i u v hu hv), fun H4 s4 => ⟨_, s4 _ _ (sT _ _ h.1), ?_, ?_, ?_⟩⟩
        · rw [List.length_replicate]; exact Nat.lt_of_lt_of_le (by omega : i < 1000000) (by decide)
        · rw [upd_same, List.replicate_succ']
        · intro c o z
          have nD : c ≠ D := fun e => by subst e; rw [hD] at z; cases z
          rw [upd_ne nD]
          exact s4 _ _ (sT _ _ (h.2 _ _ z))
      · have e : (List.replicate xs.length true).all id = true := by rw [List.all_eq_true]; intro x hx; rw [List.eq_of_mem_replicate hx]; rfl
        rw [e]
        exact q _ (s1.trans h.2)
theorem same_ok {f : Addr} {fd : FuncData} (F : Fun K "_law_same" "_law_same" sSame f fd) (b2 : Binds K fd ["_law_found", "_law_due"] []) (mF : mg "_law_same" = some (.ref f)) (M : SameG mg) :
    ∀ n : Nat, FnOk P w K mg base CX0 n f fd ["_law_found", "_law_due"] (spSame n)
  | 0 => none_left fun vs H Q E h => by
    obtain ⟨x, y, m, _, e, _⟩ := h
    omega
  | n + 1 => ok_same F b2 mF (same_ok F b2 mF M n) M
end
end Rp

/-! Data of any depth: what stands as which, and which data are TERMs. -/
namespace Rp
open PySem L2
mutual
/-- the value v stands as the data d; its lists are others than the box b -/
def DAt (H : Hp) (b : Addr) : V → PyData → Prop
  | v, .none => v = .non
  | v, .bool c => v = .bl c
  | v, .int i => v = .int i
  | v, .str x => v = .str x
  | v, .list ds => ∃ (a : Addr) (xs : List V), v = .ref a ∧ a ≠ b ∧ H a = some (.lst xs) ∧ DAtAll H b xs ds
  | v, .tuple ds => ∃ (a : Addr) (xs : List V), v = .ref a ∧ H a = some (.tup xs) ∧ DAtAll H b xs ds
  | _, .dict _ => False
def DAtAll (H : Hp) (b : Addr) : List V → List PyData → Prop
  | xs, [] => xs = []
  | xs, d :: ds => ∃ (x : V) (r : List V), xs = x :: r ∧ DAt H b x d ∧ DAtAll H b r ds
end
mutual
theorem DAt.dp {K : PySem.W.Frag} {H : Hp} {b : Addr} : ∀ (d : PyData) {v : V}, DAt H b v d → Dp K H v d
  | .none, _, h => by unfold DAt at h; subst h; exact .non
  | .bool _, _, h => by unfold DAt at h; subst h; exact .bl _
  | .int _, _, h => by unfold DAt at h; subst h; exact .int _
  | .str _, _, h => by unfold DAt at h; subst h; exact .str _
  | .list ds, _, h => by
    unfold DAt at h
    obtain ⟨a, xs, rfl, _, e, q⟩ := h
    exact .lst (.inl (.inl e)) (DAtAll.dp ds q)
  | .tuple ds, _, h => by
    unfold DAt at h
    obtain ⟨a, xs, rfl, e, q⟩ := h
    exact .tup (.inl (.inl e)) (DAtAll.dp ds q)
  | .dict _, _, h => by unfold DAt at h; exact h.elim
theorem DAtAll.dp {K : PySem.W.Frag} {H : Hp} {b : Addr} : ∀ (ds : List PyData) {xs : List V}, DAtAll H b xs ds → DpAll K H xs ds
  | [], _, h => by unfold DAtAll at h; subst h; exact .nil
  | d :: ds, _, h => by
    unfold DAtAll at h
    obtain ⟨x, r, rfl, q, q'⟩ := h
    exact .cons (DAt.dp d q) (DAtAll.dp ds q')
end
mutual
theorem DAt.mono {H H' : Hp} {b : Addr} (et : ∀ a xs, H a = some (.tup xs) → H' a = some (.tup xs)) (el : ∀ a xs, a ≠ b → H a = some (.lst xs) → H' a = some (.lst xs)) : ∀ (d : PyData) {v : V}, DAt H b v d → DAt H' b v d
  | .none, _, h => by unfold DAt at h ⊢; exact h
  | .bool _, _, h => by unfold DAt at h ⊢; exact h
  | .int _, _, h => by unfold DAt at h ⊢; exact h
  | .str _, _, h => by unfold DAt at h ⊢; exact h
  | .list ds, _, h => by
    unfold DAt at h ⊢
    obtain ⟨a, xs, e, n, q, q'⟩ := h
    exact ⟨a, xs, e, n, el _ _ n q, DAtAll.mono et el ds q'⟩
  | .tuple ds, _, h => by
    unfold DAt at h ⊢
    obtain ⟨a, xs, e, q, q'⟩ := h
    exact ⟨a, xs, e, et _ _ q, DAtAll.mono et el ds q'⟩
  | .dict _, _, h => by unfold DAt at h; exact h.elim
theorem DAtAll.mono {H H' : Hp} {b : Addr} (et : ∀ a xs, H a = some (.tup xs) → H' a = some (.tup xs)) (el : ∀ a xs, a ≠ b → H a = some (.lst xs) → H' a = some (.lst xs)) : ∀ (ds : List PyData) {xs : List V}, DAtAll H b xs ds → DAtAll H' b xs ds
  | [], _, h => by unfold DAtAll at h ⊢; exact h
  | d :: ds, _, h => by
    unfold DAtAll at h ⊢
    obtain ⟨x, r, e, q, q'⟩ := h
    exact ⟨x, r, e, DAt.mono et el d q, DAtAll.mono et el ds q'⟩
end
theorem DAt.same {H H' : Hp} {b : Addr} (e : Same H H') {d : PyData} {v : V} (h : DAt H b v d) : DAt H' b v d := DAt.mono (fun a _ q => e a _ q) (fun a _ _ q => e a _ q) d h
theorem DAt.but {H H' : Hp} {b : Addr} {ys : List V} (e : But b H H') (hb : H b = some (.lst ys)) {d : PyData} {v : V} (h : DAt H b v d) : DAt H' b v d :=
  DAt.mono (fun a _ q => e a _ q (ne_of q hb (by intro z; cases z))) (fun a _ n q => e a _ q n) d h
theorem DAtAll.same {H H' : Hp} {b : Addr} (e : Same H H') {ds : List PyData} {xs : List V} (h : DAtAll H b xs ds) : DAtAll H' b xs ds := DAtAll.mono (fun a _ q => e a _ q) (fun a _ _ q => e a _ q) ds h
theorem DAtAll.but {H H' : Hp} {b : Addr} {ys : List V} (e : But b H H') (hb : H b = some (.lst ys)) {ds : List PyData} {xs : List V} (h : DAtAll H b xs ds) : DAtAll H' b xs ds :=
  DAtAll.mono (fun a _ q => e a _ q (ne_of q hb (by intro z; cases z))) (fun a _ n q => e a _ q n) ds h
theorem DAtAll.nil {H : Hp} {b : Addr} : DAtAll H b [] [] := by unfold DAtAll; rfl
theorem DAtAll.cons {H : Hp} {b : Addr} {x : V} {xs : List V} {d : PyData} {ds : List PyData} (h : DAt H b x d) (h' : DAtAll H b xs ds) : DAtAll H b (x :: xs) (d :: ds) := by unfold DAtAll; exact ⟨x, xs, rfl, h, h'⟩
theorem DAtAll.head {H : Hp} {b : Addr} {x : V} {xs : List V} {ds : List PyData} (h : DAtAll H b (x :: xs) ds) : ∃ d ds', ds = d :: ds' ∧ DAt H b x d ∧ DAtAll H b xs ds' := by
  cases ds with
  | nil => unfold DAtAll at h; cases h
  | cons d ds =>
    unfold DAtAll at h
    obtain ⟨y, r, e, q, q'⟩ := h
    cases e
    exact ⟨d, ds, rfl, q, q'⟩
theorem DAtAll.len {H : Hp} {b : Addr} : ∀ {xs : List V} {ds : List PyData}, DAtAll H b xs ds → xs.length = ds.length
  | xs, [], h => by unfold DAtAll at h; subst h; rfl
  | xs, d :: ds, h => by
    unfold DAtAll at h
    obtain ⟨x, r, rfl, _, q⟩ := h
    rw [List.length_cons, List.length_cons, DAtAll.len q]
theorem DAtAll.append {H : Hp} {b : Addr} : ∀ {xs ys : List V} {ds es : List PyData}, DAtAll H b xs ds → DAtAll H b ys es → DAtAll H b (xs ++ ys) (ds ++ es)
  | xs, ys, [], es, h, h' => by unfold DAtAll at h; subst h; exact h'
  | xs, ys, d :: ds, es, h, h' => by
    unfold DAtAll at h
    obtain ⟨x, r, rfl, q, q'⟩ := h
    exact .cons q (DAtAll.append q' h')
theorem DAtAll.parted {H : Hp} {b : Addr} : ∀ {xs ys : List V} {ds : List PyData}, DAtAll H b (xs ++ ys) ds → ∃ d1 d2, ds = d1 ++ d2 ∧ DAtAll H b xs d1 ∧ DAtAll H b ys d2
  | [], ys, ds, h => ⟨[], ds, rfl, .nil, h⟩
  | x :: xs, ys, ds, h => by
    obtain ⟨d, ds', rfl, q, q'⟩ := DAtAll.head h
    obtain ⟨d1, d2, rfl, h1, h2⟩ := DAtAll.parted q'
    exact ⟨d :: d1, d2, rfl, .cons q h1, h2⟩
theorem DAtAll.take {H : Hp} {b : Addr} : ∀ {xs : List V} {ds : List PyData} (n : Nat), DAtAll H b xs ds → DAtAll H b (xs.take n) (ds.take n)
  | xs, ds, 0, h => by simp; exact .nil
  | [], ds, n + 1, h => by have := h.len; cases ds with | nil => simpa using DAtAll.nil | cons => simp at this
  | x :: xs, ds, n + 1, h => by
    obtain ⟨d, ds', rfl, q, q'⟩ := DAtAll.head h
    exact .cons q (DAtAll.take n q')
theorem DAtAll.drop {H : Hp} {b : Addr} : ∀ {xs : List V} {ds : List PyData} (n : Nat), DAtAll H b xs ds → DAtAll H b (xs.drop n) (ds.drop n)
  | xs, ds, 0, h => by simpa using h
  | [], ds, n + 1, h => by have := h.len; cases ds with | nil => simpa using DAtAll.nil | cons => simp at this
  | x :: xs, ds, n + 1, h => by
    obtain ⟨d, ds', rfl, q, q'⟩ := DAtAll.head h
    simpa using DAtAll.drop n q'
theorem DAtAll.back {H : Hp} {b : Addr} : ∀ {xs : List V} {ds : List PyData}, DAtAll H b xs ds → DAtAll H b xs.reverse ds.reverse
  | [], ds, h => by have := h.len; cases ds with | nil => simpa using DAtAll.nil | cons => simp at this
  | x :: xs, ds, h => by
    obtain ⟨d, ds', rfl, q, q'⟩ := DAtAll.head h
    rw [List.reverse_cons, List.reverse_cons]
    exact (DAtAll.back q').append (.cons q .nil)
theorem DAtAll.get {H : Hp} {b : Addr} : ∀ {xs : List V} {ds : List PyData} {i : Nat} {x : V}, DAtAll H b xs ds → xs[i]? = some x → ∃ d, ds[i]? = some d ∧ DAt H b x d
  | [], ds, i, x, h, e => by simp at e
  | y :: xs, ds, 0, x, h, e => by
    obtain ⟨d, ds', rfl, q, q'⟩ := DAtAll.head h
    simp at e
    subst e
    exact ⟨d, rfl, q⟩
  | y :: xs, ds, i + 1, x, h, e => by
    obtain ⟨d, ds', rfl, q, q'⟩ := DAtAll.head h
    simpa using DAtAll.get q' (by simpa using e)
/-! ### TERMs as data -/
def tmD : Tm → PyData
  | .v n => .int n
  | .z => .tuple [.str "0"]
  | .s t => .tuple [.str "s", tmD t]
  | .f l r => .tuple [.str "f", tmD l, tmD r]
theorem TmAt.dat {H : Hp} {b : Addr} {v : V} {t : Tm} (h : TmAt H v t) : DAt H b v (tmD t) := by
  induction h with
  | v n => unfold tmD DAt; rfl
  | z h => unfold tmD DAt; exact ⟨_, _, rfl, h, .cons (by unfold DAt; rfl) .nil⟩
  | s h _ ih => unfold tmD DAt; exact ⟨_, _, rfl, h, .cons (by unfold DAt; rfl) (.cons ih .nil)⟩
  | f h _ _ ih ih' => unfold tmD DAt; exact ⟨_, _, rfl, h, .cons (by unfold DAt; rfl) (.cons ih (.cons ih' .nil))⟩
theorem DAtAll.nil_of {H : Hp} {b : Addr} {xs : List V} (h : DAtAll H b xs []) : xs = [] := by unfold DAtAll at h; exact h
theorem DAtAll.cons_of {H : Hp} {b : Addr} {xs : List V} {d : PyData} {ds : List PyData} (h : DAtAll H b xs (d :: ds)) : ∃ x r, xs = x :: r ∧ DAt H b x d ∧ DAtAll H b r ds := by unfold DAtAll at h; exact h
theorem DAt.str_of {H : Hp} {b : Addr} {v : V} {x : Str} (h : DAt H b v (.str x)) : v = .str x := by unfold DAt at h; exact h
theorem DAt.int_of {H : Hp} {b : Addr} {v : V} {x : Int} (h : DAt H b v (.int x)) : v = .int x := by unfold DAt at h; exact h
theorem DAt.tup_of {H : Hp} {b : Addr} {v : V} {ds : List PyData} (h : DAt H b v (.tuple ds)) : ∃ (a : Addr) (xs : List V), v = .ref a ∧ H a = some (.tup xs) ∧ DAtAll H b xs ds := by unfold DAt at h; exact h
theorem DAt.lst_of {H : Hp} {b : Addr} {v : V} {ds : List PyData} (h : DAt H b v (.list ds)) : ∃ (a : Addr) (xs : List V), v = .ref a ∧ a ≠ b ∧ H a = some (.lst xs) ∧ DAtAll H b xs ds := by unfold DAt at h; exact h
theorem DAt.tm {H : Hp} {b : Addr} : ∀ (t : Tm) {v : V}, DAt H b v (tmD t) → TmAt H v t
  | .v n, _, h => by rw [DAt.int_of h]; exact .v n
  | .z, _, h => by
    obtain ⟨a, xs, rfl, e, q⟩ := DAt.tup_of h
    obtain ⟨x, r, rfl, q1, q2⟩ := q.cons_of
    cases q1.str_of
    cases q2.nil_of
    exact .z e
  | .s t, _, h => by
    obtain ⟨a, xs, rfl, e, q⟩ := DAt.tup_of h
    obtain ⟨x, r, rfl, q1, q2⟩ := q.cons_of
    obtain ⟨y, r', rfl, q3, q4⟩ := q2.cons_of
    cases q1.str_of
    cases q4.nil_of
    exact .s e (DAt.tm t q3)
  | .f l r, _, h => by
    obtain ⟨a, xs, rfl, e, q⟩ := DAt.tup_of h
    obtain ⟨x, r1, rfl, q1, q2⟩ := q.cons_of
    obtain ⟨y, r2, rfl, q3, q4⟩ := q2.cons_of
    obtain ⟨y', r3, rfl, q5, q6⟩ := q4.cons_of
    cases q1.str_of
    cases q6.nil_of
    exact .f e (DAt.tm l q3) (DAt.tm r q5)
def IsT (d : PyData) : Prop := ∃ t, d = tmD t ∧ ∀ n ∈ t.nums, 0 ≤ n ∧ n ≤ 99
/-- a sign with as many parts as it takes -/
def Shaped (d : PyData) : Prop := ∃ (x : Str) (ds : List PyData), d = .tuple (.str x :: ds) ∧ ((x = "0" ∧ ds.length = 0) ∨ (x = "s" ∧ ds.length = 1) ∨ (x = "f" ∧ ds.length = 2))
theorem isT_shaped {x : Str} {ds : List PyData} (h : (x = "0" ∧ ds.length = 0) ∨ (x = "s" ∧ ds.length = 1) ∨ (x = "f" ∧ ds.length = 2)) : IsT (.tuple (.str x :: ds)) ↔ ∀ d ∈ ds, IsT d := by
  have s0 : ("0" : Str) ≠ "s" := by decide +kernel
  have s1 : ("0" : Str) ≠ "f" := by decide +kernel
  have s2 : ("s" : Str) ≠ "f" := by decide +kernel
  rcases h with ⟨rfl, h⟩ | ⟨rfl, h⟩ | ⟨rfl, h⟩
  · match ds, h with
    | [], _ => exact ⟨fun _ d hd => by simp at hd, fun _ => ⟨.z, rfl, fun n hn => by simp [Tm.nums] at hn⟩⟩
  · match ds, h with
    | [d], _ =>
      constructor
      · rintro ⟨t, e, g⟩ d' hd
        simp at hd
        subst hd
        cases t with
        | s t => unfold tmD at e; injection e with e; injection e with _ e; injection e with e _; exact ⟨t, e, g⟩
        | v n => cases e
        | z => unfold tmD at e; injection e with e; injection e with e _; injection e with e; exact absurd e.symm s0
        | f l r => unfold tmD at e; injection e with e; injection e with e _; injection e with e; exact absurd e s2
      · intro h
        obtain ⟨t, rfl, g⟩ := h d (by simp)
        exact ⟨.s t, rfl, g⟩
  · match ds, h with
    | [d, d'], _ =>
      constructor
      · rintro ⟨t, e, g⟩ d2 hd
        cases t with
        | f l r =>
          unfold tmD at e
          injection e with e
          injection e with _ e
          injection e with e1 e
          injection e with e2 _
          simp at hd
          rcases hd with rfl | rfl
          · exact ⟨l, e1, fun n hn => g n (by simp [Tm.nums, hn])⟩
          · exact ⟨r, e2, fun n hn => g n (by simp [Tm.nums, hn])⟩
        | v n => cases e
        | z => unfold tmD at e; injection e with e; injection e with e _; injection e with e; exact absurd e.symm s1
        | s t => unfold tmD at e; injection e with e; injection e with e _; injection e with e; exact absurd e.symm s2
      · intro h
        obtain ⟨l, rfl, g1⟩ := h d (by simp)
        obtain ⟨r, rfl, g2⟩ := h d' (by simp)
        refine ⟨.f l r, rfl, fun n hn => ?_⟩
        rcases List.mem_append.mp hn with q | q
        · exact g1 n q
        · exact g2 n q
theorem isT_int {n : Int} : IsT (.int n) ↔ 0 ≤ n ∧ n ≤ 99 := by
  constructor
  · rintro ⟨t, e, g⟩
    cases t with
    | v m => unfold tmD at e; injection e with e; subst e; exact g _ (by simp [Tm.nums])
    | z => cases e
    | s t => cases e
    | f l r => cases e
  · intro h
    exact ⟨.v n, rfl, fun m hm => by simp [Tm.nums] at hm; subst hm; exact h⟩
theorem isT_other {d : PyData} (h : ¬ Shaped d) (h' : ∀ n, d ≠ .int n) : ¬ IsT d := by
  rintro ⟨t, rfl, g⟩
  cases t with
  | v n => exact h' n rfl
  | z => exact h ⟨"0", [], rfl, .inl ⟨rfl, rfl⟩⟩
  | s t => exact h ⟨"s", [_], rfl, .inr (.inl ⟨rfl, rfl⟩)⟩
  | f l r => exact h ⟨"f", [_, _], rfl, .inr (.inr ⟨rfl, rfl⟩)⟩
end Rp

namespace Rp
open PySem PySem.Spec PyProof.Rows L2
def tyD : PyData → String
  | .none => "NoneType" | .bool _ => "bool" | .int _ => "int" | .str _ => "str" | .list _ => "list" | .tuple _ => "tuple" | .dict _ => "dict"
theorem DAt.tyx {K : PySem.W.Frag} {H : Hp} {b : Addr} {v : V} {d : PyData} (h : DAt H b v d) : TyX K H v (.type (tyD d)) := by
  cases d with
  | none => unfold DAt at h; subst h; exact .base .non
  | bool c => unfold DAt at h; subst h; exact .base (.bl c)
  | int i => unfold DAt at h; subst h; exact .base (.int i)
  | str x => unfold DAt at h; subst h; exact .base (.str x)
  | list ds => obtain ⟨a, xs, rfl, _, e, _⟩ := h.lst_of; exact .base (.lst e)
  | tuple ds => obtain ⟨a, xs, rfl, e, _⟩ := h.tup_of; exact .base (.tup e)
  | dict ds => unfold DAt at h; exact h.elim
def isI : PyData → Bool | .int _ => true | .bool _ => true | _ => false
def isB : PyData → Bool | .bool _ => true | _ => false
def isS : PyData → Bool | .str _ => true | _ => false
def isU : PyData → Bool | .tuple _ => true | _ => false
def isL : PyData → Bool | .list _ => true | _ => false
def isNum : PyData → Bool | .int _ => true | _ => false
section
variable {K : PySem.W.Frag}
theorem kitI (d : PyData) : PySem.W.kitOne K (.type (tyD d)) (.type "int") = some (isI d) := by cases d <;> exact kit_ty (by simp only [tyD, isI]; decide +kernel)
theorem kitB' (d : PyData) : PySem.W.kitOne K (.type (tyD d)) (.type "bool") = some (isB d) := by cases d <;> exact kit_ty (by simp only [tyD, isB]; decide +kernel)
theorem kitS (d : PyData) : PySem.W.kitOne K (.type (tyD d)) (.type "str") = some (isS d) := by cases d <;> exact kit_ty (by simp only [tyD, isS]; decide +kernel)
theorem kitU (d : PyData) : PySem.W.kitOne K (.type (tyD d)) (.type "tuple") = some (isU d) := by cases d <;> exact kit_ty (by simp only [tyD, isU]; decide +kernel)
theorem kitL (d : PyData) : PySem.W.kitOne K (.type (tyD d)) (.type "list") = some (isL d) := by cases d <;> exact kit_ty (by simp only [tyD, isL]; decide +kernel)
end
def okD (d : PyData) : Prop := d.canLay0 = true ∧ d.depth ≤ 60
theorem okAll {ds : List PyData} (h : PyData.canLayAll0 ds = true) (k : Nat) (hk : PyData.depthAll ds ≤ k) : ∀ d ∈ ds, d.canLay0 = true ∧ d.depth ≤ k := by
  induction ds with
  | nil => intro d hd; simp at hd
  | cons x ds ih =>
    simp only [PyData.canLayAll0, Bool.and_eq_true] at h
    simp only [PyData.depthAll] at hk
    intro d hd
    rcases List.mem_cons.mp hd with rfl | hd
    · exact ⟨h.1, by omega⟩
    · exact ih h.2 (by omega) d hd
theorem okD.tup {ds : List PyData} (h : okD (.tuple ds)) : ∀ d ∈ ds, okD d := fun d hd => by
  have h1 : PyData.canLayAll0 ds = true := by have := h.1; simpa [PyData.canLay0] using this
  have h2 : PyData.depthAll ds + 1 ≤ 60 := by have := h.2; simpa [PyData.depth] using this
  have := okAll h1 59 (by omega) d hd
  exact ⟨this.1, by omega⟩
theorem eqv_str {x : Str} {d : PyData} : PyData.eqv (.str x) d = true ↔ d = .str x := by
  cases d <;> simp [PyData.eqv]
  exact eq_comm
theorem eqv_tup {xs ys : List PyData} : PyData.eqv (.tuple xs) (.tuple ys) = PyData.eqvAll xs ys := by simp only [PyData.eqv]
theorem eqv_int {i j : Int} : PyData.eqv (.int i) (.int j) = (i == j) := by simp only [PyData.eqv]
theorem eqvAll_cons {x y : PyData} {xs ys : List PyData} : PyData.eqvAll (x :: xs) (y :: ys) = (PyData.eqv x y && PyData.eqvAll xs ys) := by simp only [PyData.eqvAll]
theorem eqvAll_nil : PyData.eqvAll [] [] = true := by simp only [PyData.eqvAll]
theorem hu65 {A : Around} {k : Nat} (hr : Room k A) : A.units + 65 < cLine := by have := hr.un; omega
def shapesD : PyData := .tuple [.tuple [.str "0", .int 1], .tuple [.str "s", .int 2], .tuple [.str "f", .int 3]]
def shapesL : List PyData := [.tuple [.str "0", .int 1], .tuple [.str "s", .int 2], .tuple [.str "f", .int 3]]
theorem shapes_any {d0 : PyData} {ds : List PyData} : (shapesL.any fun y => PyData.eqv y (.tuple [d0, .int ((ds.length + 1 : Nat) : Int)])) = true ↔ Shaped (.tuple (d0 :: ds)) := by
  have one : ∀ (x : Str) (n : Int), PyData.eqv (.tuple [.str x, .int n]) (.tuple [d0, .int ((ds.length + 1 : Nat) : Int)]) = true ↔ d0 = .str x ∧ n = ((ds.length + 1 : Nat) : Int) := by
    intro x n
    rw [eqv_tup, eqvAll_cons, eqvAll_cons, eqvAll_nil, eqv_int]
    simp only [Bool.and_true, Bool.and_eq_true, eqv_str, beq_iff_eq]
  simp only [shapesL, List.any_cons, List.any_nil, Bool.or_false, Bool.or_eq_true, one]
  constructor
  · rintro (⟨rfl, e⟩ | ⟨rfl, e⟩ | ⟨rfl, e⟩)
    · exact ⟨"0", ds, rfl, .inl ⟨rfl, by omega⟩⟩
    · exact ⟨"s", ds, rfl, .inr (.inl ⟨rfl, by omega⟩)⟩
    · exact ⟨"f", ds, rfl, .inr (.inr ⟨rfl, by omega⟩)⟩
  · rintro ⟨x, ds', e, h⟩
    injection e with e
    injection e with e1 e2
    subst e1 e2
    rcases h with ⟨rfl, h⟩ | ⟨rfl, h⟩ | ⟨rfl, h⟩
    · exact .inl ⟨rfl, by omega⟩
    · exact .inr (.inl ⟨rfl, by omega⟩)
    · exact .inr (.inr ⟨rfl, by omega⟩)
/-- x in t, t a tuple of data of any depth -/
def rInT (K : PySem.W.Frag) : R2 := fun x y H Q => ∃ (d : PyData) (ds : List PyData), Dp K H x d ∧ Dp K H y (.tuple ds) ∧ SeqAt.shaped d = true ∧ SeqAt.shaped (.tuple ds) = true ∧ Q (.bl (ds.any fun y => PyData.eqv y d)) H
section
variable {X : Cx}
theorem op_inT (hu : X.A.units + 65 < cLine) : OpR X (compareOp .In) (rInT X.K) := by
  intro pins s σ H x y v u Q I rx ry h
  obtain ⟨d, ds, hd, he, sd, se, q⟩ := h
  obtain ⟨as, r1⟩ := Dp.reads I d x v hd rx
  obtain ⟨bs, r2⟩ := Dp.reads I (.tuple ds) y u he ry
  exact SeqAt.in_tuple_reads r2 r1 (SeqAt.canLay_of_shaped se) (SeqAt.canLay_of_shaped sd) (room_in_shaped sd hu) ⟨.bl _, H, I, rfl, q⟩
end
theorem shaped_of {d : PyData} (h : d.canLay0 = true) (h' : d.depth ≤ 64) : SeqAt.shaped d = true := by
  show (d.canLay0 && decide (d.depth ≤ 64)) = true
  rw [h, decide_eq_true h']
  rfl
def spNumber : Sp := fun vs H Q _ => ∃ (b : Addr) (v : V) (d : PyData), vs = [v] ∧ DAt H b v d ∧ Q (.bl (isNum d)) H
def isVar : PyData → Bool | .int n => decide (0 ≤ n) && decide (n ≤ 99) | _ => false
def spVariable : Sp := fun vs H Q _ => ∃ (b : Addr) (v : V) (d : PyData), vs = [v] ∧ DAt H b v d ∧ Q (.bl (isVar d)) H
def spShape : Sp := fun vs H Q _ => ∃ (b : Addr) (v : V) (d : PyData), vs = [v] ∧ DAt H b v d ∧ okD d ∧ ∀ (r : Bool) (H' : Hp), (r = true ↔ Shaped d) → Same H H' → Q (.bl r) H'
section
variable {P : Program} {w : World} {K : PySem.W.Frag} {mg : Str → Option Value} {base : Heap}
theorem scNumber : FnScope ["thing"] ["thing"] (defScope sNumber) := ⟨rfl, rfl, rfl, by decide +kernel, rfl, by decide +kernel, by decide +kernel⟩
theorem ok_number {f : Addr} {fd : FuncData} (F : Fun K "is_number" "is_number" sNumber f fd) (M : SameG mg) : FnOk P w K mg base CX0 1 f fd ["thing"] spNumber := by
  refine F.ok scNumber (fun vs H Q E h => ?_) (fun cdv A outer s H vs Q E hr h => ?_)
  · obtain ⟨b, v, d, rfl, _⟩ := h
    rfl
  obtain ⟨b, v, d, rfl, D, q⟩ := h
  refine ⟨_, pss_one (ps_ret (pe_and (pe_callB (id := "isinstance") call_isi (by rfl) M.isi (by decide +kernel) (pa_cons (pv 0) (pa_cons (pe_bltn (v := .ty "int") (by rfl) M.int (by decide +kernel) rfl) pa_nil)))
    (pe_one (pe_not (pe_callB (id := "isinstance") call_isi (by rfl) M.isi (by decide +kernel) (pa_cons (pv 0) (pa_cons (pe_bltn (v := .ty "bool") (by rfl) M.bool (by decide +kernel) rfl) pa_nil))))))), ?_⟩
  refine ⟨_, rfl, _, _, _, _, isI d, rfl, .ty "int", D.tyx, kitI d, isI d, rfl, ?_⟩
  have second : (fun (σ : L2.St) => isI d = true → isB d = !(isNum d)) [] := by cases d <;> simp [isI, isB, isNum]
  have first : isI d = false → isNum d = false := by cases d <;> simp [isI, isNum]
  cases e : isI d with
  | false => exact iteF (by have z := first e; rw [z] at q; exact q)
  | true =>
    refine iteT ⟨_, rfl, _, _, _, _, isB d, rfl, .ty "bool", D.tyx, kitB' d, isB d, rfl, ?_⟩
    have z := second e
    rw [z]
    simpa using q
theorem scVariable : FnScope ["thing"] ["thing"] (defScope sVariable) := ⟨rfl, rfl, rfl, by decide +kernel, rfl, by decide +kernel, by decide +kernel⟩
theorem ok_variable {f fN : Addr} {fd fdN : FuncData} {tk : Tok} (F : Fun K "is_variable" "is_variable" sVariable f fd) (GN : FnOk P w K mg base CX0 1 fN fdN ["thing"] spNumber) (kN : PySem.W.keepIn K (.ref fN) = true) (bN : Binds K fdN ["thing"] []) (mN : mg "is_number" = some (.ref fN))
    (mLast : mg "LAST_VARIABLE" = some (.int 99 tk)) : FnOk P w K mg base CX0 2 f fd ["thing"] spVariable := by
  refine F.ok scVariable (fun vs H Q E h => ?_) (fun cdv A outer s H vs Q E hr h => ?_)
  · obtain ⟨b, v, d, rfl, _⟩ := h
    rfl
  obtain ⟨b, v, d, rfl, D, q⟩ := h
  refine ⟨_, pss_one (ps_ret (pe_and (pe_call GN hr rfl mN kN bN .nil pass0 (pa_cons (pv 0) pa_nil)) (pe_one (pe_chain op_le op_le pe_int (pv 0) (pe_glob (v := .int 99) rfl mLast ⟨_, rfl⟩))))), ?_⟩
  refine ⟨_, rfl, b, v, d, rfl, D, isNum d, rfl, ?_⟩
  cases d with
  | int n =>
    have ev := D.int_of
    subst ev
    refine iteT ⟨_, rfl, _, _, rfl, rfl, decide (0 ≤ n), rfl, ?_⟩
    cases e : decide (0 ≤ n) with
    | false => exact iteF (by simpa [isVar, e] using q)
    | true => exact iteT ⟨_, _, rfl, rfl, by simpa [isVar, e] using q⟩
  | _ => exact iteF q
theorem scShape : FnScope ["thing"] ["thing"] (defScope sShape) := ⟨rfl, rfl, rfl, by decide +kernel, rfl, by decide +kernel, by decide +kernel⟩
theorem ok_shape {f aS : Addr} {fd : FuncData} (F : Fun K "_has_shape" "_has_shape" sShape f fd) (M : SameG mg) (mS : mg "SHAPES" = some (.ref aS)) (hS : ∀ H, Dp K H (.ref aS) shapesD) : FnOk P w K mg base CX0 1 f fd ["thing"] spShape := by
  refine F.ok scShape (fun vs H Q E h => ?_) (fun cdv A outer s H vs Q E hr h => ?_)
  · obtain ⟨b, v, d, rfl, _⟩ := h
    rfl
  obtain ⟨b, v, d, rfl, D, ok, q⟩ := h
  refine ⟨_, pss_cons (ps_if (PW.pt (pw_or (pt_not (pt_val (pe_callB (id := "isinstance") call_isi (by rfl) M.isi (by decide +kernel) (pa_cons (pv 0) (pa_cons (pe_bltn (v := .ty "tuple") (by rfl) M.tuple (by decide +kernel) rfl) pa_nil)))))
      (pw_or1 (pt_not (pt_truth (pv 0) (by intro _; rfl)))))) (pss_one (ps_ret pe_bl)) pss_nil)
    (pss_one (ps_ret (pe_cmpR (op_inT (hu65 hr)) (pe_tup (pa_cons (pe_ix ix_tup (pv 0) pe_int (fun _ _ => rfl)) (pa_cons (pe_callB call_len_seq (by rfl) M.len PySem.boot_len (pa_cons (pv 0) pa_nil)) pa_nil))) (pe_glob (v := .ref aS) rfl mS rfl) (by rfl)))), ?_⟩
  refine ⟨_, rfl, _, _, _, _, isU d, rfl, .ty "tuple", D.tyx, kitU d, isU d, rfl, ?_⟩
  cases d with
  | tuple ds =>
    obtain ⟨a, xs, rfl, ha, A'⟩ := D.tup_of
    refine iteF ⟨_, rfl, !xs.isEmpty, .inr (.inl ⟨xs, .inl (.inl ha), rfl⟩), ?_⟩
    cases xs with
    | nil =>
      refine iteT (q false H ⟨(fun e => nomatch e), ?_⟩ (Same.refl H))
      rintro ⟨x, ds', e, _⟩
      injection e with e
      subst e
      have := A'.len
      simp at this
    | cons x0 xr =>
      obtain ⟨d0, dr, rfl, D0, Dr⟩ := A'.head
      have el := Dr.len
      refine iteF ⟨_, rfl, a, _, _, _, rfl, rfl, .inl (.inl ha), at_of (j := 0) rfl rfl, _, rfl, a, _, rfl, .inr (.inl (.inl ha)), (by show 2 ≤ sizeLine; decide), fun p hp => ?_⟩
      have s1 := same_new hp (.tup [x0, .int (((x0 :: xr).length : Nat) : Int)])
      have o0 := ok.tup d0 (by simp)
      refine ⟨.tuple [d0, .int ((dr.length + 1 : Nat) : Int)], shapesL, .tup (.inl (.inl upd_same)) (.cons (D0.same s1).dp (.cons ?_ .nil)), hS _, ?_, by decide +kernel, ?_⟩
      · rw [List.length_cons, el]; exact .int _
      · refine shaped_of ?_ ?_
        · simp [PyData.canLay0, PyData.canLayAll0, o0.1]
        · have := o0.2
          simp only [PyData.depth, PyData.depthAll]
          omega
      · exact q _ _ shapes_any s1
  | _ => exact iteT (q false H ⟨(fun e => nomatch e), (fun ⟨x, ds', e, _⟩ => nomatch e)⟩ (Same.refl H))
end
end Rp

/-! Data of small ints and a few short texts: how large they are, what is said of them. -/
namespace Rp
open PySem PySem.Spec PyProof.Rows L2
def okText (x : Str) : Prop := x = "" ∨ x = "0" ∨ x = "s" ∨ x = "f" ∨ x = "x" ∨ x = "g" ∨ x = "x0"
mutual
def fine (U : List Int) : PyData → Prop
  | .none => True | .bool _ => True | .int i => i ∈ U | .str x => okText x | .list ds => fineAll U ds | .tuple ds => fineAll U ds | .dict _ => False
def fineAll (U : List Int) : List PyData → Prop
  | [] => True
  | d :: ds => fine U d ∧ fineAll U ds
end
mutual
def nd : PyData → Nat
  | .list ds => ndAll ds + 1 | .tuple ds => ndAll ds + 1 | _ => 1
def ndAll : List PyData → Nat
  | [] => 0
  | d :: ds => nd d + ndAll ds
end
theorem nd_pos (d : PyData) : 1 ≤ nd d := by cases d <;> simp [nd]
theorem ndAll_append : ∀ a b : List PyData, ndAll (a ++ b) = ndAll a + ndAll b
  | [], b => by simp [ndAll]
  | x :: a, b => by simp only [List.cons_append, ndAll, ndAll_append a b]; omega
theorem ndAll_mem : ∀ {ds : List PyData} {d : PyData}, d ∈ ds → nd d ≤ ndAll ds
  | x :: ds, d, h => by
    simp only [ndAll]
    rcases List.mem_cons.mp h with rfl | h
    · omega
    · have := ndAll_mem h; omega
theorem ndAll_len : ∀ ds : List PyData, ds.length ≤ ndAll ds
  | [] => Nat.le_refl _
  | d :: ds => by have := ndAll_len ds; have := nd_pos d; simp only [ndAll, List.length_cons]; omega
theorem fineAll_iff {U : List Int} : ∀ {ds : List PyData}, fineAll U ds ↔ ∀ d ∈ ds, fine U d
  | [] => by simp [fineAll]
  | d :: ds => by simp only [fineAll, fineAll_iff (ds := ds), List.forall_mem_cons]
theorem depthAll_iff {k : Nat} : ∀ {ds : List PyData}, PyData.depthAll ds ≤ k ↔ ∀ d ∈ ds, d.depth ≤ k
  | [] => by simp [PyData.depthAll]
  | d :: ds => by simp only [PyData.depthAll, List.forall_mem_cons, ← depthAll_iff (ds := ds)]; omega
theorem okText_lay {x : Str} (h : okText x) : PyData.canLay0 (.str x) = true ∧ x.cps.size ≤ 2 := by
  rcases h with rfl | rfl | rfl | rfl | rfl | rfl | rfl <;> exact ⟨by decide +kernel, by decide +kernel⟩
/-- the few ints of a row of data -/
structure Few (U : List Int) : Prop where
  le : ∀ i ∈ U, -1 ≤ i ∧ i ≤ 100
  len : U.length ≤ 200
mutual
theorem fine_lay {U : List Int} (hU : Few U) : ∀ d : PyData, fine U d → d.canLay0 = true ∧ d.showable = true ∧ d.intsShort 13 = true ∧ d.hasDict = false ∧ d.weight + 1 ≤ 110 * nd d
  | .none, _ => ⟨rfl, rfl, rfl, rfl, by decide⟩
  | .bool b, _ => ⟨rfl, rfl, rfl, rfl, by simp [PyData.weight, nd]⟩
  | .int i, h => by
    have h : -1 ≤ i ∧ i ≤ 100 := hU.le i h
    have a : i.natAbs ≤ 100 := by omega
    have b := Nat.log2_le_self i.natAbs
    refine ⟨rfl, ?_, ?_, rfl, ?_⟩
    · simp only [PyData.showable, decide_eq_true_eq]; omega
    · simp only [PyData.intsShort, decide_eq_true_eq]; exact PyData.shown_int_le (by omega)
    · simp only [PyData.weight, nd]; split <;> omega
  | .str x, h => by
    have z := okText_lay h
    refine ⟨z.1, rfl, rfl, rfl, ?_⟩
    simp only [PyData.weight, nd]
    omega
  | .list ds, h => by
    have z := fine_layAll hU ds h
    simp only [PyData.canLay0, PyData.showable, PyData.intsShort, PyData.hasDict, PyData.weight, nd]
    refine ⟨z.1, z.2.1, z.2.2.1, z.2.2.2.1, by omega⟩
  | .tuple ds, h => by
    have z := fine_layAll hU ds h
    simp only [PyData.canLay0, PyData.showable, PyData.intsShort, PyData.hasDict, PyData.weight, nd]
    refine ⟨z.1, z.2.1, z.2.2.1, z.2.2.2.1, by omega⟩
  | .dict _, h => h.elim
theorem fine_layAll {U : List Int} (hU : Few U) : ∀ ds : List PyData, fineAll U ds → PyData.canLayAll0 ds = true ∧ PyData.showableAll ds = true ∧ PyData.intsShortAll 13 ds = true ∧ PyData.hasDictAll ds = false ∧ PyData.weightAll ds ≤ 110 * ndAll ds
  | [], _ => ⟨rfl, rfl, rfl, rfl, by decide⟩
  | d :: ds, h => by
    have h : fine U d ∧ fineAll U ds := h
    have a := fine_lay hU d h.1
    have b := fine_layAll hU ds h.2
    simp only [PyData.canLayAll0, PyData.showableAll, PyData.intsShortAll, PyData.hasDictAll, PyData.weightAll, ndAll, Bool.and_eq_true, Bool.or_eq_false_iff]
    exact ⟨⟨a.1, b.1⟩, ⟨a.2.1, b.2.1⟩, ⟨a.2.2.1, b.2.2.1⟩, ⟨a.2.2.2.1, b.2.2.2.1⟩, by omega⟩
end
/-- fine, of at most n nodes, at most k deep -/
structure Good (U : List Int) (n k : Nat) (d : PyData) : Prop where
  fine : fine U d
  nd : nd d ≤ n
  dp : d.depth ≤ k
theorem Good.more {U : List Int} {n k n' k' : Nat} {d : PyData} (h : Good U n k d) (hn : n ≤ n') (hk : k ≤ k') : Good U n' k' d := ⟨h.fine, by have := h.nd; omega, by have := h.dp; omega⟩
theorem Good.ok {U : List Int} (hU : Few U) {n k : Nat} {d : PyData} (h : Good U n k d) (hk : k ≤ 60) : okD d := ⟨(fine_lay hU d h.fine).1, by have := h.dp; omega⟩
theorem Good.shown {U : List Int} (hU : Few U) {n k : Nat} {d : PyData} (h : Good U n k d) (hn : n ≤ 9000) (hk : k ≤ 60) : d.showable = true ∧ d.hasDict = false ∧ d.depth ≤ 64 ∧ d.shown.length ≤ 15728653 := by
  obtain ⟨h1, h2, h3, h4, h5⟩ := fine_lay hU d h.fine
  have n1 := h.nd
  have k1 := h.dp
  refine ⟨h2, h4, by omega, shown_le13 ?_ h3⟩
  unfold PyData.layable0
  rw [h1, decide_eq_true (by omega : d.depth ≤ 64), decide_eq_true (by omega : d.weight ≤ 2 ^ 20)]
  rfl
theorem Good.tup {U : List Int} {n k : Nat} {ds : List PyData} (h : Good U n k (.tuple ds)) : (∀ d ∈ ds, Rp.fine U d) ∧ ndAll ds + 1 ≤ n ∧ ∀ d ∈ ds, d.depth + 1 ≤ k := by
  refine ⟨fineAll_iff.mp h.fine, by simpa [Rp.nd] using h.nd, fun d hd => ?_⟩
  have k1 : PyData.depthAll ds + 1 ≤ k := by simpa [PyData.depth] using h.dp
  have := depthAll_iff.mp (Nat.le_refl (PyData.depthAll ds)) d hd
  omega
theorem Good.lst {U : List Int} {n k : Nat} {ds : List PyData} (h : Good U n k (.list ds)) : (∀ d ∈ ds, Rp.fine U d) ∧ ndAll ds + 1 ≤ n ∧ ∀ d ∈ ds, d.depth + 1 ≤ k := by
  refine ⟨fineAll_iff.mp h.fine, by simpa [Rp.nd] using h.nd, fun d hd => ?_⟩
  have k1 : PyData.depthAll ds + 1 ≤ k := by simpa [PyData.depth] using h.dp
  have := depthAll_iff.mp (Nat.le_refl (PyData.depthAll ds)) d hd
  omega
theorem good_lst {U : List Int} {n k : Nat} {ds : List PyData} (h : ∀ d ∈ ds, fine U d) (hn : ndAll ds + 1 ≤ n) (hk : ∀ d ∈ ds, d.depth + 1 ≤ k) (k1 : 1 ≤ k) : Good U n k (.list ds) := by
  refine ⟨fineAll_iff.mpr h, by simpa [Rp.nd] using hn, ?_⟩
  have : PyData.depthAll ds ≤ k - 1 := depthAll_iff.mpr fun d hd => by have := hk d hd; omega
  simp only [PyData.depth]
  omega
theorem good_tup {U : List Int} {n k : Nat} {ds : List PyData} (h : ∀ d ∈ ds, fine U d) (hn : ndAll ds + 1 ≤ n) (hk : ∀ d ∈ ds, d.depth + 1 ≤ k) (k1 : 1 ≤ k) : Good U n k (.tuple ds) := by
  refine ⟨fineAll_iff.mpr h, by simpa [Rp.nd] using hn, ?_⟩
  have : PyData.depthAll ds ≤ k - 1 := depthAll_iff.mpr fun d hd => by have := hk d hd; omega
  simp only [PyData.depth]
  omega
/-- a TERM's data are good -/
theorem tm_good {U : List Int} : ∀ t : Tm, (∀ n ∈ t.nums, n ∈ U) → Good U (2 * t.size) (t.deep + 1) (tmD t)
  | .v n, h => ⟨h n (by simp [Tm.nums]), by simp [tmD, Rp.nd, Tm.size], by simp [tmD, PyData.depth]⟩
  | .z, _ => ⟨⟨.inr (.inl rfl), trivial⟩, by simp [tmD, Rp.nd, ndAll, Tm.size], by simp [tmD, PyData.depth, PyData.depthAll]⟩
  | .s t, h => by
    have g := tm_good t h
    have h1 := g.nd
    have h2 := g.dp
    unfold tmD
    refine good_tup (fun d hd => ?_) ?_ (fun d hd => ?_) (by omega)
    · simp at hd; rcases hd with rfl | rfl
      · exact .inr (.inr (.inl rfl))
      · exact g.fine
    · simp only [ndAll, Rp.nd, Tm.size]; omega
    · simp at hd; rcases hd with rfl | rfl
      · simp [PyData.depth, Tm.deep]
      · simp only [Tm.deep]; omega
  | .f l r, h => by
    have g := tm_good l fun n hn => h n (by simp [Tm.nums, hn])
    have g' := tm_good r fun n hn => h n (by simp [Tm.nums, hn])
    have h1 := g.nd
    have h2 := g.dp
    have h3 := g'.nd
    have h4 := g'.dp
    unfold tmD
    refine good_tup (fun d hd => ?_) ?_ (fun d hd => ?_) (by omega)
    · simp at hd; rcases hd with rfl | rfl | rfl
      · exact .inr (.inr (.inr (.inl rfl)))
      · exact g.fine
      · exact g'.fine
    · simp only [ndAll, Rp.nd, Tm.size]; omega
    · simp at hd; rcases hd with rfl | rfl | rfl
      · simp [PyData.depth, Tm.deep]
      · simp only [Tm.deep]; omega
      · simp only [Tm.deep]; omega
/-- ints of a TERM among the data's -/
theorem tm_fine {U : List Int} : ∀ t : Tm, fine U (tmD t) → ∀ n ∈ t.nums, n ∈ U
  | .v n, h, m, hm => by simp [Tm.nums] at hm; subst hm; exact h
  | .z, h, m, hm => by simp [Tm.nums] at hm
  | .s t, h, m, hm => tm_fine t h.2.1 m hm
  | .f l r, h, m, hm => by
    rcases List.mem_append.mp hm with q | q
    · exact tm_fine l h.2.1 m q
    · exact tm_fine r h.2.2.1 m q
theorem nodup_le : ∀ {L U : List Int}, L.Nodup → (∀ k ∈ L, k ∈ U) → L.length ≤ U.length
  | [], U, _, _ => Nat.zero_le _
  | x :: L, U, h, hs => by
    rw [List.nodup_cons] at h
    have hx := hs x (by simp)
    have := nodup_le (L := L) (U := U.erase x) h.2 fun k hk => (List.mem_erase_of_ne (fun e => h.1 (by rw [← e]; exact hk))).mpr (hs k (by simp [hk]))
    rw [List.length_erase_of_mem hx] at this
    have := List.length_pos_of_mem hx
    rw [List.length_cons]
    omega
/-- the other way: a TERM's data tell its size -/
theorem tm_size : ∀ t : Tm, t.size ≤ nd (tmD t) ∧ t.deep ≤ (tmD t).depth
  | .v n => ⟨by simp [tmD, nd, Tm.size], by simp [Tm.deep]⟩
  | .z => ⟨by simp [tmD, nd, Tm.size], by simp [Tm.deep]⟩
  | .s t => by
    have := tm_size t
    simp only [tmD, nd, ndAll, Tm.size, Tm.deep, PyData.depth, PyData.depthAll]
    omega
  | .f l r => by
    have := tm_size l
    have := tm_size r
    simp only [tmD, nd, ndAll, Tm.size, Tm.deep, PyData.depth, PyData.depthAll]
    omega
end Rp

namespace Rp
open PySem PySem.Spec PyProof.Rows L2
def spTerm : Sp := fun vs H Q _ => ∃ (b : Addr) (v : V) (d : PyData), vs = [v] ∧ DAt H b v d ∧ okD d ∧ nd d ≤ 1000 ∧ ∀ (r : Bool) (H' : Hp), (r = true ↔ IsT d) → Same H H' → Q (.bl r) H'
theorem isVar_iff {d : PyData} (h : ¬ Shaped d) : isVar d = true ↔ IsT d := by
  cases d with
  | int n => rw [isT_int]; simp [isVar]
  | _ => exact ⟨fun e => by simp [isVar] at e, fun e => absurd e (isT_other h fun n z => by cases z)⟩
section
variable {P : Program} {w : World} {K : PySem.W.Frag} {mg : Str → Option Value} {base : Heap}
theorem scTerm : FnScope ["thing", "todo", "part"] ["thing"] (defScope sTerm) := ⟨rfl, rfl, rfl, by decide +kernel, rfl, by decide +kernel, by decide +kernel⟩
theorem ok_term {f fS fV : Addr} {fd dS dV : FuncData} (F : Fun K "is_term" "is_term" sTerm f fd)
    (GS : FnOk P w K mg base CX0 1 fS dS ["thing"] spShape) (kS : PySem.W.keepIn K (.ref fS) = true) (bS : Binds K dS ["thing"] []) (mS : mg "_has_shape" = some (.ref fS))
    (GV : FnOk P w K mg base CX0 2 fV dV ["thing"] spVariable) (kV : PySem.W.keepIn K (.ref fV) = true) (bV : Binds K dV ["thing"] []) (mV : mg "is_variable" = some (.ref fV)) :
    FnOk P w K mg base CX0 3 f fd ["thing"] spTerm := by
  refine F.ok scTerm (fun vs H Q E h => ?_) (fun cdv A outer s H vs Q E hr h => ?_)
  · obtain ⟨b, v, d, rfl, _⟩ := h
    rfl
  obtain ⟨b, v, d, rfl, D, ok, hn, q⟩ := h
  have r1 : Room 1 _ := hr.mono (by decide)
  refine ⟨_, pss_cons (ps_set (i := 1) scTerm.nd rfl (Or.inl rfl) (pe_lst (pa_cons (pv 0) pa_nil)))
    (pss_cons (ps_while PassesOwn.never (pt_truth (pv 1) (by intro _; rfl))
      (pss_cons (ps_set (i := 2) scTerm.nd rfl (Or.inl rfl) (pe_bm0 PySem.F.plainAttrs_list PySem.F.slot_list_pop PySem.F.type_list_pop mt_pop (pv 1)))
      (pss_one (ps_if (pt_val (pe_call GS r1 rfl mS kS bS .nil pass0 (pa_cons (pv 2) pa_nil)))
        (pss_one (ps_expr (pe_bm PySem.F.plainAttrs_list PySem.F.slot_list_extend PySem.F.type_list_extend mt_extendT (pv 1) (pa_cons (pe_slice sl_tup (pv 2) (po_some pe_int) po_none) pa_nil))))
        (pss_one (ps_if (pt_not (pt_val (pe_call GV hr rfl mV kV bV .nil pass0 (pa_cons (pv 2) pa_nil)))) (pss_one (ps_ret pe_bl)) pss_nil))))))
    (pss_one (ps_ret pe_bl))), ?_⟩
  refine ⟨_, rfl, (by show 1 ≤ sizeLine; decide), fun p hp => ?_⟩
  have s1 := same_new hp (.lst [v])
  dsimp only [gName, tSeq]
  refine ⟨fun m σ H2 => ∃ (txs : List V) (ds : List PyData) (x : Option V), σ = [some v, some (.ref p), x] ∧ H2 p = some (.lst txs) ∧ DAtAll H b txs ds ∧ (IsT d ↔ ∀ e ∈ ds, IsT e) ∧ (∀ e ∈ ds, okD e) ∧ ndAll ds ≤ 1000 ∧ m = ndAll ds ∧ Same H H2,
    ⟨nd d, [v], [d], none, rfl, upd_same, .cons D .nil, by simp, by simpa using ok, by simp [ndAll]; exact hn, by simp [ndAll], s1⟩, ?_⟩
  rintro m σ H2 ⟨txs, ds, x, rfl, h2, A1, iff, oks, few, rfl, sH⟩
  refine ⟨_, rfl, !txs.isEmpty, .inl ⟨txs, .inl (.inl h2), rfl⟩, ?_⟩
  rcases List.eq_nil_or_concat txs with e | ⟨M, y, e⟩
  · subst e
    refine iteF ?_
    have e2 : ds = [] := by have := A1.len; cases ds with | nil => rfl | cons => simp at this
    subst e2
    exact q true H2 ⟨fun _ => iff.mpr (by simp), fun _ => rfl⟩ sH
  · rw [List.concat_eq_append] at e
    subst e
    have ne : (!(M ++ [y]).isEmpty) = true := by simp
    rw [ne]
    refine iteT ⟨_, fun _ _ h => h, ?_⟩
    obtain ⟨L, k', e2, AM, Ay⟩ := A1.parted
    subst e2
    obtain ⟨k, rest, rfl, Dk, Ar⟩ := Ay.head
    obtain rfl : rest = [] := by have := Ar.len; cases rest with | nil => rfl | cons => simp at this
    have okk : okD k := oks k (by simp)
    have ilast : IsT d ↔ (∀ e ∈ L, IsT e) ∧ IsT k := by
      rw [iff]
      constructor
      · intro h; exact ⟨fun e he => h e (by simp [he]), h k (by simp)⟩
      · intro h e he
        rcases List.mem_append.mp he with he | he
        · exact h.1 e he
        · simp at he; subst he; exact h.2
    rw [ndAll_append] at few
    -- part = todo.pop()
    refine ⟨_, rfl, .inl ⟨rfl, _, .inl (.inl h2)⟩, p, _, y, rfl, rfl, h2, by simp, ?_⟩
    rw [List.dropLast_concat]
    have pn : H p = none := hp
    have s3 : Same H (upd H2 p (.lst M)) := fun c o z => by rw [upd_ne (ne_of_none z pn)]; exact sH c o z
    have nk : ndAll [k] = nd k := by simp [ndAll]
    refine ⟨_, rfl, b, y, k, rfl, Dk.same s3, okk, fun r H4 hr4 s4 => ?_⟩
    have h4 := s4 _ _ (upd_same : (upd H2 p (.lst M)) p = some (.lst M))
    have sH4 : Same H H4 := s3.trans s4
    cases r with
    | true =>
      refine ⟨true, rfl, iteT ?_⟩
      obtain ⟨sg, ds', rfl, sh⟩ := hr4.mp rfl
      obtain ⟨a, xs, rfl, ha, Ak⟩ := Dk.tup_of
      obtain ⟨x0, ks, rfl, D0, Dks⟩ := Ak.cons_of
      have nks : nd (PyData.tuple (.str sg :: ds')) = ndAll ds' + 2 := by simp [nd, ndAll]; omega
      refine ⟨_, rfl, .inl ⟨rfl, M, .inl (.inl h4)⟩, _, rfl, 1, rfl, a, _, rfl, .inl (.inl (sH4 _ _ ha)), cut_part _ _, fun g hg => ?_⟩
      rw [cut_tail]
      have s5 := same_new hg (.tup ks)
      have lim : M.length + ks.length ≤ sizeLine := by
        have a1 := AM.len
        have a2 := Dks.len
        have a3 := ndAll_len L
        have a4 := ndAll_len ds'
        have a5 : (1000 : Nat) + 1000 ≤ sizeLine := by decide
        omega
      refine ⟨p, g, M, ks, rfl, rfl, s5 _ _ h4, .inl (.inl upd_same), lim, ?_⟩
      refine ⟨ndAll (L ++ ds'), ?_, M ++ ks, L ++ ds', _, rfl, upd_same, AM.append Dks, ?_, ?_, ?_, rfl, ?_⟩
      · rw [ndAll_append, ndAll_append]; omega
      · rw [ilast, isT_shaped sh]
        constructor
        · rintro ⟨h1, h2⟩ e he
          rcases List.mem_append.mp he with he | he
          · exact h1 e he
          · exact h2 e he
        · intro h
          exact ⟨fun e he => h e (by simp [he]), fun e he => h e (by simp [he])⟩
      · intro e he
        rcases List.mem_append.mp he with he | he
        · exact oks e (by simp [he])
        · exact okk.tup e (by simp [he])
      · rw [ndAll_append]; omega
      · intro c o z
        rw [upd_ne (ne_of_none z pn)]
        exact s5 _ _ (sH4 _ _ z)
    | false =>
      refine ⟨false, rfl, iteF ?_⟩
      have ns : ¬ Shaped k := fun z => by have := hr4.mpr z; cases this
      refine ⟨_, rfl, b, y, k, rfl, Dk.same sH4, isVar k, rfl, ?_⟩
      cases ev : isVar k with
      | false =>
        refine iteT (q false H4 ⟨(fun e => nomatch e), fun z => ?_⟩ sH4)
        have := (isVar_iff ns).mpr (ilast.mp z).2
        rw [ev] at this
        cases this
      | true =>
        refine iteF ?_
        have tk := (isVar_iff ns).mp ev
        refine ⟨ndAll L, ?_, M, L, _, rfl, h4, AM, ?_, fun e he => oks e (by simp [he]), by omega, rfl, sH4⟩
        · rw [ndAll_append, nk]; have := nd_pos k; omega
        · rw [ilast]; exact ⟨fun h => h.1, fun h => ⟨h, tk⟩⟩
end
end Rp

/-! xs[a:] = ys, ys another list: what the layer has no statement of. -/
namespace Rp
open PySem PySem.Spec PyProof.Rows L2
theorem tail_bounds {k n : Nat} (h : k ≤ n) : sliceBounds (some (k : Int)) none none n = ((k : Int), (n : Int), 1) := by
  simp only [sliceBounds, Option.getD_none, show ¬ ((k : Int) < 0) by omega, if_false, show (1 : Int) > 0 by decide, if_true]
  congr 1
  · omega
theorem tail_items (old fresh : List Value) (k : Nat) : old.toArray.extract 0 k ++ fresh.toArray ++ old.toArray.extract old.toArray.size old.toArray.size = (old.take k ++ fresh).toArray := by
  apply Array.toList_inj.mp
  simp
section
variable {prog : Program} {w : World} {A : Around} {E : Value → Shared → Prop} {s : Shared}
theorem store_tail {at_ src cut : Addr} {old fresh : Array Value} {n1 n2 : Nat} {vlo : Value} {k : Nat} {Q : Unit → Shared → Prop} (oe : s.heap.get? at_ = some { cls := .type "list", data := .seq old n1 })
    (fe : s.heap.get? src = some { cls := .type "list", data := .seq fresh n2 }) (apart : at_ ≠ src) (isCut : s.heap.IsSliceOf cut vlo .none .none) (pLo : IsPart vlo (some (k : Int))) (hk : k ≤ old.size) (room : old.size + fresh.size ≤ sizeLine)
    (go : Q () { s with heap := s.heap.update at_ (Obj.mapSeq fun xs => xs.extract 0 k ++ fresh ++ xs.extract old.size xs.size) }) : wpAny (model prog w) A (setItem (.ref at_) (.ref cut) (.ref src)) Q E s := by
  have lstIs : s.heap.IsList at_ old := PySem.IsL.isList oe
  have srcIs : s.heap.IsList src fresh := PySem.IsL.isList fe
  obtain ⟨oc, hoc, hcc, hdc⟩ := id isCut
  have cutIs : s.TypeIs (.ref cut) "slice" := ⟨oc, hoc, hcc⟩
  have noStep : ¬ ((rawPart none == rawInt 0) = true) := Bool.false_ne_true
  have other : Builtin.List.listSameRef (.ref at_) (.ref src) = false := by unfold Builtin.List.listSameRef; exact beq_eq_false_iff_ne.mpr apart
  have bound : ((fun xs : Array Value => xs.extract 0 k ++ fresh ++ xs.extract old.size xs.size) old).size ≤ sizeLine + 1 := by simp only [Array.size_append, Array.size_extract]; omega
  unfold setItem; try with_reducible refine wpAny_holding ?_
  first | refine wpAny_bind (wpAny_pure ?_) | skip
  refine wpAny_bind (wpAny_sequenceKey lstIs.typeIs (by decide) (wpAny_bind (wpAny_callSpecial?_slot (name := Str.ofString "__setitem__") lstIs.typeIs slot_list_setitem (wpAny_call_entry slot_list_setitem lstIs.typeIs entry_list_setitem ?_ (args_list_setitem _ _ _)))))
  show wpAny _ _ (Builtin.List.listSubscript? (.ref cut) >>= _) _ _ s
  refine wpAny_bind ?_; unfold Builtin.List.listSubscript?
  refine wpAny_bind (wpAny_specialOf cutIs slice_no_index ?_); simp only [Option.isNone_none, if_true]
  refine wpAny_pure ?_; show wpAny _ _ (typeOf (.ref cut) >>= _) _ _ s
  refine wpAny_bind (wpAny_typeOf cutIs ?_)
  first | rw [if_neg (by decide)] | refine PySem.W.KFB.if_not (by decide) ?_
  rw [listSliceParts_eq]; refine wpAny_bind (wpAny_bind (wpAny_field hoc hdc (x := .none) rfl (wpAny_bind (wpAny_listPart .none ?_))))
  rw [if_neg noStep]; refine wpAny_bind (wpAny_field hoc hdc (x := vlo) rfl (wpAny_bind (wpAny_listPart pLo ?_)))
  refine wpAny_bind (wpAny_field hoc hdc (x := .none) rfl (wpAny_bind (wpAny_listPart .none (wpAny_pure ?_))))
  first | simp only [other, Bool.false_eq_true, if_false] | refine PySem.W.KFB.if_not other ?_ | (dsimp only; rw [if_neg (by rw [other]; exact Bool.false_ne_true)])
  refine wpAny_bind (m := Builtin.List.listAllItems (.ref src) "must assign iterable to extended slice") ?_; unfold Builtin.List.listAllItems
  refine wpAny_bind (wpAny_typeOf srcIs.typeIs ?_)
  first | refine PySem.W.KFB.if_so (by decide) ?_ | rw [if_pos (by decide)] | simp only [beq_self_eq_true, Bool.true_or, if_true]
  unfold Builtin.List.listItems; refine wpAny_bind (wpAny_seqItems fe rfl (wpAny_pure ?_))
  refine wpAny_bind (wpAny_bind (wpAny_seqItems oe rfl (wpAny_pure ?_)))
  refine wpAny_bind (wpAny_of_eq ((sliceIndices_raw (some (k : Int)) none none old.size (by simp)).trans (congrArg (pure : Int × Int × Int → Sem (Int × Int × Int)) (tail_bounds hk))) ?_)
  show wpAny _ _ (if ((1 : Int) == 1) = true then _ else _) _ _ s; rw [if_pos (by decide)]
  refine wpAny_bind (wpAny_rule ?_); have small := notLongL room
  first | simp only [small, Bool.false_eq_true, if_false] | refine PySem.W.KFB.if_not small ?_
  first | refine wpAny_bind (wpAny_pure ?_) | skip
  show wpAny _ _ (updateSeq at_ (fun xs => xs.extract 0 ((k : Int)).toNat ++ fresh ++ xs.extract (max (k : Int) (old.size : Int)).toNat xs.size) >>= _) _ _ s
  rw [show (max (k : Int) (old.size : Int)).toNat = old.size by omega, Int.toNat_natCast]
  refine wpAny_bind (wpAny_updateSeq (hz := Nat.le_trans (Nat.le_add_right _ _) room) (_hz' := bound) oe rfl (wpAny_bind (wpAny_letGo ?_)))
  first | exact wpAny_bind (wpAny_pure (wpAny_pure ⟨.none, rfl, wpAny_pure go⟩)) | exact wpAny_pure ⟨.none, rfl, wpAny_pure go⟩
end
/-- xs[a:] = ys -/
def tTail (to : TE) (ta : TO) (tv : TE) : TS := fun D σ H => tv σ H fun y H1 => to σ H1 fun x H2 => ta σ H2 fun i H3 => ∃ (l b : Addr) (xs ys : List V) (k : Nat), y = .ref b ∧ x = .ref l ∧ i = some (k : Int) ∧ H3 l = some (.lst xs) ∧ H3 b = some (.lst ys) ∧ l ≠ b ∧ k ≤ xs.length ∧ xs.length + ys.length ≤ sizeLine ∧
  D.nx σ (upd H3 l (.lst (xs.take k ++ ys)))
section
variable {X : Cx} {o e value : Expr} {pos pos' p2 : Pos} {td tv : TE} {ta : TO}
theorem ps_tail (ho : PE X o td) (hi : PO X (some e) ta) (hv : PE X value tv) (hs : swapsWith value (some (.Subscript o (.Slice (some e) none none p2) pos')) pos.line X.env = pure false := by rfl) :
    PS X (.Assign [.Subscript o (.Slice (some e) none none p2) pos'] value pos) (tTail td ta tv) := by
  refine ⟨fun pins s σ H D I h => wpAny_Assign_Subscript (thn (hv.run pins s σ H _ I h) fun r s1 ⟨v, H1, I1, rv, q1⟩ => thn (ho.run pins s1 σ H1 _ I1 q1) fun u s2 ⟨x, H2, I2, rx, q2⟩ => ?_) hs⟩
  refine wpAny_Slice (thn (hi.run pins s2 σ H2 _ I2 q2) fun vl s3 ⟨i, H3, I3, pl, q3⟩ => ?_)
  obtain ⟨l, b, xs, ys, k, rfl, rfl, rfl, hl, hb, ne, hk, room, go⟩ := q3
  rw [evalPart_none]
  refine wpAny_pure (wpAny_pure ?_)
  cases rv
  cases rx
  have I4 : Inv X pins σ H3 { s3 with heap := s3.heap.push { cls := .type "slice", data := .fields #[vl, .none, .none] } } := I3.kept (t' := s3.toks) fun c ob w => Heap.get?_push_of_some _ w
  obtain ⟨_, old, n1, ro, lo, oe⟩ := I4.lstM hl
  obtain ⟨_, fresh, n2, rf, lf, fe⟩ := I4.lstM hb
  refine store_tail (k := k) oe fe ne (Heap.IsSliceOf.new ..) pl (by rw [List.size_toArray]; omega) (by rw [List.size_toArray, List.size_toArray]; omega) ?_
  refine ⟨σ, _, I4.lset (its' := old.take k ++ fresh) (t' := s3.toks) hl oe ?_ (Vals.append (ro.take _) rf) ?_, go⟩
  · exact tail_items old fresh k
  · rw [List.length_append, List.length_take]; omega
end
end Rp

/-! Texts of TERMs, and the fold that makes them. -/
namespace Rp
open PySem PySem.Spec PyProof.Rows L2
namespace Tm
/-- a sign with the texts of its parts -/
def put1 : Tm → List Str → Str
  | v n, _ => "x" ++ (Str.ofString (toString n))
  | z, _ => "0"
  | s _, ys => "s" ++ "(" ++ Txt.join "," ys ++ ")"
  | f _ _, ys => "f" ++ "(" ++ Txt.join "," ys ++ ")"
def txt : Tm → Str
  | v n => put1 (v n) []
  | z => put1 z []
  | s t => put1 (s t) [t.txt]
  | f l r => put1 (f l r) [l.txt, r.txt]
theorem txt_kids (t : Tm) : t.txt = t.put1 (t.kids.map txt) := by cases t <;> rfl
def small (t : Tm) : Prop := ∀ n ∈ t.nums, 0 ≤ n ∧ n ≤ 99
end Tm
theorem slen (a b : Str) : (a ++ b).length = a.length + b.length := Str.length_append a b
theorem num_len {n : Int} (h : 0 ≤ n ∧ n ≤ 99) : (Str.ofString (toString n)).length ≤ 3 := by
  rw [PySem.ofString_length]
  exact int_text_length_le10 (k := 2) (by decide) (by omega)
theorem join1 (a x : Str) : Txt.join a [x] = x := by rw [TL.join_eq]; simp [Str.join]
theorem join2 (a x y : Str) : Txt.join a [x, y] = x ++ a ++ y := by rw [TL.join_eq]; simp [Str.join]
theorem txt_len : ∀ t : Tm, t.small → t.txt.length ≤ 4 * t.size
  | .v n, h => by
    have := num_len (h n (by simp [Tm.nums]))
    show (("x" : Str) ++ (Str.ofString (toString n))).length ≤ 4
    rw [slen]
    have : ("x" : Str).length = 1 := by decide +kernel
    omega
  | .z, _ => by decide +kernel
  | .s t, h => by
    have := txt_len t h
    show (("s" : Str) ++ "(" ++ Txt.join "," [t.txt] ++ ")").length ≤ 4 * (t.size + 1)
    rw [join1, slen, slen, slen]
    have a : ("s" : Str).length = 1 := by decide +kernel
    have b : ("(" : Str).length = 1 := by decide +kernel
    have c : (")" : Str).length = 1 := by decide +kernel
    omega
  | .f l r, h => by
    have := txt_len l fun n hn => h n (by simp [Tm.nums, hn])
    have := txt_len r fun n hn => h n (by simp [Tm.nums, hn])
    show (("f" : Str) ++ "(" ++ Txt.join "," [l.txt, r.txt] ++ ")").length ≤ 4 * (l.size + r.size + 1)
    rw [join2, slen, slen, slen, slen, slen]
    have a : ("f" : Str).length = 1 := by decide +kernel
    have b : ("(" : Str).length = 1 := by decide +kernel
    have c : (")" : Str).length = 1 := by decide +kernel
    have d : ("," : Str).length = 1 := by decide +kernel
    omega
/-! ### the stack -/
def runs : List Tm → List Tm → List Tm → Prop
  | S, [], S' => S = S'
  | S, k :: r, S' => ∃ S0, S = S0 ++ k.kids ∧ runs (S0 ++ [k]) r S'
theorem runs_post : ∀ (t : Tm) (S r S' : List Tm), runs (S ++ [t]) r S' → runs S (t.rpost.reverse ++ r) S'
  | .v n, S, r, S', h => by simp only [Tm.rpost, List.reverse_singleton, List.singleton_append]; exact ⟨S, by simp [Tm.kids], h⟩
  | .z, S, r, S', h => by simp only [Tm.rpost, List.reverse_singleton, List.singleton_append]; exact ⟨S, by simp [Tm.kids], h⟩
  | .s t, S, r, S', h => by
    simp only [Tm.rpost, List.reverse_cons, List.append_assoc, List.singleton_append]
    exact runs_post t S _ _ ⟨S, by simp [Tm.kids], h⟩
  | .f l r', S, r, S', h => by
    simp only [Tm.rpost, List.reverse_cons, List.reverse_append, List.append_assoc, List.singleton_append]
    refine runs_post l S _ _ (runs_post r' (S ++ [l]) _ _ ⟨S, by simp [Tm.kids], h⟩)
theorem part_of : ∀ {t k : Tm}, k ∈ t.rpost → k.size ≤ t.size ∧ ∀ n ∈ k.nums, n ∈ t.nums
  | .v n, k, h => by simp [Tm.rpost] at h; subst h; exact ⟨Nat.le_refl _, fun n h => h⟩
  | .z, k, h => by simp [Tm.rpost] at h; subst h; exact ⟨Nat.le_refl _, fun n h => h⟩
  | .s t, k, h => by
    simp [Tm.rpost] at h
    rcases h with rfl | h
    · exact ⟨Nat.le_refl _, fun n h => h⟩
    · have := part_of h
      exact ⟨by simp only [Tm.size]; omega, this.2⟩
  | .f l r, k, h => by
    simp [Tm.rpost] at h
    rcases h with rfl | h | h
    · exact ⟨Nat.le_refl _, fun n h => h⟩
    · have := part_of h
      exact ⟨by simp only [Tm.size]; omega, fun n hn => List.mem_append.mpr (.inr (this.2 n hn))⟩
    · have := part_of h
      exact ⟨by simp only [Tm.size]; omega, fun n hn => List.mem_append.mpr (.inl (this.2 n hn))⟩
def spTextOf (K : PySem.W.Frag) : Sp := fun vs H Q _ => ∃ (v : V) (t : Tm) (a : Addr), vs = [v, .ref a] ∧ TmAt H v t ∧ t.small ∧ t.size ≤ 1000 ∧ H a = some (.lst ((t.kids.map Tm.txt).map V.str)) ∧ Q (.str t.txt) H
def spFold (fO : Addr) : Sp := fun vs H Q _ => ∃ (v : V) (t : Tm), vs = [v, .ref fO] ∧ TmAt H v t ∧ t.small ∧ t.size ≤ 1000 ∧ ∀ H', Same H H' → Q (.str t.txt) H'
def spTermText : Sp := fun vs H Q _ => ∃ (v : V) (t : Tm), vs = [v] ∧ TmAt H v t ∧ t.small ∧ t.size ≤ 1000 ∧ ∀ H', Same H H' → Q (.str t.txt) H'
section
variable {P : Program} {w : World} {K : PySem.W.Frag} {mg : Str → Option Value} {base : Heap}
theorem scTextOf : FnScope ["part", "texts", "inner"] ["part", "texts"] (defScope sTextOf) := ⟨rfl, rfl, rfl, by decide +kernel, rfl, by decide +kernel, by decide +kernel⟩
theorem ok_textof {f : Addr} {fd : FuncData} (F : Fun K "_text_of" "_text_of" sTextOf f fd) (mIsi : mg "isinstance" = none) (mInt : mg "int" = none) : FnOk P w K mg base CX0 1 f fd ["part", "texts"] (spTextOf K) := by
  refine F.ok scTextOf (fun vs H Q E h => ?_) (fun cdv A outer s H vs Q E hr h => ?_)
  · obtain ⟨v, t, a, rfl, _⟩ := h
    rfl
  obtain ⟨v, t, a, rfl, T, sm, sz, ha, q⟩ := h
  refine ⟨_, pss_cons (ps_if (pt_val (pe_callB (id := "isinstance") call_isi (by rfl) mIsi (by decide +kernel) (pa_cons (pv 0) (pa_cons (pe_bltn (v := .ty "int") (by rfl) mInt (by decide +kernel) rfl) pa_nil)))) (pss_one (ps_ret (pe_joined (.cons pe_str (.cons (pe_fmt (pv 0)) .nil))))) pss_nil)
    (pss_cons (ps_if (pt_not (pt_truth (pv 1) (by intro _; rfl))) (pss_one (ps_ret (pe_ix ix_tup (pv 0) pe_int (fun _ _ => rfl)))) pss_nil)
    (pss_cons (ps_set (i := 2) scTextOf.nd rfl (Or.inl rfl) (pe_bm PySem.F.plainAttrs_str PySem.F.slot_str_join PySem.F.type_str_join mt_join pe_str (pa_cons (pv 1) pa_nil)))
    (pss_one (ps_ret (pe_joined (.cons (pe_fmt (pe_ix ix_tup (pv 0) pe_int (fun _ _ => rfl))) (.cons pe_str (.cons (pe_fmt (pv 2)) (.cons pe_str .nil))))))))), ?_⟩
  have tl := txt_len t sm
  have big : (10000 : Nat) ≤ sizeLine := by decide
  rcases T.ty (K := K) with ⟨m, rfl, rfl⟩ | ⟨b, xs, rfl, hb, ty, no⟩
  · refine ⟨_, rfl, _, _, _, _, true, rfl, .ty "int", .base (.int m), kit_ii, true, rfl, iteT ?_⟩
    have hm := sm m (by simp [Tm.nums])
    refine ⟨_, rfl, ?_, _, rfl, .inr ⟨m, rfl, ?_, ?_⟩⟩
    · rw [Str.empty_append]; exact Nat.le_trans (by decide +kernel : ("x" : Str).length ≤ 10) (by decide)
    · have := Nat.log2_le_self m.natAbs
      omega
    · refine ⟨_, rfl, ?_, ?_⟩
      · rw [Str.empty_append, slen]
        have := num_len hm
        have : ("x" : Str).length = 1 := by decide +kernel
        exact Nat.le_trans (by omega : _ ≤ 10) (by decide)
      · rw [Str.empty_append]
        exact q
  · obtain ⟨a', ks, e, ha', hk, hks⟩ := T.tupled no
    cases e
    refine ⟨_, rfl, _, _, _, _, false, rfl, .ty "int", ty, kit_ti, false, rfl, iteF ?_⟩
    refine ⟨_, rfl, _, .inl ⟨_, .inl (.inl ha), rfl⟩, ?_⟩
    have lim : ∀ x : Str, x.length ≤ 10000 → x.length ≤ sizeLine := fun x h => Nat.le_trans h big
    have l1 : ("s" : Str).length = 1 := by decide +kernel
    have l2 : ("f" : Str).length = 1 := by decide +kernel
    have l3 : ("(" : Str).length = 1 := by decide +kernel
    have l4 : (")" : Str).length = 1 := by decide +kernel
    have l5 : ("," : Str).length = 1 := by decide +kernel
    cases t with
    | v n => exact absurd rfl (no n)
    | z =>
      refine iteT ⟨_, rfl, _, _, _, _, rfl, rfl, .inl (.inl ha'), at_of (j := 0) rfl rfl, q⟩
    | s t =>
      have tz : (Txt.join "," [t.txt]).length ≤ 9000 := by
        rw [join1]; have := txt_len t sm; simp only [Tm.size] at sz; omega
      refine iteF ⟨rfl, _, rfl, _, a, [t.txt], rfl, rfl, .inl (.inl (.inl ha)), ?_, ?_⟩
      · simp only [List.map_cons, List.map_nil, List.sum_cons, List.sum_nil, List.length_cons, List.length_nil]
        have := txt_len t sm; simp only [Tm.size] at sz; omega
      refine ⟨_, rfl, _, _, _, _, rfl, rfl, .inl (.inl ha'), at_of (j := 0) rfl rfl, .inl ⟨_, rfl, lim _ ?_, _, rfl, lim _ ?_, _, rfl, lim _ ?_, _, rfl, .inl ⟨_, rfl, lim _ ?_, _, rfl, lim _ ?_, _, rfl, lim _ ?_, ?_⟩⟩⟩
      · show ("s" : Str).length ≤ _; omega
      · show (Str.empty ++ ("s" : Str)).length ≤ _; rw [Str.empty_append]; omega
      · show (Str.empty ++ ("s" : Str) ++ "(").length ≤ _; rw [Str.empty_append, slen]; omega
      · omega
      · show (Str.empty ++ ("s" : Str) ++ "(" ++ Txt.join "," [t.txt]).length ≤ _; rw [Str.empty_append, slen, slen]; omega
      · show (Str.empty ++ ("s" : Str) ++ "(" ++ Txt.join "," [t.txt] ++ ")").length ≤ _; rw [Str.empty_append, slen, slen, slen]; omega
      · show Q (.str (Str.empty ++ ("s" : Str) ++ "(" ++ Txt.join "," [t.txt] ++ ")")) H; rw [Str.empty_append]; exact q
    | f l r =>
      have tz : (Txt.join "," [l.txt, r.txt]).length ≤ 9000 := by
        rw [join2, slen, slen]; have := txt_len l (fun n hn => sm n (by simp [Tm.nums, hn])); have := txt_len r (fun n hn => sm n (by simp [Tm.nums, hn])); simp only [Tm.size] at sz; omega
      refine iteF ⟨rfl, _, rfl, _, a, [l.txt, r.txt], rfl, rfl, .inl (.inl (.inl ha)), ?_, ?_⟩
      · simp only [List.map_cons, List.map_nil, List.sum_cons, List.sum_nil, List.length_cons, List.length_nil]
        have := txt_len l (fun n hn => sm n (by simp [Tm.nums, hn])); have := txt_len r (fun n hn => sm n (by simp [Tm.nums, hn])); simp only [Tm.size] at sz; omega
      refine ⟨_, rfl, _, _, _, _, rfl, rfl, .inl (.inl ha'), at_of (j := 0) rfl rfl, .inl ⟨_, rfl, lim _ ?_, _, rfl, lim _ ?_, _, rfl, lim _ ?_, _, rfl, .inl ⟨_, rfl, lim _ ?_, _, rfl, lim _ ?_, _, rfl, lim _ ?_, ?_⟩⟩⟩
      · show ("f" : Str).length ≤ _; omega
      · show (Str.empty ++ ("f" : Str)).length ≤ _; rw [Str.empty_append]; omega
      · show (Str.empty ++ ("f" : Str) ++ "(").length ≤ _; rw [Str.empty_append, slen]; omega
      · omega
      · show (Str.empty ++ ("f" : Str) ++ "(" ++ Txt.join "," [l.txt, r.txt]).length ≤ _; rw [Str.empty_append, slen, slen]; omega
      · show (Str.empty ++ ("f" : Str) ++ "(" ++ Txt.join "," [l.txt, r.txt] ++ ")").length ≤ _; rw [Str.empty_append, slen, slen, slen]; omega
      · show Q (.str (Str.empty ++ ("f" : Str) ++ "(" ++ Txt.join "," [l.txt, r.txt] ++ ")")) H; rw [Str.empty_append]; exact q
end
end Rp

namespace Rp
open PySem PySem.Spec PyProof.Rows L2
theorem drop_min {α : Type} (xs : List α) (i : Nat) : xs.drop (min i xs.length) = xs.drop i := by
  rcases Nat.le_total i xs.length with h | h
  · rw [Nat.min_eq_left h]
  · rw [Nat.min_eq_right h, List.drop_length, List.drop_of_length_le h]
theorem cut_from {xs : List V} {i : Nat} {a : Int} (h : a = (i : Nat)) : cutV xs (some a) none = xs.drop i := by
  subst h
  unfold cutV
  rw [HT.sIx_none, HT.sIx_nat, drop_min]
  refine List.take_of_length_le ?_
  rw [List.length_drop]
  omega
section
variable {P : Program} {w : World} {K : PySem.W.Frag} {mg : Str → Option Value} {base : Heap}
theorem scFold : FnScope ["term", "made_of", "made", "part", "first"] ["term", "made_of"] (defScope sFold) := ⟨rfl, rfl, rfl, by decide +kernel, rfl, by decide +kernel, by decide +kernel⟩
theorem ok_fold {f fI fP fO : Addr} {fd dI dP dO : FuncData} (F : Fun K "fold" "fold" sFold f fd)
    (GI : FnOk P w K mg base CX0 2 fI dI ["term"] spInside) (kI : PySem.W.keepIn K (.ref fI) = true) (bI : Binds K dI ["term"] []) (mI : mg "inside_out" = some (.ref fI))
    (GP : FnOk P w K mg base CX0 1 fP dP ["term"] spParts) (kP : PySem.W.keepIn K (.ref fP) = true) (bP : Binds K dP ["term"] []) (mP : mg "_parts" = some (.ref fP))
    (GO : FnOk P w K mg base CX0 1 fO dO ["part", "texts"] (spTextOf K)) (kO : PySem.W.keepIn K (.ref fO) = true) (bO : Binds K dO ["part", "texts"] []) (mLen : mg "len" = none) :
    FnOk P w K mg base CX0 3 f fd ["term", "made_of"] (spFold fO) := by
  refine F.ok scFold (fun vs H Q E h => ?_) (fun cdv A outer s H vs Q E hr h => ?_)
  · obtain ⟨v, t, rfl, _⟩ := h
    rfl
  obtain ⟨v, t, rfl, T, sm, sz, q⟩ := h
  have r1 : Room 1 _ := hr.mono (by decide)
  refine ⟨_, pss_cons (ps_set (i := 2) scFold.nd rfl (Or.inl rfl) (pe_lst pa_nil))
    (pss_cons (ps_for PassesOwn.never rfl (pi_list (pe_call GI hr rfl mI kI bI .nil pass0 (pa_cons (pv 0) pa_nil))) (pg_name (i := 3) scFold.nd rfl (Or.inl rfl))
      (pss_cons (ps_set (i := 4) scFold.nd rfl (Or.inl rfl) (pe_op op_sub (pe_callB call_len_seq (by rfl) mLen PySem.boot_len (pa_cons (pv 2) pa_nil)) (pe_callB call_len_seq (by rfl) mLen PySem.boot_len (pa_cons (pe_call GP r1 rfl mP kP bP .nil pass0 (pa_cons (pv 3) pa_nil)) pa_nil))))
      (pss_one (ps_tail (pv 2) (po_some (pv 4)) (pe_lst (pa_cons (pe_callL (i := 1) GO r1 rfl (Or.inl rfl) kO bO .nil pass0 (pa_cons (pv 3) (pa_cons (pe_slice sl_list (pv 2) (po_some (pv 4)) po_none) pa_nil))) pa_nil))))))
    (pss_one (ps_ret (pe_ix ix_list (pv 2) pe_int (fun _ _ => rfl))))), ?_⟩
  refine ⟨(by show 0 ≤ sizeLine; decide), fun m hm => ?_⟩
  have s0 := same_new hm (.lst ([] : List V))
  refine ⟨_, rfl, v, t, rfl, T.same s0, sz, fun p xs H1 hp h1 A1 s1 => ?_⟩
  have hm1 := s1 _ _ (upd_same : (upd H m (.lst ([] : List V))) m = some (.lst []))
  have pm : p ≠ m := (ne_of_none (upd_same : (upd H m (.lst ([] : List V))) m = some (.lst [])) hp).symm
  have len := A1.len
  rw [List.length_reverse, Tm.rpost_len] at len
  have post : t.rpost.reverse.length = t.size := by rw [List.length_reverse, Tm.rpost_len]
  have big : (10000 : Nat) ≤ sizeLine := by decide
  refine ⟨p, rfl, ⟨_, .inl (.inl h1)⟩, for_list (K := K) (a := p) (xs := xs) (fun i σ H2 => ∃ (S : List Tm) (x3 x4 : Option V), σ = [some v, some (.ref fO), some (.ref m), x3, x4] ∧ H2 m = some (.lst ((S.map Tm.txt).map V.str)) ∧
      runs S (t.rpost.reverse.drop i) [t] ∧ (∀ k ∈ S, k ∈ t.rpost) ∧ S.length ≤ i ∧ But m H1 H2) ⟨[], none, none, rfl, hm1, ?_, by simp, by simp, But.refl _ _⟩ (fun i σ H2 _ ⟨_, _, _, _, _, _, _, _, o⟩ => .inl (.inl (o _ _ h1 pm))) ?_ ?_⟩
  · have := runs_post t [] [] [t] rfl
    simpa using this
  · rintro i x σ H2 hi ⟨S, x3, x4, rfl, h2, run, parts, sl, o2⟩
    obtain ⟨k, hk, Tk⟩ := A1.get hi
    have li : i < t.rpost.reverse.length := (List.getElem?_eq_some_iff.mp hk).1
    have ek : t.rpost.reverse.drop i = k :: t.rpost.reverse.drop (i + 1) := by
      rw [List.drop_eq_getElem_cons li, (List.getElem?_eq_some_iff.mp hk).2]
    rw [ek] at run
    obtain ⟨S0, rfl, run⟩ := run
    have km : k ∈ t.rpost := List.mem_reverse.mp (List.mem_of_getElem? hk)
    have pk := part_of km
    have smk : k.small := fun n hn => sm n (pk.2 n hn)
    have T2 := Tk.but o2 hm1
    rw [List.length_append] at sl
    refine ⟨_, rfl, m, _, rfl, .inl (.inl (.inl h2)), _, rfl, x, k, rfl, T2, fun g ks H3 hg h3 A3 s3 => ?_⟩
    have kl := A3.len
    refine ⟨g, _, rfl, .inr (.inl (.inl h3)), _, _, rfl, rfl, ?_⟩
    have h23 := s3 _ _ h2
    have first : (((((S0 ++ k.kids).map Tm.txt).map V.str).length : Nat) : Int) - ((ks.length : Nat) : Int) = ((S0.length : Nat) : Int) := by
      rw [List.length_map, List.length_map, List.length_append, kl]; omega
    refine ⟨rfl, _, rfl, _, rfl, _, rfl, _, rfl, m, _, rfl, .inl (.inl h23), fun d hd => ?_⟩
    have dm : d ≠ m := (ne_of_none h23 hd).symm
    rw [cut_from (i := S0.length) first]
    have cut : (((S0 ++ k.kids).map Tm.txt).map V.str).drop S0.length = (k.kids.map Tm.txt).map V.str := by
      rw [List.map_append, List.map_append, List.drop_left' (by rw [List.length_map, List.length_map])]
    rw [cut]
    have s4 := same_new hd (.lst ((k.kids.map Tm.txt).map V.str))
    refine ⟨x, k, d, rfl, (T2.same s3).same s4, smk, by omega, upd_same, ?_⟩
    refine ⟨(by show 1 ≤ sizeLine; decide), fun b hb => ?_⟩
    have s5 := same_new hb (.lst [V.str k.txt])
    have h25 := s5 _ _ (s4 _ _ h23)
    refine ⟨_, rfl, _, rfl, _, rfl, m, b, _, _, S0.length, rfl, rfl, congrArg some first, h25, upd_same, ne_of_none (s4 _ _ h23) hb, ?_, ?_, ?_⟩
    · rw [List.length_map, List.length_map, List.length_append]; omega
    · rw [List.length_map, List.length_map, List.length_append, List.length_singleton]; omega
    · refine ⟨S0 ++ [k], _, _, rfl, ?_, run, ?_, ?_, ?_⟩
      · rw [upd_same, List.map_append, List.map_append, List.take_left' (by rw [List.length_map, List.length_map]), List.map_append, List.map_append]
        rfl
      · intro k' hk'
        rcases List.mem_append.mp hk' with z | z
        · exact parts k' (by simp [z])
        · simp at z; subst z; exact km
      · rw [List.length_append, List.length_singleton]
        have := List.length_append (as := S0) (bs := k.kids)
        omega
      · intro c o' z nc
        rw [upd_ne nc]
        exact s5 _ _ (s4 _ _ (s3 _ _ (o2 _ _ z nc)))
  · rintro σ H2 ⟨S, x3, x4, rfl, h2, run, parts, sl, o2⟩
    rw [List.drop_of_length_le (by omega)] at run
    obtain rfl : S = [t] := run
    refine ⟨_, rfl, m, _, _, _, rfl, rfl, .inl (.inl h2), at_of (j := 0) rfl rfl, q H2 ?_⟩
    exact fun c o z => o2 c o (s1 _ _ (s0 _ _ z)) (ne_of_none z hm)
theorem scTermText : FnScope ["term"] ["term"] (defScope sTermText) := ⟨rfl, rfl, rfl, by decide +kernel, rfl, by decide +kernel, by decide +kernel⟩
theorem ok_termtext {f fF fO : Addr} {fd dF : FuncData} (F : Fun K "term_text" "term_text" sTermText f fd)
    (GF : FnOk P w K mg base CX0 3 fF dF ["term", "made_of"] (spFold fO)) (kF : PySem.W.keepIn K (.ref fF) = true) (bF : Binds K dF ["term", "made_of"] []) (mF : mg "fold" = some (.ref fF)) (mO : mg "_text_of" = some (.ref fO)) :
    FnOk P w K mg base CX0 4 f fd ["term"] spTermText := by
  refine F.ok scTermText (fun vs H Q E h => ?_) (fun cdv A outer s H vs Q E hr h => ?_)
  · obtain ⟨v, t, rfl, _⟩ := h
    rfl
  obtain ⟨v, t, rfl, T, sm, sz, q⟩ := h
  refine ⟨_, pss_one (ps_ret (pe_call GF hr rfl mF kF bF .nil pass0 (pa_cons (pv 0) (pa_cons (pe_glob (v := .ref fO) rfl mO rfl) pa_nil)))), ?_⟩
  exact ⟨_, rfl, v, t, rfl, T, sm, sz, q⟩
end
end Rp

/-! A TERM's text, its brackets and commas blanked, cut at the blanks: its signs, ahead of their parts. -/
namespace Rp
open PySem PySem.Spec PyProof.Rows L2 TL
def blank1 (c d : Nat) : Nat := if d = c then 32 else d
theorem spl_ne (S : List Nat) : ∀ (k : Nat) (acc l : List Nat), spl S k acc l ≠ []
  | 0, acc, [] => by rw [spl_nil]; simp
  | k + 1, acc, [] => by rw [spl_nil]; simp
  | k + 1, acc, _ :: r => by show spl S k acc r ≠ []; exact spl_ne S k acc r
  | 0, acc, c :: r => by
    by_cases h : pre S (c :: r) = true
    · rw [spl_hit h]; simp
    · rw [spl_miss (by simpa using h)]; exact spl_ne S 0 _ r
theorem join_spl (c : Nat) : ∀ (l acc : List Nat), joinL [32] (spl [c] 0 acc l) = acc ++ l.map (blank1 c)
  | [], acc => by rw [spl_nil]; simp [joinL]
  | d :: r, acc => by
    by_cases h : d = c
    · have hp : pre [c] (d :: r) = true := by simp [pre, h]
      rw [spl_hit hp]
      have ih := join_spl c r []
      have ne := spl_ne [c] 0 [] r
      show joinL [32] (acc :: spl [c] 0 [] r) = _
      cases e : spl [c] 0 [] r with
      | nil => exact absurd e ne
      | cons q rest =>
        rw [e] at ih
        show acc ++ ([32] ++ joinL [32] (q :: rest)) = _
        rw [ih]
        simp [blank1, h]
    · have hp : pre [c] (d :: r) = false := by simp [pre, h]
      rw [spl_miss hp, join_spl c r]
      simp [blank1, h]
theorem repl_tl (x : Str) {c : Nat} (hc : c < 256) : tl (Txt.replace x ⟨#[c]⟩ ⟨#[32]⟩) = (tl x).map (blank1 c) := by
  rw [PySem.StrLaws.replace_one, tl_join, split_spl x ⟨#[c]⟩ (by show [c] ≠ []; simp) ?_]
  · show joinL [32] (spl [c] 0 [] (tl x)) = _
    rw [join_spl]
    simp
  · exact kind_ok (by simp [hc])
namespace Tm
def sgn : Tm → List Str
  | v n => ["x" ++ Str.ofString (toString n)]
  | z => ["0"]
  | s t => "s" :: t.sgn
  | f l r => "f" :: (l.sgn ++ r.sgn)
theorem sgn_len : ∀ t : Tm, t.sgn.length = t.size
  | v _ => rfl | z => rfl | s t => by simp [sgn, size, sgn_len t]
  | f l r => by simp [sgn, size, sgn_len l, sgn_len r]
end Tm
def b3 (d : Nat) : Nat := blank1 44 (blank1 41 (blank1 40 d))
theorem b3_same {d : Nat} (h : d ≠ 40 ∧ d ≠ 41 ∧ d ≠ 44) : b3 d = d := by
  unfold b3 blank1
  rw [if_neg h.1, if_neg h.2.1, if_neg h.2.2]
theorem b3_num {l : List Nat} (h : ∀ d ∈ l, 48 ≤ d ∧ d ≤ 57) : l.map b3 = l := by
  have : l.map b3 = l.map id := List.map_congr_left fun d hd => b3_same (by have := h d hd; omega)
  rw [this, List.map_id]
theorem numL_small (n : Nat) : ∀ d ∈ numL n, 48 ≤ d ∧ d ≤ 57 := fun d hd => numL_digits n d hd
def spc (t : Tm) : List Nat := (tl t.txt).map b3
theorem t_x : tl ("x" : Str) = [120] := by decide +kernel
theorem t_0 : tl ("0" : Str) = [48] := by decide +kernel
theorem t_s : tl ("s" : Str) = [115] := by decide +kernel
theorem t_f : tl ("f" : Str) = [102] := by decide +kernel
theorem t_open : tl ("(" : Str) = [40] := by decide +kernel
theorem t_close : tl (")" : Str) = [41] := by decide +kernel
theorem t_comma : tl ("," : Str) = [44] := by decide +kernel
theorem tl_int {n : Int} (h : 0 ≤ n) : tl (Str.ofString (toString n)) = numL n.toNat := by
  obtain ⟨k, rfl⟩ := Int.eq_ofNat_of_zero_le h
  rw [tl_num]
  rfl
theorem spc_v {n : Int} (h : 0 ≤ n) : spc (.v n) = 120 :: numL n.toNat := by
  show (tl (("x" : Str) ++ Str.ofString (toString n))).map b3 = _
  rw [tl_append, t_x, tl_int h, List.map_append, b3_num (numL_small _)]
  rfl
theorem spc_z : spc .z = [48] := by decide +kernel
theorem spc_s (t : Tm) : spc (.s t) = 115 :: 32 :: (spc t ++ [32]) := by
  show (tl (("s" : Str) ++ "(" ++ Txt.join "," [t.txt] ++ ")")).map b3 = _
  rw [join1, tl_append, tl_append, tl_append, t_s, t_open, t_close, List.map_append, List.map_append]
  rfl
theorem spc_f (l r : Tm) : spc (.f l r) = 102 :: 32 :: (spc l ++ 32 :: (spc r ++ [32])) := by
  show (tl (("f" : Str) ++ "(" ++ Txt.join "," [l.txt, r.txt] ++ ")")).map b3 = _
  rw [join2, tl_append, tl_append, tl_append, tl_append, tl_append, t_f, t_open, t_close, t_comma]
  simp only [List.map_append]
  show [102] ++ [32] ++ (spc l ++ [32] ++ spc r) ++ [32] = _
  simp
theorem space32 : Unicode.isSpace 32 = true := by decide +kernel
theorem nosp {d : Nat} (h : (48 ≤ d ∧ d ≤ 57) ∨ d = 115 ∨ d = 102 ∨ d = 120) : Unicode.isSpace d = false := by
  have all : ∀ k : Fin 128, ((48 ≤ k.val ∧ k.val ≤ 57) ∨ k.val = 115 ∨ k.val = 102 ∨ k.val = 120) → Unicode.isSpace k.val = false := by decide +kernel
  exact all ⟨d, by omega⟩ h
theorem word_step {p : List Nat} (hp : p ≠ []) (h : ∀ c ∈ p, Unicode.isSpace c = false) (ws : List (List Nat)) (rest : List Nat) : (p ++ 32 :: rest).foldl wstep (ws, []) = rest.foldl wstep (ws ++ [p], []) := by
  rw [List.foldl_append, wfold_word p ws [] h, List.nil_append, List.foldl_cons]
  have : wstep (ws, p) 32 = (ws ++ [p], []) := by unfold wstep; rw [if_pos space32]; exact if_neg hp
  rw [this]
theorem gap_step (ws : List (List Nat)) (rest : List Nat) : (32 :: rest).foldl wstep (ws, []) = rest.foldl wstep (ws, []) := by
  rw [List.foldl_cons]
  have : wstep (ws, []) 32 = (ws, []) := by unfold wstep; rw [if_pos space32]; exact if_pos rfl
  rw [this]
theorem fold_spc : ∀ (t : Tm) (_ : t.small) (ws : List (List Nat)) (rest : List Nat), (spc t ++ 32 :: rest).foldl wstep (ws, []) = rest.foldl wstep (ws ++ t.sgn.map tl, [])
  | .v n, h, ws, rest => by
    have h0 := (h n (by simp [Tm.nums])).1
    rw [spc_v h0, word_step (by simp) ?_]
    · show _ = List.foldl wstep (ws ++ [tl (("x" : Str) ++ Str.ofString (toString n))], []) rest
      rw [tl_append, t_x, tl_int h0]
      rfl
    · intro c hc
      rcases List.mem_cons.mp hc with rfl | hc
      · exact nosp (.inr (.inr (.inr rfl)))
      · exact nosp (.inl (numL_small _ c hc))
  | .z, h, ws, rest => by
    rw [spc_z, word_step (by simp) ?_]
    · show _ = List.foldl wstep (ws ++ [tl ("0" : Str)], []) rest
      rw [t_0]
    · intro c hc
      simp at hc
      exact nosp (.inl (by omega))
  | .s t, h, ws, rest => by
    rw [spc_s]
    show ([115] ++ 32 :: ((spc t ++ [32]) ++ 32 :: rest)).foldl wstep (ws, []) = _
    rw [word_step (by simp) (by intro c hc; simp at hc; exact nosp (.inr (.inl hc)))]
    rw [show (spc t ++ [32]) ++ 32 :: rest = spc t ++ 32 :: (32 :: rest) by simp, fold_spc t h, gap_step]
    simp [Tm.sgn, t_s]
  | .f l r, h, ws, rest => by
    rw [spc_f]
    show ([102] ++ 32 :: ((spc l ++ 32 :: (spc r ++ [32])) ++ 32 :: rest)).foldl wstep (ws, []) = _
    rw [word_step (by simp) (by intro c hc; simp at hc; exact nosp (.inr (.inr (.inl hc))))]
    rw [show (spc l ++ 32 :: (spc r ++ [32])) ++ 32 :: rest = spc l ++ 32 :: (spc r ++ 32 :: (32 :: rest)) by simp,
      fold_spc l (fun n hn => h n (by simp [Tm.nums, hn])), fold_spc r (fun n hn => h n (by simp [Tm.nums, hn])), gap_step]
    simp [Tm.sgn, t_f]
theorem wfin_gap (st : List (List Nat) × List Nat) : wfin (wstep st 32) = wfin st := by
  unfold wstep wfin
  rw [if_pos space32]
  by_cases h : st.2 = []
  · rw [if_pos h, if_pos h]
  · rw [if_neg h, if_neg h]
    simp
/-- the text with brackets and commas blanked -/
def blanked (x : Str) : Str := Txt.replace (Txt.replace (Txt.replace x "(" " ") ")" " ") "," " "
theorem blanked_tl (x : Str) : tl (blanked x) = (tl x).map b3 := by
  have e32 : (" " : Str) = ⟨#[32]⟩ := by decide +kernel
  have e40 : ("(" : Str) = ⟨#[40]⟩ := by decide +kernel
  have e41 : (")" : Str) = ⟨#[41]⟩ := by decide +kernel
  have e44 : ("," : Str) = ⟨#[44]⟩ := by decide +kernel
  unfold blanked
  rw [e32, e40, e41, e44, repl_tl _ (by decide), repl_tl _ (by decide), repl_tl _ (by decide), List.map_map, List.map_map]
  rfl
theorem words_txt (t : Tm) (h : t.small) : Txt.words (blanked t.txt) = t.sgn := by
  refine map_tl_inj ?_
  rw [words_tl, blanked_tl]
  show wfin ((spc t).foldl wstep ([], [])) = _
  rw [← wfin_gap]
  have : wstep ((spc t).foldl wstep ([], [])) 32 = (spc t ++ 32 :: []).foldl wstep ([], []) := by rw [List.foldl_append]; rfl
  rw [this, fold_spc t h]
  simp [wfin]
theorem blanked_len (x : Str) : (blanked x).length = x.length := by
  rw [len_tl, len_tl, blanked_tl, List.length_map]
end Rp

namespace Rp
open PySem PySem.Spec PyProof.Rows L2 TL
/-- the sign of a variable -/
def xn (n : Int) : Str := "x" ++ Str.ofString (toString n)
theorem xn_facts {n : Int} (h : 0 ≤ n ∧ n ≤ 99) : cutS (xn n) none (some 1) = "x" ∧ (xn n).length ≤ 3 ∧ cutS (xn n) (some 1) none = Str.ofString (toString n) ∧ Txt.isdecimal (Str.ofString (toString n)) = true ∧ intText? (Str.ofString (toString n)) = some n ∧
    xn n ≠ "0" ∧ xn n ≠ "s" ∧ xn n ≠ "f" := by
  have all : ∀ k : Fin 100, cutS (xn (k.val : Int)) none (some 1) = "x" ∧ (xn (k.val : Int)).length ≤ 3 ∧ cutS (xn (k.val : Int)) (some 1) none = Str.ofString (toString (k.val : Int)) ∧ Txt.isdecimal (Str.ofString (toString (k.val : Int))) = true ∧
    xn (k.val : Int) ≠ "0" ∧ xn (k.val : Int) ≠ "s" ∧ xn (k.val : Int) ≠ "f" := by decide +kernel
  obtain ⟨k, rfl⟩ := Int.eq_ofNat_of_zero_le h.1
  obtain ⟨a, b, c, d, e, f, g⟩ := all ⟨k, by omega⟩
  exact ⟨a, b, c, d, int_num (Nat.le_trans (numL_len (k := 2) (by decide) (by omega)) (by decide)), e, f, g⟩
def spNumberOf : Sp := fun vs H Q _ => ∃ n : Int, vs = [.str (xn n)] ∧ 0 ≤ n ∧ n ≤ 99 ∧ Q (.int n) H
section
variable {P : Program} {w : World} {K : PySem.W.Frag} {mg : Str → Option Value} {base : Heap}
theorem scNumberOf : FnScope ["sign"] ["sign"] (defScope sNumberOf) := ⟨rfl, rfl, rfl, by decide +kernel, rfl, by decide +kernel, by decide +kernel⟩
theorem ok_numberof {f : Addr} {fd : FuncData} (F : Fun K "_number_of" "_number_of" sNumberOf f fd) (mLen : mg "len" = none) (mInt : mg "int" = none) : FnOk P w K mg base CX0 1 f fd ["sign"] spNumberOf := by
  refine F.ok scNumberOf (fun vs H Q E h => ?_) (fun cdv A outer s H vs Q E hr h => ?_)
  · obtain ⟨n, rfl, _⟩ := h
    rfl
  obtain ⟨n, rfl, h0, h1, q⟩ := h
  refine ⟨_, pss_cons (ps_if (PW.pt (pw_and (pt_cmpR op_eq (pe_slice sl_str (pv 0) po_none (po_some pe_int)) pe_str (nomark _))
      (pw_and (pt_cmpR op_le (pe_callB call_len_str (by rfl) mLen PySem.boot_len (pa_cons (pv 0) pa_nil)) pe_int (nomark _))
      (pw_and1 (pt_val (pe_bm0 PySem.F.plainAttrs_str PySem.F.slot_str_isdecimal PySem.F.type_str_isdecimal mt_isdecimal (pe_slice sl_str (pv 0) (po_some pe_int) po_none)))))))
      (pss_one (ps_ret (pe_callTy call_int_str (by rfl) mInt (by decide +kernel) (pa_cons (pe_slice sl_str (pv 0) (po_some pe_int) po_none) pa_nil)))) pss_nil)
    (pss_one (ps_ret pe_non)), ?_⟩
  obtain ⟨f1, f2, f3, f4, f5, _⟩ := xn_facts ⟨h0, h1⟩
  have big : (10000 : Nat) ≤ sizeLine := by decide
  have nl := num_len ⟨h0, h1⟩
  refine ⟨_, rfl, 1, rfl, xn n, rfl, by omega, ?_⟩
  rw [f1]
  refine ⟨rfl, true, congrArg V.bl (decide_eq_true rfl), iteT ?_⟩
  refine ⟨_, rfl, xn n, rfl, by omega, _, _, rfl, rfl, true, congrArg V.bl (decide_eq_true (by omega)), iteT ?_⟩
  refine ⟨_, rfl, 1, rfl, xn n, rfl, by omega, rfl, _, rfl, rfl, trivial, true, ?_, iteT ?_⟩
  · rw [f3, f4]
  · refine ⟨_, rfl, 1, rfl, xn n, rfl, by omega, _, n, rfl, ?_, ?_, q⟩
    · rw [f3]; exact f5
    · rw [f3]; omega
end
end Rp

namespace Rp
open PySem PySem.Spec PyProof.Rows L2 TL
namespace Tm
/-- the parts, each ahead of its own -/
def ahead : Tm → List Tm
  | v n => [v n] | z => [z] | s t => s t :: t.ahead | f l r => f l r :: (l.ahead ++ r.ahead)
def sign1 : Tm → Str
  | v n => xn n | z => "0" | s _ => "s" | f _ _ => "f"
theorem sgn_ahead : ∀ t : Tm, t.sgn = t.ahead.map sign1
  | v n => rfl | z => rfl | s t => by simp [sgn, ahead, sign1, sgn_ahead t]
  | f l r => by simp [sgn, ahead, sign1, sgn_ahead l, sgn_ahead r]
theorem ahead_len : ∀ t : Tm, t.ahead.length = t.size
  | v _ => rfl | z => rfl | s t => by simp [ahead, size, ahead_len t]
  | f l r => by simp [ahead, size, ahead_len l, ahead_len r]
end Tm
theorem ahead_small : ∀ {t k : Tm}, k ∈ t.ahead → t.small → k.small
  | .v n, k, h, s => by simp [Tm.ahead] at h; subst h; exact s
  | .z, k, h, s => by simp [Tm.ahead] at h; subst h; exact s
  | .s t, k, h, s => by
    simp [Tm.ahead] at h
    rcases h with rfl | h
    · exact s
    · exact ahead_small (t := t) h s
  | .f l r, k, h, s => by
    simp [Tm.ahead] at h
    rcases h with rfl | h | h
    · exact s
    · exact ahead_small (t := l) h fun n hn => s n (by simp [Tm.nums, hn])
    · exact ahead_small (t := r) h fun n hn => s n (by simp [Tm.nums, hn])
def runsR : List Tm → List Tm → List Tm → Prop
  | S, [], S' => S = S'
  | S, k :: r, S' => ∃ S0, S = S0 ++ k.kids.reverse ∧ runsR (S0 ++ [k]) r S'
theorem runsR_post : ∀ (t : Tm) (S r S' : List Tm), runsR (S ++ [t]) r S' → runsR S (t.ahead.reverse ++ r) S'
  | .v n, S, r, S', h => by simp only [Tm.ahead, List.reverse_singleton, List.singleton_append]; exact ⟨S, by simp [Tm.kids], h⟩
  | .z, S, r, S', h => by simp only [Tm.ahead, List.reverse_singleton, List.singleton_append]; exact ⟨S, by simp [Tm.kids], h⟩
  | .s t, S, r, S', h => by
    simp only [Tm.ahead, List.reverse_cons, List.append_assoc, List.singleton_append]
    exact runsR_post t S _ _ ⟨S, by simp [Tm.kids], h⟩
  | .f l r', S, r, S', h => by
    simp only [Tm.ahead, List.reverse_cons, List.reverse_append, List.append_assoc, List.singleton_append]
    exact runsR_post r' S _ _ (runsR_post l (S ++ [r']) _ _ ⟨S, by simp [Tm.kids], h⟩)
def spFromSigns : Sp := fun vs H Q _ => ∃ (p : Addr) (t : Tm), vs = [.ref p] ∧ H p = some (.lst (t.sgn.map V.str)) ∧ t.small ∧ t.size ≤ 1000 ∧ ∀ (v : V) (H' : Hp), TmAt H' v t → Same H H' → Q v H'
theorem str_ne {x y : Str} (h : x ≠ y) : decide (V.str x = V.str y) = false := decide_eq_false fun z => h (V.str.inj z)
section
variable {P : Program} {w : World} {K : PySem.W.Frag} {mg : Str → Option Value} {base : Heap}
theorem scFromSigns : FnScope ["signs", "made", "sign", "left"] ["signs"] (defScope sFromSigns) := ⟨rfl, rfl, rfl, by decide +kernel, rfl, by decide +kernel, by decide +kernel⟩
theorem ok_fromsigns {f fN : Addr} {fd dN : FuncData} (F : Fun K "_from_signs" "_from_signs" sFromSigns f fd)
    (GN : FnOk P w K mg base CX0 1 fN dN ["sign"] spNumberOf) (kN : PySem.W.keepIn K (.ref fN) = true) (bN : Binds K dN ["sign"] []) (mN : mg "_number_of" = some (.ref fN))
    (mLen : mg "len" = none) (mRev : mg "reversed" = none) : FnOk P w K mg base CX0 2 f fd ["signs"] spFromSigns := by
  refine F.ok scFromSigns (fun vs H Q E h => ?_) (fun cdv A outer s H vs Q E hr h => ?_)
  · obtain ⟨p, t, rfl, _⟩ := h
    rfl
  obtain ⟨p, t, rfl, hp, sm, sz, q⟩ := h
  refine ⟨_, pss_cons (ps_set (i := 1) scFromSigns.nd rfl (Or.inl rfl) (pe_lst pa_nil))
    (pss_cons (ps_for PassesOwn.never rfl (pi_reversed (by rfl) mRev (pa_cons (pv 0) pa_nil)) (pg_name (i := 2) scFromSigns.nd rfl (Or.inl rfl))
      (pss_one (ps_if (pt_cmpR op_eq (pv 2) pe_str (nomark _)) (pss_one (ps_expr (pe_bm PySem.F.plainAttrs_list PySem.F.slot_list_append PySem.F.type_list_append mt_append (pv 1) (pa_cons (pe_tup (pa_cons pe_str pa_nil)) pa_nil))))
      (pss_one (ps_if (PW.pt (pw_and (pt_cmpR op_eq (pv 2) pe_str (nomark _)) (pw_and1 (pt_truth (pv 1) (by intro _; rfl)))))
        (pss_one (ps_expr (pe_bm PySem.F.plainAttrs_list PySem.F.slot_list_append PySem.F.type_list_append mt_append (pv 1) (pa_cons (pe_tup (pa_cons pe_str (pa_cons (pe_bm0 PySem.F.plainAttrs_list PySem.F.slot_list_pop PySem.F.type_list_pop mt_pop (pv 1)) pa_nil))) pa_nil))))
      (pss_one (ps_if (PW.pt (pw_and (pt_cmpR op_eq (pv 2) pe_str (nomark _)) (pw_and1 (pt_cmpR op_gt (pe_callB call_len_seq (by rfl) mLen PySem.boot_len (pa_cons (pv 1) pa_nil)) pe_int (nomark _)))))
        (pss_cons (ps_set (i := 3) scFromSigns.nd rfl (Or.inl rfl) (pe_bm0 PySem.F.plainAttrs_list PySem.F.slot_list_pop PySem.F.type_list_pop mt_pop (pv 1)))
        (pss_one (ps_expr (pe_bm PySem.F.plainAttrs_list PySem.F.slot_list_append PySem.F.type_list_append mt_append (pv 1) (pa_cons (pe_tup (pa_cons pe_str (pa_cons (pv 3) (pa_cons (pe_bm0 PySem.F.plainAttrs_list PySem.F.slot_list_pop PySem.F.type_list_pop mt_pop (pv 1)) pa_nil)))) pa_nil)))))
      (pss_one (ps_if (pt_cmpR op_notN (pe_call GN hr rfl mN kN bN .nil pass0 (pa_cons (pv 2) pa_nil)) pe_non (nomark _))
        (pss_one (ps_expr (pe_bm PySem.F.plainAttrs_list PySem.F.slot_list_append PySem.F.type_list_append mt_append (pv 1) (pa_cons (pe_call GN hr rfl mN kN bN .nil pass0 (pa_cons (pv 2) pa_nil)) pa_nil))))
        (pss_one (ps_ret pe_non)))))))))))
    (pss_one (ps_ret (pe_ifExp (pt_cmpR op_eq (pe_callB call_len_seq (by rfl) mLen PySem.boot_len (pa_cons (pv 1) pa_nil)) pe_int (nomark _)) (pe_ix ix_list (pv 1) pe_int (fun _ _ => rfl)) pe_non)))), ?_⟩
  refine ⟨(by show 0 ≤ sizeLine; decide), fun m hm => ?_⟩
  have s0 := same_new hm (.lst ([] : List V))
  have hp1 := s0 _ _ hp
  have pm : p ≠ m := ne_of_none hp hm
  have big : (10000 : Nat) ≤ sizeLine := by decide
  have xl : (t.sgn.map V.str).length = t.size := by rw [List.length_map, Tm.sgn_len]
  have al : t.ahead.length = t.size := Tm.ahead_len t
  refine ⟨_, rfl, p, _, rfl, .inl (.inl hp1), RT.for_Itv (K := K) (a := p) (xs := t.sgn.map V.str) (fun i σ H2 => ∃ (S : List Tm) (ws : List V) (x2 x3 : Option V), σ = [some (.ref p), some (.ref m), x2, x3] ∧ H2 m = some (.lst ws) ∧ AllAt H2 ws S ∧
      runsR S (t.ahead.reverse.drop i) [t] ∧ S.length ≤ i ∧ But m (upd H m (.lst ([] : List V))) H2) ⟨[], [], none, none, rfl, upd_same, trivial, ?_, by simp, But.refl _ _⟩ (fun i σ H2 ⟨_, _, _, _, _, _, _, _, _, o⟩ => .inl (.inl (o _ _ hp1 pm))) ?_ ?_⟩
  · have := runsR_post t [] [] [t] rfl
    simpa using this
  · rintro i x σ H2 hi hx ⟨S, ws, x2, x3, rfl, h2, AS, run, sl, o2⟩
    rw [xl] at hi hx
    have li : i < t.ahead.reverse.length := by rw [List.length_reverse]; omega
    obtain ⟨k, hk⟩ : ∃ k, t.ahead.reverse[i]? = some k := ⟨_, List.getElem?_eq_getElem li⟩
    have ex : x = .str k.sign1 := by
      rw [Tm.sgn_ahead, List.map_map, List.getElem?_map] at hx
      rw [List.getElem?_reverse (by omega), al] at hk
      rw [hk] at hx
      simpa using hx.symm
    subst ex
    have ek : t.ahead.reverse.drop i = k :: t.ahead.reverse.drop (i + 1) := by
      rw [List.drop_eq_getElem_cons li, (List.getElem?_eq_some_iff.mp hk).2]
    rw [ek] at run
    obtain ⟨S0, rfl, run⟩ := run
    have km : k ∈ t.ahead := List.mem_reverse.mp (List.mem_of_getElem? hk)
    have smk := ahead_small km sm
    have wl := AS.len
    rw [List.length_append] at sl
    have mNone : H m = none := hm
    have n0s : ("0" : Str) ≠ "s" := by decide +kernel
    have n0f : ("0" : Str) ≠ "f" := by decide +kernel
    have nsf : ("s" : Str) ≠ "f" := by decide +kernel
    have nall : ∀ (g : Addr) (H3 : Hp), H3 g = none → (∀ c o, (upd H m (.lst ([] : List V))) c = some o → c ≠ m → H3 c = some o) → ∀ c o, (upd H m (.lst ([] : List V))) c = some o → c ≠ m → c ≠ g := fun g H3 hg st c o z nc e => by
      subst e
      have := st c o z nc
      rw [hg] at this
      cases this
    cases k with
    | v n =>
      have hn := smk n (by simp [Tm.nums])
      obtain ⟨_, _, _, _, _, g0, gs, gf⟩ := xn_facts hn
      have e0 : S0 ++ (Tm.v n).kids.reverse = S0 := by simp [Tm.kids]
      rw [e0] at AS wl
      refine ⟨_, rfl, rfl, false, congrArg V.bl (str_ne g0), iteF ?_⟩
      refine ⟨_, rfl, rfl, false, congrArg V.bl (str_ne gs), iteF ?_⟩
      refine iteF ?_
      refine ⟨_, rfl, rfl, false, congrArg V.bl (str_ne gf), iteF ?_⟩
      refine iteF ?_
      refine ⟨_, rfl, n, rfl, hn.1, hn.2, rfl, true, congrArg (fun z => V.bl (!z)) (decide_eq_false (fun z => nomatch z)), iteT ?_⟩
      refine ⟨_, rfl, .inl ⟨rfl, _, .inl (.inl h2)⟩, _, rfl, n, rfl, hn.1, hn.2, m, ws, _, rfl, rfl, h2, by omega, ?_⟩
      refine ⟨S0 ++ [.v n], ws ++ [.int n], _, _, rfl, upd_same, ?_, run, by rw [List.length_append, List.length_singleton]; omega, fun c o z nc => by rw [upd_ne nc]; exact o2 c o z nc⟩
      have keep : ∀ a xs, H2 a = some (.tup xs) → (upd H2 m (.lst (ws ++ [.int n]))) a = some (.tup xs) := fun a xs z => by rw [upd_ne (ne_of z h2 (by intro z; cases z))]; exact z
      exact (AS.mono keep).append ⟨.v n, trivial⟩
    | z =>
      have e0 : S0 ++ (Tm.z).kids.reverse = S0 := by simp [Tm.kids]
      rw [e0] at AS wl
      refine ⟨_, rfl, rfl, true, congrArg V.bl (decide_eq_true rfl), iteT ?_⟩
      refine ⟨_, rfl, .inl ⟨rfl, _, .inl (.inl h2)⟩, (by show 1 ≤ sizeLine; decide), fun g hg => ?_⟩
      have s3 := same_new hg (.tup [V.str "0"])
      have h3 := s3 _ _ h2
      refine ⟨m, ws, _, rfl, rfl, h3, by omega, ?_⟩
      have keep : ∀ a xs, (upd H2 g (.tup [V.str "0"])) a = some (.tup xs) → (upd (upd H2 g (.tup [V.str "0"])) m (.lst (ws ++ [.ref g]))) a = some (.tup xs) := fun a xs z => by rw [upd_ne (ne_of z h3 (by intro z; cases z))]; exact z
      refine ⟨S0 ++ [.z], ws ++ [.ref g], _, _, rfl, upd_same, ?_, run, by rw [List.length_append, List.length_singleton]; omega, fun c o z nc => by rw [upd_ne nc]; exact s3 _ _ (o2 c o z nc)⟩
      exact (AS.mono fun a xs z => keep a xs (s3 _ _ z)).append ⟨.z (keep _ _ upd_same), trivial⟩
    | s t' =>
      obtain ⟨w0, w1, rfl, A0, A1⟩ : ∃ w0 w1, ws = w0 ++ [w1] ∧ AllAt H2 w0 S0 ∧ TmAt H2 w1 t' := by
        rcases List.eq_nil_or_concat ws with e | ⟨M, y, e⟩
        · subst e; simp [Tm.kids] at wl
        · rw [List.concat_eq_append] at e
          subst e
          obtain ⟨L1, L2, e2, B1, B2⟩ := AS.parted
          match L2, B2 with
          | [u], B2 =>
            have e2' : S0 ++ [t'] = L1 ++ [u] := e2
            obtain ⟨e3, e4⟩ := List.append_inj' e2' rfl
            injection e4 with e4
            subst e3 e4
            exact ⟨M, y, rfl, B1, B2.1⟩
      refine ⟨_, rfl, rfl, false, congrArg V.bl (str_ne n0s.symm), iteF ?_⟩
      refine ⟨_, rfl, rfl, true, congrArg V.bl (decide_eq_true rfl), iteT ?_⟩
      refine ⟨_, rfl, true, .inl ⟨_, .inl (.inl h2), by simp⟩, iteT ?_⟩
      refine ⟨_, rfl, .inl ⟨rfl, _, .inl (.inl h2)⟩, _, rfl, .inl ⟨rfl, _, .inl (.inl h2)⟩, m, _, w1, rfl, rfl, h2, by simp, (by show 2 ≤ sizeLine; decide), fun g hg => ?_⟩
      rw [List.dropLast_concat] at hg ⊢
      have s3 := same_new hg (.tup [V.str "s", w1])
      have hm3 := s3 _ _ (upd_same : (upd H2 m (.lst w0)) m = some (.lst w0))
      have sl' : w0.length < sizeLine := by rw [A0.len]; omega
      refine ⟨m, w0, _, rfl, rfl, hm3, sl', ?_⟩
      have k1 : ∀ a xs, H2 a = some (.tup xs) → (upd H2 m (.lst w0)) a = some (.tup xs) := fun a xs z => by rw [upd_ne (ne_of z h2 (by intro z; cases z))]; exact z
      have k2 : ∀ a xs, (upd (upd H2 m (.lst w0)) g (.tup [V.str "s", w1])) a = some (.tup xs) → (upd (upd (upd H2 m (.lst w0)) g (.tup [V.str "s", w1])) m (.lst (w0 ++ [.ref g]))) a = some (.tup xs) := fun a xs z => by rw [upd_ne (ne_of z hm3 (by intro z; cases z))]; exact z
      have k3 : ∀ a xs, H2 a = some (.tup xs) → (upd (upd (upd H2 m (.lst w0)) g (.tup [V.str "s", w1])) m (.lst (w0 ++ [.ref g]))) a = some (.tup xs) := fun a xs z => k2 a xs (s3 _ _ (k1 a xs z))
      refine ⟨S0 ++ [.s t'], w0 ++ [.ref g], _, _, rfl, upd_same, (A0.mono k3).append ⟨.s (k2 _ _ upd_same) (A1.mono k3), trivial⟩, run, by rw [List.length_append, List.length_singleton]; omega, fun c o z nc => ?_⟩
      rw [upd_ne nc]
      exact s3 _ _ (by rw [upd_ne nc]; exact o2 c o z nc)
    | f l r =>
      obtain ⟨w0, wr, wl', rfl, A0, Ar, Al⟩ : ∃ w0 wr wl', ws = w0 ++ [wr] ++ [wl'] ∧ AllAt H2 w0 S0 ∧ TmAt H2 wr r ∧ TmAt H2 wl' l := by
        have eS : S0 ++ (Tm.f l r).kids.reverse = S0 ++ [r] ++ [l] := by simp [Tm.kids]
        rw [eS] at AS wl
        rcases List.eq_nil_or_concat ws with e | ⟨M, y, e⟩
        · subst e; simp at wl
        · rw [List.concat_eq_append] at e
          subst e
          obtain ⟨L1, L2, e2, B1, B2⟩ := AS.parted
          match L2, B2 with
          | [u], B2 =>
            obtain ⟨e3, e4⟩ := List.append_inj' e2 rfl
            injection e4 with e4
            subst e3 e4
            rcases List.eq_nil_or_concat M with e | ⟨M', y', e⟩
            · subst e; have := B1.len; simp at this
            · rw [List.concat_eq_append] at e
              subst e
              obtain ⟨L3, L4, e5, B3, B4⟩ := B1.parted
              match L4, B4 with
              | [u'], B4 =>
                obtain ⟨e6, e7⟩ := List.append_inj' e5 rfl
                injection e7 with e7
                subst e6 e7
                exact ⟨M', y', y, rfl, B3, B4.1, B2.1⟩
      have hl2 : decide ((1 : Int) < (((w0 ++ [wr] ++ [wl']).length : Nat) : Int)) = true := decide_eq_true (by simp; omega)
      refine ⟨_, rfl, rfl, false, congrArg V.bl (str_ne n0f.symm), iteF ?_⟩
      refine ⟨_, rfl, rfl, false, congrArg V.bl (str_ne nsf.symm), iteF ?_⟩
      refine iteF ?_
      refine ⟨_, rfl, rfl, true, congrArg V.bl (decide_eq_true rfl), iteT ?_⟩
      refine ⟨_, rfl, m, _, rfl, .inl (.inl (.inl h2)), _, _, rfl, rfl, true, congrArg V.bl hl2, iteT ?_⟩
      refine ⟨_, rfl, .inl ⟨rfl, _, .inl (.inl h2)⟩, m, _, wl', rfl, rfl, h2, by simp, ?_⟩
      rw [List.dropLast_concat]
      have h3 : (upd H2 m (.lst (w0 ++ [wr]))) m = some (.lst (w0 ++ [wr])) := upd_same
      refine ⟨_, rfl, .inl ⟨rfl, _, .inl (.inl h3)⟩, _, rfl, _, rfl, .inl ⟨rfl, _, .inl (.inl h3)⟩, m, _, wr, rfl, rfl, h3, by simp, (by show 3 ≤ sizeLine; decide), fun g hg => ?_⟩
      rw [List.dropLast_concat, upd_upd] at hg ⊢
      have s3 := same_new hg (.tup [V.str "f", wl', wr])
      have hm3 := s3 _ _ (upd_same : (upd H2 m (.lst w0)) m = some (.lst w0))
      have sl' : w0.length < sizeLine := by rw [A0.len]; omega
      refine ⟨m, w0, _, rfl, rfl, hm3, sl', ?_⟩
      have k1 : ∀ a xs, H2 a = some (.tup xs) → (upd H2 m (.lst w0)) a = some (.tup xs) := fun a xs z => by rw [upd_ne (ne_of z h2 (by intro z; cases z))]; exact z
      have k2 : ∀ a xs, (upd (upd H2 m (.lst w0)) g (.tup [V.str "f", wl', wr])) a = some (.tup xs) → (upd (upd (upd H2 m (.lst w0)) g (.tup [V.str "f", wl', wr])) m (.lst (w0 ++ [.ref g]))) a = some (.tup xs) := fun a xs z => by rw [upd_ne (ne_of z hm3 (by intro z; cases z))]; exact z
      have k3 : ∀ a xs, H2 a = some (.tup xs) → (upd (upd (upd H2 m (.lst w0)) g (.tup [V.str "f", wl', wr])) m (.lst (w0 ++ [.ref g]))) a = some (.tup xs) := fun a xs z => k2 a xs (s3 _ _ (k1 a xs z))
      refine ⟨S0 ++ [.f l r], w0 ++ [.ref g], _, _, rfl, upd_same, (A0.mono k3).append ⟨.f (k2 _ _ upd_same) (Al.mono k3) (Ar.mono k3), trivial⟩, run, by rw [List.length_append, List.length_singleton]; omega, fun c o z nc => ?_⟩
      rw [upd_ne nc]
      exact s3 _ _ (by rw [upd_ne nc]; exact o2 c o z nc)
  · rintro σ H2 ⟨S, ws, x2, x3, rfl, h2, AS, run, sl, o2⟩
    rw [List.drop_of_length_le (by rw [List.length_reverse, xl, al]; exact Nat.le_refl _)] at run
    obtain rfl : S = [t] := run
    match ws, AS with
    | [x], AS =>
      refine ⟨_, rfl, m, _, rfl, .inl (.inl (.inl h2)), rfl, true, congrArg V.bl (decide_eq_true rfl), iteT ?_⟩
      refine ⟨_, rfl, m, _, _, _, rfl, rfl, .inl (.inl h2), at_of (j := 0) rfl rfl, q x H2 AS.1 ?_⟩
      exact fun c o z => o2 c o (s0 _ _ z) (ne_of_none z hm)
end
end Rp

namespace Rp
open PySem PySem.Spec PyProof.Rows L2 TL CwR
section
variable {X : Cx} {o e : Expr} {to te : TE}
/-- words of what wants a token -/
theorem pet_words {apos pos : Pos} (ho : PET X o to) (hbase : attributeBase o "split" X.env (eval o X.env) = eval o X.env := by rfl) (hline : (apos.endLine == pos.line) = true := by rfl) :
    PET X (.Call (.Attribute o "split" apos) [] [] pos) (tM0 (fun x xs H Q => ∃ a, x = .str a ∧ xs = [] ∧ a.length + 2 ≤ sizeLine ∧ rNewStrs (Txt.words a) H Q) to) := by
  intro pins s σ H Q tk I h
  refine PySem.Call_method0 hbase hline (thn (ho pins s σ H _ tk I h) fun recv s1 ⟨x, H1, I1, rel, told, go⟩ => ?_)
  obtain ⟨text, rfl⟩ := told
  obtain ⟨tok, rfl⟩ := _root_.id rel
  exact ⟨"str", _, PySem.F.plainAttrs_str, PySem.F.slot_str_split, PySem.F.type_str_split, typeIs_str _ _ _, (fun _ z => nomatch z), Calls.callWith_builtin rfl (PySem.evalArgs_none (mt_words pins s1 σ H1 _ [] _ [] Q I1 rel .nil go))⟩
/-- name = e, e wants a token -/
theorem pst_set {i : Nat} {x : Str} {pos pos' : Pos} (hN : X.N.Nodup) (hi : X.N[i]? = some x) (hx : Loc X.env.scope x) (he : PET X e te) (hs : swapsWith e (some (.Name x pos')) pos.line X.env = pure false := by rfl)
    (hf : X.fn x = true ∨ X.env.scope.names.lookup x = some .local := by first | exact .inl rfl | exact .inr rfl | assumption) : PST X (.Assign [.Name x pos'] e pos) (tAsg te (gName i)) := by
  intro pins s σ H D tk I h
  refine wpAny_Assign_Name (thn (he pins s σ H _ tk I h) fun u s1 ⟨y, H1, I1, rel, go⟩ => store_ok I1 hN hi hx rel (fun s2 I2 => ⟨_, H1, I2, go⟩) hf) hs
end
def spTermOr : Sp := fun vs H Q _ => ∃ t : Tm, vs = [.str t.txt] ∧ t.small ∧ t.size ≤ 200 ∧ ∀ (v : V) (H' : Hp), TmAt H' v t → Same H H' → Q v H'
section
variable {P : Program} {w : World} {K : PySem.W.Frag} {mg : Str → Option Value} {base : Heap}
theorem scTermOr : FnScope ["text", "signs", "term"] ["text"] (defScope sTermOrNone) := ⟨rfl, rfl, rfl, by decide +kernel, rfl, by decide +kernel, by decide +kernel⟩
theorem ok_termor {f fS fT : Addr} {fd dS dT : FuncData} {tk : Tok} (F : Fun K "term_or_none" "term_or_none" sTermOrNone f fd)
    (GS : FnOk P w K mg base CX0 2 fS dS ["signs"] spFromSigns) (kS : PySem.W.keepIn K (.ref fS) = true) (bS : Binds K dS ["signs"] []) (mS : mg "_from_signs" = some (.ref fS))
    (GT : FnOk P w K mg base CX0 4 fT dT ["term"] spTermText) (kT : PySem.W.keepIn K (.ref fT) = true) (bT : Binds K dT ["term"] []) (mT : mg "term_text" = some (.ref fT))
    (mLen : mg "len" = none) (mMost : mg "MOST_SIGNS" = some (.int 200 tk)) : FnOk P w K mg base CX0 5 f fd ["text"] spTermOr := by
  obtain ⟨oc, od, kV, doc, pm, an, cdv, ct, osl, rfl, lk, hcd⟩ := F.ex
  refine fn_ofT lk hcd scTermOr (by decide +kernel) (by decide) (fun vs H Q E h => ?_) (fun A outer s H vs Q E hr h => ?_)
  · obtain ⟨t, rfl, _⟩ := h
    rfl
  obtain ⟨t, rfl, sm, sz, q⟩ := h
  have r2 : Room 2 _ := hr.mono (by decide)
  refine ⟨_, psst_cons (pst_set (i := 1) scTermOr.nd rfl (Or.inl rfl) (pet_words (pet_replT (pet_replT (pet_replC (pv 0))))))
    (PSsT.of (pss_cons (ps_set (i := 2) scTermOr.nd rfl (Or.inl rfl) (pe_ifExp (pt_cmpR op_le (pe_callB call_len_seq (by rfl) mLen PySem.boot_len (pa_cons (pv 1) pa_nil)) (pe_glob (v := .int 200) rfl mMost ⟨_, rfl⟩) (nomark _)) (pe_call GS r2 rfl mS kS bS .nil pass0 (pa_cons (pv 1) pa_nil)) pe_non))
    (pss_cons (ps_if (PW.pt (pw_or (pt_cmpR op_isN (pv 2) pe_non (nomark _)) (pw_or1 (pt_cmpR op_ne (pe_call GT hr rfl mT kT bT .nil pass0 (pa_cons (pv 2) pa_nil)) (pv 0) (nomark _))))) (pss_one (ps_ret pe_non)) pss_nil)
    (pss_one (ps_ret (pv 2)))))), ?_⟩
  have tl_ := txt_len t sm
  have big : (10000 : Nat) ≤ sizeLine := by decide
  have l1 : (" " : Str).length = 1 := by decide +kernel
  have e32 : (" " : Str) = ⟨#[32]⟩ := by decide +kernel
  have e40 : ("(" : Str) = ⟨#[40]⟩ := by decide +kernel
  have e41 : (")" : Str) = ⟨#[41]⟩ := by decide +kernel
  have rl1 : ∀ x : Str, (Txt.replace x "(" " ").length = x.length := fun x => by rw [e32, e40, len_tl, len_tl, repl_tl _ (by decide), List.length_map]
  have rl2 : ∀ x : Str, (Txt.replace x ")" " ").length = x.length := fun x => by rw [e32, e41, len_tl, len_tl, repl_tl _ (by decide), List.length_map]
  refine ⟨_, rfl, t.txt, rfl, by rw [l1]; omega, _, rfl, by rw [l1, rl1]; omega, _, rfl, by rw [l1, rl2, rl1]; omega, ⟨_, rfl⟩, _, rfl, rfl, ?_, fun p hp => ?_⟩
  · show (blanked t.txt).length + 2 ≤ _
    rw [blanked_len]; omega
  have ew : Txt.words (Txt.replace (Txt.replace (Txt.replace t.txt "(" " ") ")" " ") "," " ") = t.sgn := words_txt t sm
  rw [ew]
  have s1 := same_new hp (.lst (t.sgn.map V.str))
  refine ⟨_, rfl, p, _, rfl, .inl (.inl (.inl upd_same)), _, _, rfl, rfl, true, congrArg V.bl (decide_eq_true (by rw [List.length_map, Tm.sgn_len]; omega)), iteT ?_⟩
  refine ⟨_, rfl, p, t, rfl, upd_same, sm, by omega, fun v H2 T s2 => ?_⟩
  have vn : v ≠ .non := by cases T <;> (intro z; cases z)
  refine ⟨_, rfl, rfl, false, congrArg V.bl (decide_eq_false vn), iteF ?_⟩
  refine ⟨_, rfl, v, t, rfl, T, sm, by omega, fun H3 s3 => ⟨_, rfl, rfl, false, congrArg (fun z => V.bl (!z)) (decide_eq_true rfl), iteF ?_⟩⟩
  exact ⟨_, rfl, q v H3 (T.same s3) (s1.trans (s2.trans s3))⟩
theorem scTermIn : FnScope ["text", "term"] ["text"] (defScope sTermIn) := ⟨rfl, rfl, rfl, by decide +kernel, rfl, by decide +kernel, by decide +kernel⟩
theorem ok_termin {f fO : Addr} {fd dO : FuncData} (F : Fun K "term_in" "term_in" sTermIn f fd)
    (GO : FnOk P w K mg base CX0 5 fO dO ["text"] spTermOr) (kO : PySem.W.keepIn K (.ref fO) = true) (bO : Binds K dO ["text"] []) (mO : mg "term_or_none" = some (.ref fO)) : FnOk P w K mg base CX0 6 f fd ["text"] spTermOr := by
  refine F.ok scTermIn (fun vs H Q E h => ?_) (fun cdv A outer s H vs Q E hr h => ?_)
  · obtain ⟨t, rfl, _⟩ := h
    rfl
  obtain ⟨t, rfl, sm, sz, q⟩ := h
  refine ⟨_, pss_cons (ps_set (i := 1) scTermIn.nd rfl (Or.inl rfl) (pe_call GO hr rfl mO kO bO .nil pass0 (pa_cons (pv 0) pa_nil)))
    (pss_cons (ps_if (pt_cmpR op_isN (pv 1) pe_non (nomark _)) pss_never pss_nil) (pss_one (ps_ret (pv 1)))), ?_⟩
  refine ⟨_, rfl, t, rfl, sm, sz, fun v H1 T s1 => ?_⟩
  have vn : v ≠ .non := by cases T <;> (intro z; cases z)
  exact ⟨_, rfl, rfl, false, congrArg V.bl (decide_eq_false vn), iteF ⟨_, rfl, q v H1 T s1⟩⟩
end
end Rp

/-! BINDINGs. -/
namespace Rp
open PySem PySem.Spec PyProof.Rows L2 TL
abbrev Prs := List (Int × Tm)
/-- pairs stand as the values xs -/
def PrAt (H : Hp) : List V → Prs → Prop
  | [], [] => True
  | x :: xs, (n, t) :: ps => (∃ (b : Addr) (y : V), x = .ref b ∧ H b = some (.tup [.int n, y]) ∧ TmAt H y t) ∧ PrAt H xs ps
  | _, _ => False
theorem PrAt.len {H : Hp} : ∀ {xs : List V} {ps : Prs}, PrAt H xs ps → xs.length = ps.length
  | [], [], _ => rfl
  | _ :: _, _ :: _, h => congrArg (· + 1) (PrAt.len h.2)
theorem PrAt.mono {H H' : Hp} (e : ∀ a xs, H a = some (.tup xs) → H' a = some (.tup xs)) : ∀ {xs : List V} {ps : Prs}, PrAt H xs ps → PrAt H' xs ps
  | [], [], _ => trivial
  | _ :: _, _ :: _, h => ⟨let ⟨b, y, e1, e2, e3⟩ := h.1; ⟨b, y, e1, e _ _ e2, e3.mono e⟩, PrAt.mono e h.2⟩
theorem PrAt.append {H : Hp} : ∀ {xs ys : List V} {ps qs : Prs}, PrAt H xs ps → PrAt H ys qs → PrAt H (xs ++ ys) (ps ++ qs)
  | [], _, [], _, _, h => h
  | _ :: _, _, _ :: _, _, h, h' => ⟨h.1, PrAt.append h.2 h'⟩
theorem PrAt.get {H : Hp} : ∀ {xs : List V} {ps : Prs} {i : Nat} {x : V}, PrAt H xs ps → xs[i]? = some x → ∃ p, ps[i]? = some p ∧ ∃ (b : Addr) (y : V), x = .ref b ∧ H b = some (.tup [.int p.1, y]) ∧ TmAt H y p.2
  | _ :: _, (n, t) :: _, 0, _, h, e => by simp at e; subst e; exact ⟨(n, t), rfl, h.1⟩
  | _ :: _, _ :: _, _ + 1, _, h, e => by simpa using PrAt.get h.2 (by simpa using e)
/-- a BINDING stands as v -/
def BiAt (H : Hp) (v : V) (ps : Prs) : Prop := ∃ (a : Addr) (xs : List V), v = .ref a ∧ H a = some (.tup xs) ∧ PrAt H xs ps
structure PrOk (ps : Prs) : Prop where
  num : ∀ p ∈ ps, 0 ≤ p.1 ∧ p.1 ≤ 99
  sm : ∀ p ∈ ps, p.2.small
  sz : ∀ p ∈ ps, p.2.size ≤ 40
  up : (ps.map (·.1)).Pairwise (· < ·)
  few : ps.length ≤ 10
def row (p : Int × Tm) : Str := xn p.1 ++ "=" ++ p.2.txt
def btxt (ps : Prs) : Str := if ps = [] then "-" else Txt.join " " (ps.map row)
theorem t_eq : tl ("=" : Str) = [61] := by decide +kernel
theorem t_sp : tl (" " : Str) = [32] := by decide +kernel
theorem txt_signs : ∀ (t : Tm), t.small → ∀ d ∈ tl t.txt, 40 ≤ d ∧ d ≠ 61
  | .v n, h, d, hd => by
    have hd : d ∈ tl (("x" : Str) ++ Str.ofString (toString n)) := hd
    rw [tl_append, t_x, tl_int (h n (by simp [Tm.nums])).1] at hd
    rcases List.mem_append.mp hd with hd | hd
    · simp at hd; omega
    · have := numL_small _ d hd; omega
  | .z, h, d, hd => by
    have hd : d ∈ tl ("0" : Str) := hd
    rw [t_0] at hd; simp at hd; omega
  | .s t, h, d, hd => by
    have hd : d ∈ tl (("s" : Str) ++ "(" ++ Txt.join "," [t.txt] ++ ")") := hd
    rw [join1, tl_append, tl_append, tl_append, t_s, t_open, t_close] at hd
    simp only [List.mem_append, List.mem_singleton] at hd
    rcases hd with ((hd | hd) | hd) | hd
    · omega
    · omega
    · exact txt_signs t h d hd
    · omega
  | .f l r, h, d, hd => by
    have hd : d ∈ tl (("f" : Str) ++ "(" ++ Txt.join "," [l.txt, r.txt] ++ ")") := hd
    rw [join2, tl_append, tl_append, tl_append, tl_append, tl_append, t_f, t_open, t_close, t_comma] at hd
    simp only [List.mem_append, List.mem_singleton] at hd
    rcases hd with ((hd | hd) | (hd | hd) | hd) | hd
    · omega
    · omega
    · exact txt_signs l (fun n hn => h n (by simp [Tm.nums, hn])) d hd
    · omega
    · exact txt_signs r (fun n hn => h n (by simp [Tm.nums, hn])) d hd
    · omega
theorem xn_signs {n : Int} (h : 0 ≤ n) : tl (xn n) = 120 :: numL n.toNat := by
  unfold xn
  rw [tl_append, t_x, tl_int h]
  rfl
theorem xn_free {n : Int} (h : 0 ≤ n) : 61 ∉ tl (xn n) ∧ 32 ∉ tl (xn n) := by
  rw [xn_signs h]
  constructor
  · intro hd
    rcases List.mem_cons.mp hd with hd | hd
    · omega
    · have := numL_small _ _ hd; omega
  · intro hd
    rcases List.mem_cons.mp hd with hd | hd
    · omega
    · have := numL_small _ _ hd; omega
theorem row_free {p : Int × Tm} (h : 0 ≤ p.1) (h' : p.2.small) : 32 ∉ tl (row p) := by
  unfold row
  rw [tl_append, tl_append, t_eq]
  intro hd
  rcases List.mem_append.mp hd with hd | hd
  · rcases List.mem_append.mp hd with hd | hd
    · exact (xn_free h).2 hd
    · simp at hd
  · have := txt_signs _ h' _ hd; omega
theorem row_parts {p : Int × Tm} (h : 0 ≤ p.1) : Txt.partition (row p) "=" = (xn p.1, ("=" : Str), p.2.txt) := partition_app t_eq (xn_free h).1
theorem rows_split {ps : Prs} (ok : PrOk ps) (ne : ps ≠ []) : Txt.split (Txt.join " " (ps.map row)) " " = ps.map row := by
  refine split_join t_sp (by decide +kernel) (by simpa using ne) fun p hp => ?_
  obtain ⟨q, hq, rfl⟩ := List.mem_map.mp hp
  exact row_free (ok.num q hq).1 (ok.sm q hq)
theorem rows_ne {ps : Prs} (ok : PrOk ps) (ne : ps ≠ []) : Txt.join " " (ps.map row) ≠ "-" := by
  intro e
  have e2 := rows_split ok ne
  rw [e] at e2
  have e3 : Txt.split "-" " " = [("-" : Str)] := by decide +kernel
  rw [e3] at e2
  match ps, ne with
  | [p], _ =>
    simp at e2
    have e4 := congrArg tl e2
    unfold row at e4
    rw [tl_append, tl_append, xn_signs (ok.num p (by simp)).1] at e4
    have e5 : tl ("-" : Str) = [45] := by decide +kernel
    rw [e5] at e4
    simp at e4
  | p :: q :: r, _ => simp at e2
theorem row_len {p : Int × Tm} (h : 0 ≤ p.1 ∧ p.1 ≤ 99) (h' : p.2.small) (hz : p.2.size ≤ 100) : (row p).length ≤ 410 := by
  have a := (xn_facts h).2.1
  have b := txt_len _ h'
  have c : ("=" : Str).length = 1 := by decide +kernel
  unfold row
  rw [slen, slen]
  omega
theorem rows_len : ∀ {ps : Prs}, (∀ p ∈ ps, (row p).length ≤ 410) → ((ps.map row).map (·.length)).sum ≤ 410 * ps.length
  | [], _ => by simp
  | p :: ps, h => by
    have := rows_len (ps := ps) fun q hq => h q (by simp [hq])
    have := h p (by simp)
    simp only [List.map_cons, List.sum_cons, List.length_cons]
    omega
end Rp

set_option maxHeartbeats 8000000
namespace Rp
open PySem PySem.Spec PyProof.Rows L2 TL RZ
/-- [.. for a, b in zip(xs, ys)], n turns -/
theorem lc_pairsN {J : It} {n : Nat} {xs ys : List V} {g : TG} {tt : TT} {te : TE} {vs : List Nat} {σ : L2.St} {H1 : Hp} {D : Addr} {Qd : Hp → Prop} (Pv : Nat → Hp → Prop)
    (stops : ∀ H, Pv n H → J.stop n H) (goes : ∀ i H, i < n → Pv i H → J.go i H)
    (gives : ∀ i H v H', i < n → Pv i H → J.yld i H v H' → ∃ T x y, v = .ref T ∧ xs[i]? = some x ∧ ys[i]? = some y ∧ H T = none ∧ H' = upd H T (.tup [x, y]))
    (h0 : Pv 0 (upd H1 D (.lst [])))
    (hs : ∀ (i : Nat) (x y : V) (T : Addr) (H : Hp), i < n → xs[i]? = some x → ys[i]? = some y → Pv i H → H T = none → g (.ref T) (wipe σ vs) (upd H T (.tup [x, y])) fun σ2 H2 => wipe σ2 vs = wipe σ vs ∧
      tt σ2 H2 fun b H3 => if b = true then te σ2 H3 fun y H4 => ∃ acc, H4 D = some (.lst acc) ∧ acc.length < sizeLine ∧ Pv (i + 1) (upd H4 D (.lst (acc ++ [y]))) else Pv (i + 1) H3)
    (hd : ∀ H, Pv n H → Qd H) :
    ∃ W : Nat → Nat → Hp → Prop, (∃ m, W 0 m (upd H1 D (.lst []))) ∧ ∀ i m H, W i m H → (J.stop i H ∧ Qd H) ∨
      (J.go i H ∧ ∃ Nx : Hp → Prop, (∀ H', Nx H' → ∃ m', m' < m ∧ W (i + 1) m' H') ∧ ∀ x H', J.yld i H x H' → g x (wipe σ vs) H' fun σ2 H2 => wipe σ2 vs = wipe σ vs ∧
        tt σ2 H2 fun b H3 => if b = true then te σ2 H3 fun y H4 => ∃ acc, H4 D = some (.lst acc) ∧ acc.length < sizeLine ∧ Nx (upd H4 D (.lst (acc ++ [y]))) else Nx H3) := by
  refine ⟨fun i m H => m + i = n ∧ Pv i H, ⟨n, by simp, h0⟩, ?_⟩
  rintro i m H ⟨em, p⟩
  rcases Nat.lt_or_ge i n with lt | ge
  · refine .inr ⟨goes i H lt p, Pv (i + 1), fun H' p' => ⟨m - 1, by omega, by omega, p'⟩, fun v H' y => ?_⟩
    obtain ⟨T, x, y', rfl, hx, hy, hT, rfl⟩ := gives i H v H' lt p y
    exact hs i x y' T H lt hx hy p hT
  · have e : i = n := by omega
    subst e
    exact .inl ⟨stops H p, hd H p⟩
theorem tm_ok : ∀ t : Tm, (tmD t).canLay0 = true ∧ (tmD t).depth ≤ t.deep + 1 ∧ nd (tmD t) ≤ 2 * t.size
  | .v n => ⟨rfl, by simp [tmD, PyData.depth], by simp [tmD, nd, Tm.size]⟩
  | .z => ⟨by decide +kernel, by simp [tmD, PyData.depth, PyData.depthAll], by simp [tmD, nd, ndAll, Tm.size]⟩
  | .s t => by
    have ih := tm_ok t
    have a : PyData.canLay0 (.str "s") = true := by decide +kernel
    refine ⟨?_, ?_, ?_⟩
    · simp only [tmD, PyData.canLay0, PyData.canLayAll0, Bool.and_true, Bool.and_eq_true]; exact ⟨by simpa [PyData.canLay0] using a, ih.1⟩
    · simp only [tmD, PyData.depth, PyData.depthAll, Tm.deep]; omega
    · simp only [tmD, nd, ndAll, Tm.size]; omega
  | .f l r => by
    have ih := tm_ok l
    have ih2 := tm_ok r
    have a : PyData.canLay0 (.str "f") = true := by decide +kernel
    refine ⟨?_, ?_, ?_⟩
    · simp only [tmD, PyData.canLay0, PyData.canLayAll0, Bool.and_true, Bool.and_eq_true]; exact ⟨by simpa [PyData.canLay0] using a, ih.1, ih2.1⟩
    · simp only [tmD, PyData.depth, PyData.depthAll, Tm.deep]; omega
    · simp only [tmD, nd, ndAll, Tm.size]; omega
theorem rows_pos {ps : Prs} (ok : PrOk ps) (ne : ps ≠ []) : (Txt.join " " (ps.map row)).length ≠ 0 := by
  intro h0
  have e2 := rows_split ok ne
  have e3 : Txt.join " " (ps.map row) = Str.empty := by
    have := (len0_tl _).mp h0
    exact ext_tl this
  rw [e3] at e2
  have e4 : Txt.split Str.empty " " = [Str.empty] := by decide +kernel
  rw [e4] at e2
  match ps, ne with
  | [p], _ =>
    simp at e2
    have e5 := congrArg tl e2
    unfold row at e5
    rw [tl_append, tl_append, xn_signs (ok.num p (by simp)).1] at e5
    have e6 : tl Str.empty = [] := rfl
    rw [e6] at e5
    simp at e5
  | p :: p' :: r, _ => simp at e2
def spBText : Sp := fun vs H Q _ => ∃ (v : V) (ps : Prs), vs = [v] ∧ BiAt H v ps ∧ PrOk ps ∧ ∀ H', Same H H' → Q (.str (btxt ps)) H'
def spPairIn : Sp := fun vs H Q _ => ∃ p : Int × Tm, vs = [.str (row p)] ∧ (0 ≤ p.1 ∧ p.1 ≤ 99) ∧ p.2.small ∧ p.2.size ≤ 40 ∧ ∀ (b : Addr) (y : V) (H' : Hp), H' b = some (.tup [.int p.1, y]) → TmAt H' y p.2 → Same H H' → Q (.ref b) H'
def spBOr : Sp := fun vs H Q _ => ∃ ps : Prs, vs = [.str (btxt ps)] ∧ PrOk ps ∧ ∀ (v : V) (H' : Hp), BiAt H' v ps → Same H H' → Q v H'
def spIsPair : Sp := fun vs H Q _ => ∃ (b : Addr) (y : V) (p : Int × Tm), vs = [.ref b] ∧ H b = some (.tup [.int p.1, y]) ∧ TmAt H y p.2 ∧ (0 ≤ p.1 ∧ p.1 ≤ 99) ∧ p.2.small ∧ p.2.size ≤ 40 ∧ ∀ H', Same H H' → Q (.bl true) H'
def spIsBi : Sp := fun vs H Q _ => ∃ (v : V) (ps : Prs), vs = [v] ∧ BiAt H v ps ∧ PrOk ps ∧ ∀ H', Same H H' → Q (.bl true) H'
section
variable {P : Program} {w : World} {K : PySem.W.Frag} {mg : Str → Option Value} {base : Heap}
def teRow : TE := fun σ H Q => tJs [tC (.str "x"), tFmt (tVar 1), tC (.str "="), tFmt (tCall spTermText [] E0 (tCons (tVar 2) tNil))] Str.empty σ H fun out H1 => Q (.str out) H1
theorem scBText : FnScope ["binding", "variable", "term"] ["binding"] (defScope sBindingText) := ⟨rfl, rfl, rfl, by decide +kernel, rfl, by decide +kernel, by decide +kernel⟩
theorem ok_btext {f fT : Addr} {fd dT : FuncData} (F : Fun K "binding_text" "binding_text" sBindingText f fd)
    (GT : FnOk P w K mg base CX0 4 fT dT ["term"] spTermText) (kT : PySem.W.keepIn K (.ref fT) = true) (bT : Binds K dT ["term"] []) (mT : mg "term_text" = some (.ref fT)) : FnOk P w K mg base CX0 5 f fd ["binding"] spBText := by
  refine F.ok scBText (fun vs H Q E h => ?_) (fun cdv A outer s H vs Q E hr h => ?_)
  · obtain ⟨v, ps, rfl, _⟩ := h
    rfl
  obtain ⟨v, ps, rfl, ⟨a, xs, rfl, ha, Pa⟩, ok, q⟩ := h
  refine ⟨_, pss_one (ps_ret (pe_orT (pe_bm PySem.F.plainAttrs_str PySem.F.slot_str_join PySem.F.type_str_join mt_join pe_str (pa_cons
      (pe_lc (own := [("variable", 1), ("term", 2)]) (g := gTup K 2 (gCons (gName 1) (gCons (gName 2) gNil))) (tt := tYes) (te := teRow) rfl scBText.nd
        (pi_tup (pv 0)) (blkOk_by (N := ["binding", "variable", "term"]) (sc := defScope sBindingText) (by decide +kernel))
        (fun _ _ _ _ _ => pg_tup (by rfl) (pgs_cons (pg_name (i := 1) scBText.nd rfl (Or.inl rfl)) (pgs_cons (pg_name (i := 2) scBText.nd rfl (Or.inl rfl)) pgs_nil)))
        (fun _ _ _ _ _ => pts_nil) (fun _ _ _ _ _ => pe_joined (.cons pe_str (.cons (pe_fmt (pv 1)) (.cons pe_str (.cons (pe_fmt (pe_call GT hr (by rfl) mT kT bT .nil pass0 (pa_cons (pv 2) pa_nil))) .nil)))))) pa_nil)) (pe_one pe_str))), ?_⟩
  have big : (10000 : Nat) ≤ sizeLine := by decide
  have len := Pa.len
  refine ⟨rfl, _, rfl, a, rfl, ⟨_, .inl (.inl ha)⟩, fun D hD => lc_tup (K := K) (a := a) (xs := xs) (fun i H2 => H2 D = some (.lst (((ps.take i).map row).map V.str)) ∧ Same H H2) ⟨upd_same, same_new hD _⟩ (fun i H2 _ h => .inl (.inl (h.2 _ _ ha))) ?_ ?_⟩
  · rintro i x H2 hi ⟨h2, s2⟩
    obtain ⟨p, hp, b, y, rfl, hb, T⟩ := Pa.get hi
    have pm : p ∈ ps := List.mem_of_getElem? hp
    have np := ok.num p pm
    have sp_ := ok.sm p pm
    have zp := ok.sz p pm
    have nl := num_len np
    have tl1 := txt_len _ sp_
    have lx : ("x" : Str).length = 1 := by decide +kernel
    have le : ("=" : Str).length = 1 := by decide +kernel
    have li : i < ps.length := (List.getElem?_eq_some_iff.mp hp).1
    have few := ok.few
    refine ⟨b, _, rfl, .inl (.inl (s2 _ _ hb)), rfl, _, _, rfl, _, _, rfl, rfl, rfl, ?_⟩
    unfold teRow
    refine ⟨_, rfl, ?_, _, rfl, .inr ⟨p.1, rfl, ?_, _, rfl, ?_, _, rfl, ?_, _, rfl, y, p.2, rfl, T.same s2, sp_, by omega, fun H3 s3 => .inl ⟨_, rfl, by omega, _, rfl, ?_, _, s3 _ _ h2, ?_, ?_, ?_⟩⟩⟩
    · rw [Str.empty_append]; omega
    · have := Nat.log2_le_self p.1.natAbs; omega
    · rw [Str.empty_append, slen]; show _ + (Str.ofString (toString p.1)).length ≤ _; omega
    · rw [Str.empty_append, slen, slen]; show _ + (Str.ofString (toString p.1)).length + _ ≤ _; omega
    · rw [Str.empty_append, slen, slen, slen]; show _ + (Str.ofString (toString p.1)).length + _ + _ ≤ _; omega
    · rw [List.length_map, List.length_map, List.length_take]; omega
    · have tk : ps.take (i + 1) = ps.take i ++ [p] := by rw [List.take_add_one, hp]; rfl
      rw [upd_same, tk, List.map_append, List.map_append, Str.empty_append]
      rfl
    · intro c o z
      have nD : c ≠ D := ne_of_none z hD
      rw [upd_ne nD]
      exact s3 _ _ (s2 _ _ z)
  · rintro H2 ⟨h2, s2⟩
    rw [len, List.take_of_length_le (Nat.le_refl _)] at h2
    have few := ok.few
    have rl := rows_len (ps := ps) fun p hp => row_len (ok.num p hp) (ok.sm p hp) (by have := ok.sz p hp; omega)
    have l1 : (" " : Str).length = 1 := by decide +kernel
    have tot : ((ps.map row).map (·.length)).sum + (ps.map row).length * (" " : Str).length ≤ 10000 := by rw [l1, List.length_map]; omega
    refine ⟨_, D, ps.map row, rfl, rfl, .inl (.inl (.inl h2)), by omega, ?_⟩
    have jl := StrLaws.join_length_le " " (ps.map row)
    rw [← join_eq] at jl
    refine ⟨_, ⟨by omega, rfl⟩, ?_⟩
    have qq := q H2 s2
    unfold btxt at qq
    by_cases e : ps = []
    · subst e
      rw [if_pos rfl] at qq
      exact iteF qq
    · rw [if_neg e] at qq
      have nz : (((Txt.join " " (ps.map row)).length : Int) != 0) = true := by
        have := rows_pos ok e
        simp
        omega
      rw [nz]
      exact iteT qq
end
end Rp

set_option maxHeartbeats 8000000
namespace Rp
open PySem PySem.Spec PyProof.Rows L2 TL RZ
section
variable {P : Program} {w : World} {K : PySem.W.Frag} {mg : Str → Option Value} {base : Heap}
theorem scPairIn : FnScope ["text", "variable", "_", "term"] ["text"] (defScope sPairIn) := ⟨rfl, rfl, rfl, by decide +kernel, rfl, by decide +kernel, by decide +kernel⟩
theorem ok_pairin {f fO : Addr} {fd dO : FuncData} (F : Fun K "_pair_in" "_pair_in" sPairIn f fd)
    (GO : FnOk P w K mg base CX0 5 fO dO ["text"] spTermOr) (kO : PySem.W.keepIn K (.ref fO) = true) (bO : Binds K dO ["text"] []) (mO : mg "term_or_none" = some (.ref fO)) : FnOk P w K mg base CX0 6 f fd ["text"] spPairIn := by
  refine F.ok scPairIn (fun vs H Q E h => ?_) (fun cdv A outer s H vs Q E hr h => ?_)
  · obtain ⟨p, rfl, _⟩ := h
    rfl
  obtain ⟨p, rfl, np, sp_, zp, q⟩ := h
  refine ⟨_, pss_cons (ps_asg (pe_partition (pv 0) pe_str) (pg_tup (by rfl) (pgs_cons (pg_name (i := 1) scPairIn.nd rfl (Or.inl rfl)) (pgs_cons (pg_name (i := 2) scPairIn.nd rfl (Or.inl rfl)) (pgs_cons (pg_name (i := 3) scPairIn.nd rfl (Or.inl rfl)) pgs_nil)))))
    (pss_one (ps_ret (pe_tup (pa_cons (pe_call GO hr rfl mO kO bO .nil pass0 (pa_cons (pv 1) pa_nil)) (pa_cons (pe_call GO hr rfl mO kO bO .nil pass0 (pa_cons (pv 3) pa_nil)) pa_nil))))), ?_⟩
  have big : (10000 : Nat) ≤ sizeLine := by decide
  have rl := row_len np sp_ (by omega)
  refine ⟨_, rfl, ⟨_, rfl⟩, row p, "=", rfl, rfl, by decide +kernel, by omega, fun g hg => ?_⟩
  rw [row_parts np.1]
  have s1 := same_new hg (.tup [V.str (xn p.1), .str "=", .str p.2.txt])
  refine ⟨g, _, rfl, .inl (.inl upd_same), rfl, _, _, rfl, _, _, rfl, _, _, rfl, rfl, ?_⟩
  refine ⟨_, rfl, .v p.1, rfl, fun n hn => by simp [Tm.nums] at hn; subst hn; exact np, by show 1 ≤ 200; decide, fun v H2 T2 s2 => ?_⟩
  cases T2
  refine ⟨_, rfl, p.2, rfl, sp_, by omega, fun y H3 T3 s3 => ?_⟩
  refine ⟨(by show 2 ≤ sizeLine; decide), fun b hb => ?_⟩
  have s4 := same_new hb (.tup [V.int p.1, y])
  exact q b y _ upd_same (T3.same s4) (s1.trans (s2.trans (s3.trans s4)))
theorem scIsPair : FnScope ["thing"] ["thing"] (defScope sIsPair) := ⟨rfl, rfl, rfl, by decide +kernel, rfl, by decide +kernel, by decide +kernel⟩
theorem ok_ispair {f fV fT : Addr} {fd dV dT : FuncData} (F : Fun K "_is_pair" "_is_pair" sIsPair f fd)
    (GV : FnOk P w K mg base CX0 2 fV dV ["thing"] spVariable) (kV : PySem.W.keepIn K (.ref fV) = true) (bV : Binds K dV ["thing"] []) (mV : mg "is_variable" = some (.ref fV))
    (GT : FnOk P w K mg base CX0 3 fT dT ["thing"] spTerm) (kT : PySem.W.keepIn K (.ref fT) = true) (bT : Binds K dT ["thing"] []) (mT : mg "is_term" = some (.ref fT)) (M : SameG mg) : FnOk P w K mg base CX0 4 f fd ["thing"] spIsPair := by
  refine F.ok scIsPair (fun vs H Q E h => ?_) (fun cdv A outer s H vs Q E hr h => ?_)
  · obtain ⟨b, y, p, rfl, _⟩ := h
    rfl
  obtain ⟨b, y, p, rfl, hb, T, np, sp_, zp, q⟩ := h
  have r2 : Room 2 _ := hr.mono (by decide)
  refine ⟨_, pss_one (ps_ret (pe_and (pe_callB (id := "isinstance") call_isi (by rfl) M.isi (by decide +kernel) (pa_cons (pv 0) (pa_cons (pe_bltn (v := .ty "tuple") (by rfl) M.tuple (by decide +kernel) rfl) pa_nil)))
    (pe_and (pe_cmpR op_eq (pe_callB call_len_seq (by rfl) M.len PySem.boot_len (pa_cons (pv 0) pa_nil)) pe_int (nomark _))
    (pe_and (pe_call GV r2 rfl mV kV bV .nil pass0 (pa_cons (pe_ix ix_tup (pv 0) pe_int (fun _ _ => rfl)) pa_nil))
    (pe_one (pe_call GT hr rfl mT kT bT .nil pass0 (pa_cons (pe_ix ix_tup (pv 0) pe_int (fun _ _ => rfl)) pa_nil))))))), ?_⟩
  have okk := tm_ok p.2
  have dl := Tm.deep_lt p.2
  refine ⟨_, rfl, _, _, _, _, true, rfl, .ty "tuple", .base (.tup hb), kit_ty (by decide +kernel), true, rfl, iteT ?_⟩
  refine ⟨_, rfl, b, _, rfl, .inr (.inl (.inl hb)), rfl, true, congrArg V.bl (decide_eq_true rfl), iteT ?_⟩
  have iv : isVar (.int p.1) = true := by simp [isVar]; exact np
  refine ⟨_, rfl, b, _, _, _, rfl, rfl, .inl (.inl hb), at_of (j := 0) rfl rfl, b, _, .int p.1, rfl, (by unfold DAt; rfl), true, congrArg V.bl iv, iteT ?_⟩
  refine ⟨_, rfl, b, _, _, _, rfl, rfl, .inl (.inl hb), at_of (j := 1) rfl rfl, b, y, tmD p.2, rfl, T.dat, ⟨okk.1, by omega⟩, by omega, fun r H1 hr1 s1 => ?_⟩
  obtain rfl : r = true := hr1.mpr ⟨p.2, rfl, sp_⟩
  exact q H1 s1
theorem scIsBi : FnScope ["thing", "pair", "left", "right"] ["thing"] (defScope sIsBinding) := ⟨rfl, rfl, rfl, by decide +kernel, rfl, by decide +kernel, by decide +kernel⟩
theorem ok_isbi {f fP : Addr} {fd dP : FuncData} (F : Fun K "is_binding" "is_binding" sIsBinding f fd)
    (GP : FnOk P w K mg base CX0 4 fP dP ["thing"] spIsPair) (kP : PySem.W.keepIn K (.ref fP) = true) (bP : Binds K dP ["thing"] []) (mP : mg "_is_pair" = some (.ref fP)) (M : SameG mg) : FnOk P w K mg base CX0 5 f fd ["thing"] spIsBi := by
  refine F.ok scIsBi (fun vs H Q E h => ?_) (fun cdv A outer s H vs Q E hr h => ?_)
  · obtain ⟨v, ps, rfl, _⟩ := h
    rfl
  obtain ⟨v, ps, rfl, ⟨a, xs, rfl, ha, Pa⟩, ok, q⟩ := h
  refine ⟨_, pss_cons (ps_if (PW.pt (pw_or (pt_not (pt_val (pe_callB (id := "isinstance") call_isi (by rfl) M.isi (by decide +kernel) (pa_cons (pv 0) (pa_cons (pe_bltn (v := .ty "tuple") (by rfl) M.tuple (by decide +kernel) rfl) pa_nil)))))
      (pw_or1 (pt_not (pt_val (pe_callB (cr_all rfl) (by rfl) M.all (by decide +kernel) (pa_cons (pe_lc (own := [("pair", 1)]) (g := gName 1) (tt := tYes) (te := tCall spIsPair [] E0 (tCons (tVar 1) tNil)) rfl scIsBi.nd
        (pi_tup (pv 0)) (blkOk_by (N := ["thing", "pair", "left", "right"]) (sc := defScope sIsBinding) (by decide +kernel)) (fun _ _ _ _ _ => pg_name (i := 1) scIsBi.nd rfl (Or.inl rfl))
        (fun _ _ _ _ _ => pts_nil) (fun _ _ _ _ _ => pe_call GP hr (by rfl) mP kP bP .nil pass0 (pa_cons (pv 1) pa_nil))) pa_nil))))))) (pss_one (ps_ret pe_bl)) pss_nil)
    (pss_one (ps_ret (pe_callB (cr_all rfl) (by rfl) M.all (by decide +kernel) (pa_cons (pe_lc (own := [("left", 2), ("right", 3)]) (g := gTup K 2 (gCons (gName 2) (gCons (gName 3) gNil))) (tt := tYes)
        (te := tOp (rI0 fun i j => .bl (decide (i < j))) (tOp (rIxT K) (tVar 2) (tC (.int 0))) (tOp (rIxT K) (tVar 3) (tC (.int 0)))) rfl scIsBi.nd
        (pi_zipA (by rfl) M.zip (pa_cons (pv 0) (pa_cons (pe_slice sl_tupA (pv 0) (po_some pe_int) po_none) pa_nil))) (blkOk_by (N := ["thing", "pair", "left", "right"]) (sc := defScope sIsBinding) (by decide +kernel))
        (fun _ _ _ _ _ => pg_tup (by rfl) (pgs_cons (pg_name (i := 2) scIsBi.nd rfl (Or.inl rfl)) (pgs_cons (pg_name (i := 3) scIsBi.nd rfl (Or.inl rfl)) pgs_nil)))
        (fun _ _ _ _ _ => pts_nil) (fun _ _ _ _ _ => pe_cmpR op_lt (pe_ix ix_tup (pv 2) pe_int (fun _ _ => rfl)) (pe_ix ix_tup (pv 3) pe_int (fun _ _ => rfl)) (nomark _))) pa_nil)))), ?_⟩
  have len := Pa.len
  have few := ok.few
  have big : (10000 : Nat) ≤ sizeLine := by decide
  refine ⟨_, rfl, _, _, _, _, true, rfl, .ty "tuple", .base (.tup ha), kit_ty (by decide +kernel), true, rfl, iteF ?_⟩
  refine ⟨_, rfl, a, rfl, ⟨_, .inl (.inl ha)⟩, fun D hD => lc_tup (K := K) (a := a) (xs := xs) (fun i H2 => H2 D = some (.lst (List.replicate i (V.bl true))) ∧ Same H H2) ⟨upd_same, same_new hD _⟩ (fun i H2 _ h => .inl (.inl (h.2 _ _ ha))) ?_ ?_⟩
  · rintro i x H2 hi ⟨h2, s2⟩
    obtain ⟨p, hp, b, y, rfl, hb, T⟩ := Pa.get hi
    have pm : p ∈ ps := List.mem_of_getElem? hp
    have li : i < xs.length := (List.getElem?_eq_some_iff.mp hi).1
    refine ⟨rfl, ?_⟩
    refine ⟨_, rfl, b, y, p, rfl, s2 _ _ hb, T.same s2, ok.num p pm, ok.sm p pm, ok.sz p pm, fun H' s' => ⟨_, s' _ _ h2, ?_, ?_, ?_⟩⟩
    · rw [List.length_replicate]; omega
    · rw [upd_same, List.replicate_succ']
    · intro c o z
      rw [upd_ne (ne_of_none z hD)]
      exact s' _ _ (s2 _ _ z)
  · rintro H2 ⟨h2, s2⟩
    have e : (List.replicate xs.length true).all id = true := by rw [List.all_eq_true]; intro x hx; rw [List.eq_of_mem_replicate hx]; rfl
    refine ⟨D, List.replicate xs.length true, rfl, .inl (.inl (by rw [List.map_replicate]; exact h2)), true, congrArg V.bl e, iteF ?_⟩
    have ha2 := s2 _ _ ha
    refine ⟨_, rfl, _, rfl, 1, rfl, a, xs, rfl, .inl (.inl ha2), fun hw => ?_, fun hw g hg => ?_⟩
    · have e0 : xs = [] := by
        have := hw.1
        rw [show (some 1 : Option Int) = some ((1 : Nat) : Int) from rfl, HT.sIx_nat] at this
        rcases xs with _ | ⟨x, r⟩
        · rfl
        · simp at this
      subst e0
      refine ⟨a, a, [], [], rfl, .inr ⟨.inl (.inl ha2), .inl (.inl ha2), fun D2 hD2 => ?_⟩⟩
      refine lc_pairsN (J := ItzT K a a) (n := 0) (xs := []) (ys := []) (fun i H4 => i = 0 ∧ H4 D2 = some (.lst []) ∧ Same H2 H4)
        (fun H4 h => ⟨[], [], .inl (.inl (h.2.2 _ _ ha2)), .inl (.inl (h.2.2 _ _ ha2)), .inl (Nat.le_refl _)⟩) (fun i H4 lt => absurd lt (by omega)) (fun i H4 v H5 lt => absurd lt (by omega))
        ⟨rfl, upd_same, same_new hD2 _⟩ (fun i _ _ _ _ lt => absurd lt (by omega)) (fun H4 h => ⟨D2, [], rfl, .inl (.inl h.2.1), q _ (s2.trans h.2.2)⟩)
    · have ec : cutV xs (some 1) none = xs.drop 1 := cut_from (i := 1) rfl
      rw [ec]
      have s3 := same_new hg (.tup (xs.drop 1))
      have ha3 := s3 _ _ ha2
      refine ⟨a, g, xs, xs.drop 1, rfl, .inr ⟨.inl (.inl ha3), .inl (.inl upd_same), fun D2 hD2 => ?_⟩⟩
      have hg3 : (upd H2 g (.tup (xs.drop 1))) g = some (.tup (xs.drop 1)) := upd_same
      refine lc_pairsN (J := ItzT K a g) (n := xs.length - 1) (xs := xs) (ys := xs.drop 1) (fun i H4 => H4 D2 = some (.lst (List.replicate i (V.bl true))) ∧ Same (upd H2 g (.tup (xs.drop 1))) H4)
        (fun H4 h => ⟨xs, xs.drop 1, .inl (.inl (h.2 _ _ ha3)), .inl (.inl (h.2 _ _ hg3)), .inr (by rw [List.length_drop]; exact Nat.le_refl _)⟩)
        (fun i H4 lt h => ⟨xs, xs.drop 1, xs[i]'(by omega), (xs.drop 1)[i]'(by rw [List.length_drop]; exact lt), .inl (.inl (h.2 _ _ ha3)), .inl (.inl (h.2 _ _ hg3)), List.getElem?_eq_getElem _, List.getElem?_eq_getElem _⟩)
        (fun i H4 v H5 lt h ⟨T, u, v', e1, hT, e2, f1, f2⟩ => ⟨T, u, v', e1, f1 xs (.inl (.inl (h.2 _ _ ha3))), f2 (xs.drop 1) (.inl (.inl (h.2 _ _ hg3))), hT, e2⟩)
        ⟨upd_same, same_new hD2 _⟩ (fun i u v T H4 lt hu hv h hT => ?_) (fun H4 h => ⟨D2, List.replicate (xs.length - 1) true, rfl, .inl (.inl (by rw [List.map_replicate]; exact h.1)), ?_⟩)
      · have sT := same_new hT (.tup [u, v])
        rw [List.getElem?_drop] at hv
        obtain ⟨p, hp, b, y, rfl, hb, _⟩ := Pa.get hu
        obtain ⟨p', hp', b', y', rfl, hb', _⟩ := Pa.get hv
        have sAll : Same H (upd H4 T (.tup [V.ref b, .ref b'])) := s2.trans (s3.trans (h.2.trans sT))
        have lt' : p.1 < p'.1 := by
          have up := List.pairwise_iff_getElem.mp ok.up i (1 + i) (by rw [List.length_map]; have := (List.getElem?_eq_some_iff.mp hp).1; omega) (by rw [List.length_map]; exact (List.getElem?_eq_some_iff.mp hp').1) (by omega)
          rw [List.getElem_map, List.getElem_map, (List.getElem?_eq_some_iff.mp hp).2, (List.getElem?_eq_some_iff.mp hp').2] at up
          exact up
        refine ⟨T, _, rfl, .inl (.inl upd_same), rfl, _, _, rfl, _, _, rfl, rfl, rfl, ?_⟩
        refine ⟨_, rfl, b, _, _, _, rfl, rfl, .inl (.inl (sAll _ _ hb)), at_of (j := 0) rfl rfl, _, rfl, b', _, _, _, rfl, rfl, .inl (.inl (sAll _ _ hb')), at_of (j := 0) rfl rfl, _, _, rfl, rfl, _, sT _ _ h.1, ?_, ?_, ?_⟩
        · rw [List.length_replicate]; omega
        · dsimp only
          rw [decide_eq_true lt', upd_same, List.replicate_succ']
        · intro c o z
          rw [upd_ne (ne_of_none z hD2)]
          exact sT _ _ (h.2 _ _ z)
      · have e : (List.replicate (xs.length - 1) true).all id = true := by rw [List.all_eq_true]; intro x hx; rw [List.eq_of_mem_replicate hx]; rfl
        rw [e]
        exact q _ (s2.trans (s3.trans h.2))
theorem scBOr : FnScope ["text", "binding", "row"] ["text"] (defScope sBindingOrNone) := ⟨rfl, rfl, rfl, by decide +kernel, rfl, by decide +kernel, by decide +kernel⟩
theorem ok_bor {f fP fI : Addr} {fd dP dI : FuncData} (F : Fun K "binding_or_none" "binding_or_none" sBindingOrNone f fd)
    (GP : FnOk P w K mg base CX0 6 fP dP ["text"] spPairIn) (kP : PySem.W.keepIn K (.ref fP) = true) (bP : Binds K dP ["text"] []) (mP : mg "_pair_in" = some (.ref fP))
    (GI : FnOk P w K mg base CX0 5 fI dI ["thing"] spIsBi) (kI : PySem.W.keepIn K (.ref fI) = true) (bI : Binds K dI ["thing"] []) (mI : mg "is_binding" = some (.ref fI)) (mTuple : mg "tuple" = none) : FnOk P w K mg base CX0 7 f fd ["text"] spBOr := by
  refine F.ok scBOr (fun vs H Q E h => ?_) (fun cdv A outer s H vs Q E hr h => ?_)
  · obtain ⟨ps, rfl, _⟩ := h
    rfl
  obtain ⟨ps, rfl, ok, q⟩ := h
  have r5 : Room 5 _ := hr.mono (by decide)
  refine ⟨_, pss_cons (ps_if (pt_cmpR op_eq (pv 0) pe_str (nomark _)) (pss_one (ps_ret (pe_tup pa_nil))) pss_nil)
    (pss_cons (ps_set (i := 1) scBOr.nd rfl (Or.inl rfl) (pe_callTy call_tuple_of (by rfl) mTuple (by decide +kernel) (pa_cons (pe_lc (own := [("row", 2)]) (g := gName 2) (tt := tYes) (te := tCall spPairIn [] E0 (tCons (tVar 2) tNil)) rfl scBOr.nd
        (pi_list (pe_split (pv 0) pe_str)) (blkOk_by (N := ["text", "binding", "row"]) (sc := defScope sBindingOrNone) (by decide +kernel)) (fun _ _ _ _ _ => pg_name (i := 2) scBOr.nd rfl (Or.inl rfl))
        (fun _ _ _ _ _ => pts_nil) (fun _ _ _ _ _ => pe_call GP hr (by rfl) mP kP bP .nil pass0 (pa_cons (pv 2) pa_nil))) pa_nil)))
    (pss_one (ps_ret (pe_ifExp (pt_val (pe_call GI r5 rfl mI kI bI .nil pass0 (pa_cons (pv 1) pa_nil))) (pv 1) pe_non)))), ?_⟩
  have few := ok.few
  have big : (10000 : Nat) ≤ sizeLine := by decide
  by_cases e : ps = []
  · subst e
    refine ⟨_, rfl, rfl, true, congrArg V.bl (decide_eq_true rfl), iteT ⟨(by show 0 ≤ sizeLine; decide), fun p hp => ?_⟩⟩
    exact q _ _ ⟨p, [], rfl, upd_same, trivial⟩ (same_new hp _)
  · have bt : btxt ps = Txt.join " " (ps.map row) := if_neg e
    rw [bt]
    have rl := rows_len (ps := ps) fun p hp => row_len (ok.num p hp) (ok.sm p hp) (by have := ok.sz p hp; omega)
    have l1 : (" " : Str).length = 1 := by decide +kernel
    have jl := StrLaws.join_length_le " " (ps.map row)
    rw [← join_eq, l1, List.length_map] at jl
    refine ⟨_, rfl, rfl, false, congrArg V.bl (str_ne (rows_ne ok e)), iteF ?_⟩
    refine ⟨_, rfl, ⟨_, rfl⟩, Txt.join " " (ps.map row), " ", rfl, rfl, by decide +kernel, by omega, fun l hl => ?_⟩
    rw [rows_split ok e]
    have s1 := same_new hl (.lst ((ps.map row).map V.str))
    refine ⟨l, rfl, ⟨_, .inl (.inl upd_same)⟩, fun D hD => lc_list (K := K) (a := l) (xs := (ps.map row).map V.str) (fun i H2 => ∃ xs : List V, H2 D = some (.lst xs) ∧ PrAt H2 xs (ps.take i) ∧ Same (upd H l (.lst ((ps.map row).map V.str))) H2)
      ⟨[], upd_same, trivial, same_new hD _⟩ (fun i H2 _ ⟨_, _, _, h⟩ => .inl (.inl (h _ _ upd_same))) ?_ ?_⟩
    · rintro i x H2 hi ⟨xs, h2, A2, s2⟩
      rw [List.map_map, List.getElem?_map] at hi
      obtain ⟨p, hp, rfl⟩ : ∃ p, ps[i]? = some p ∧ x = .str (row p) := by
        cases hq : ps[i]? with
        | none => rw [hq] at hi; cases hi
        | some p => rw [hq] at hi; exact ⟨p, rfl, by simpa using hi.symm⟩
      have pm : p ∈ ps := List.mem_of_getElem? hp
      have li : i < ps.length := (List.getElem?_eq_some_iff.mp hp).1
      have xl := A2.len
      rw [List.length_take] at xl
      refine ⟨rfl, ?_⟩
      refine ⟨_, rfl, p, rfl, ok.num p pm, ok.sm p pm, ok.sz p pm, fun b y H3 hb T s3 => ⟨xs, s3 _ _ h2, by omega, xs ++ [.ref b], upd_same, ?_, ?_⟩⟩
      · have h3 := s3 _ _ h2
        have keep : ∀ a zs, H3 a = some (.tup zs) → (upd H3 D (.lst (xs ++ [.ref b]))) a = some (.tup zs) := fun a zs z => by rw [upd_ne (ne_of z h3 (by intro z; cases z))]; exact z
        have tk : ps.take (i + 1) = ps.take i ++ [p] := by rw [List.take_add_one, hp]; rfl
        rw [tk]
        exact (A2.mono fun a zs z => keep a zs (s3 _ _ z)).append ⟨⟨b, y, rfl, keep _ _ hb, T.mono keep⟩, trivial⟩
      · intro c o z
        rw [upd_ne (ne_of_none z hD)]
        exact s3 _ _ (s2 _ _ z)
    · rintro H2 ⟨xs, h2, A2, s2⟩
      rw [List.length_map, List.length_map, List.take_of_length_le (Nat.le_refl _)] at A2
      refine ⟨D, xs, rfl, .inl ⟨.inl (.inl h2), fun a ha => ?_⟩⟩
      have s3 := same_new ha (.tup xs)
      have B : BiAt (upd H2 a (.tup xs)) (.ref a) ps := ⟨a, xs, rfl, upd_same, A2.mono fun b zs z => s3 _ _ z⟩
      refine ⟨_, rfl, _, ps, rfl, B, ok, fun H4 s4 => ⟨true, rfl, iteT ⟨_, rfl, q _ H4 ?_ (s1.trans (s2.trans (s3.trans s4)))⟩⟩⟩
      obtain ⟨a', xs', e1, e2, e3⟩ := B
      exact ⟨a', xs', e1, s4 _ _ e2, e3.mono fun b zs z => s4 _ _ z⟩
theorem scBIn : FnScope ["text", "binding"] ["text"] (defScope sBindingIn) := ⟨rfl, rfl, rfl, by decide +kernel, rfl, by decide +kernel, by decide +kernel⟩
theorem ok_bin {f fO : Addr} {fd dO : FuncData} (F : Fun K "binding_in" "binding_in" sBindingIn f fd)
    (GO : FnOk P w K mg base CX0 7 fO dO ["text"] spBOr) (kO : PySem.W.keepIn K (.ref fO) = true) (bO : Binds K dO ["text"] []) (mO : mg "binding_or_none" = some (.ref fO)) : FnOk P w K mg base CX0 8 f fd ["text"] spBOr := by
  refine F.ok scBIn (fun vs H Q E h => ?_) (fun cdv A outer s H vs Q E hr h => ?_)
  · obtain ⟨ps, rfl, _⟩ := h
    rfl
  obtain ⟨ps, rfl, ok, q⟩ := h
  refine ⟨_, pss_cons (ps_set (i := 1) scBIn.nd rfl (Or.inl rfl) (pe_call GO hr rfl mO kO bO .nil pass0 (pa_cons (pv 0) pa_nil)))
    (pss_cons (ps_if (pt_cmpR op_isN (pv 1) pe_non (nomark _)) pss_never pss_nil) (pss_one (ps_ret (pv 1)))), ?_⟩
  refine ⟨_, rfl, ps, rfl, ok, fun v H1 B s1 => ?_⟩
  have vn : v ≠ .non := by obtain ⟨a, xs, rfl, _⟩ := B; intro z; cases z
  exact ⟨_, rfl, rfl, false, congrArg V.bl (decide_eq_false vn), iteF ⟨_, rfl, q v H1 B s1⟩⟩
end
end Rp

/-! sorted(d) of a dict whose keys are ints. -/
namespace Rp
open PySem PySem.Spec PyProof.Rows L2
theorem int_keys_at : ∀ {us : List Value} {ks : List Int}, us.length = ks.length → (∀ (j : Nat) (v : Value), us[j]? = some v → ∃ (x : Int) (t : Tok), ks[j]? = some x ∧ v = Value.int x t) → IntsAre us ks
  | [], [], _, _ => .nil
  | u :: us, k :: ks, hl, h => by
    obtain ⟨x, t, e1, rfl⟩ := h 0 u rfl
    obtain rfl : k = x := Option.some.inj e1
    refine .cons _ t (int_keys_at (by simpa using hl) fun j v e => ?_)
    obtain ⟨num, tok, at1, is1⟩ := h (j + 1) v (by simpa using e)
    exact ⟨num, tok, by simpa using at1, is1⟩
  | [], _ :: _, long, _ => by simp at long
  | _ :: _, [], long, _ => by simp at long
section
variable {X : Cx}
theorem cr_sortedDI (calm : X.calm = true) : CallR X (.builtin "sorted") (fun xs H Q => ∃ (a : Addr) (kvs : List (Key × V)) (ks : List Int), xs = [.ref a] ∧ Rd H a (.dK kvs) ∧ kvs.map (·.1) = ks.map Sum.inl ∧ ks.length < 64 ∧
    ∀ (ns : List Int) (p : Addr), ns.Perm ks → ns.Pairwise (· ≤ ·) → H p = none → Q (.ref p) (upd H p (.lst (ns.map V.int)))) := by
  intro pins s σ H xs us Q I r told
  obtain ⟨a, kvs, ks, rfl, hd, keysAre, few, go⟩ := told
  obtain ⟨u, rfl, rx⟩ := vals1 r
  cases rx
  obtain ⟨z, lo, vs, rel, dd⟩ := dk_rd I.hok hd
  obtain ⟨ep, at_⟩ := dd.dictAt
  have keyList : vs.map (·.1) = ks.map Sum.inl := rel.keys.symm.trans keysAre
  have long : vs.length = ks.length := by have e := congrArg List.length keyList; rw [List.length_map, List.length_map] at e; exact e
  have room : vs.length ≤ sizeLine := by rw [long, sizeLine_eq]; omega
  refine Calls.call_function_entry PyProof.Rows.kind_sorted PyProof.Rows.plain_sorted PyProof.Rows.entry_sorted (PyProof.Rows.args_sorted1 _) ?_; unfold Builtin.«sorted»
  refine wpAny_bind (m := checkCount "sorted" 1 1 _) (wpAny_pure (wpAny_bind (PySem.W.kdu_collect (A := X.A.in1) (PySem.W.kdl_dict (knd := mixKind X.prog X.w) (kvs := vs) (ep := ep) lo) (I.ok.hd calm) at_ room fun h' tk acc old got => ?_)))
  have many : acc.toList.length = ks.length := by rw [Array.length_toList, got.1, long]
  have numsAre : IntsAre acc.toList ks := int_keys_at many fun j v e => by
    obtain ⟨k, x, e1, e2⟩ := got.2 j v (by rw [← Array.getElem?_toList]; exact e)
    have keyAt : (vs.map (·.1))[j]? = some k := by rw [List.getElem?_map, e1]; rfl
    rw [keyList, List.getElem?_map] at keyAt
    cases look : ks[j]? with
    | none => rw [look] at keyAt; cases keyAt
    | some y =>
      rw [look] at keyAt
      obtain rfl : Sum.inl y = k := Option.some.inj keyAt
      rcases keyIs_shape (show keyIs (Sum.inl y) v = true from e2) with ⟨i, t, ek, ev⟩ | ⟨z, t, ek, ev⟩
      · cases ek; exact ⟨y, t, rfl, ev⟩
      · cases ek
  have J : Inv X pins σ H { s with heap := h', toks := tk } := I.kept old
  refine wpAny_bind (wpAny_newList ?_ (by rw [many, sizeLine_eq]; omega))
  have made : (h'.push (seqObj "list" acc.toList.toArray 0)).get? h'.objs.size = some (seqObj "list" acc.toList.toArray 0) := Heap.get?_push_size _ rfl
  show wpAny _ _ _ _ _ { s with heap := h'.push (seqObj "list" acc.toList.toArray 0), toks := tk }
  refine wpAny_bind (wpAny_holding (wpAny_call_entry PyProof.Rows.slot_list_sort ⟨_, made, rfl⟩ PyProof.Rows.entry_list_sort
    (SrtO.list_sort_ord (s := { s with heap := h'.push (seqObj "list" acc.toList.toArray 0), toks := tk }) SrtO.swo_int made (by rw [many, sizeLine_eq]; omega) (fun h2 => SrtO.ints_sortable numsAre h2) fun out o1 o2 => ⟨_, rfl, ?_⟩) (PyProof.Rows.args_list_sort _)))
  obtain ⟨k1, k2, k3⟩ := SrtO.ints_out numsAre o1 o2
  obtain ⟨ep', he'⟩ := PyProof.Rows.sortedHeap_at (vs := acc.toList) (out := out.toArray) made
  have fits : ((out.map SrtO.iv).map V.int).length ≤ sizeLine := by rw [List.length_map, k2.length_eq]; exact Nat.le_trans (Nat.le_of_lt few) (by decide)
  refine wpAny_pure ⟨_, rfl, .ref h'.objs.size, upd H h'.objs.size (.lst ((out.map SrtO.iv).map V.int)), J.laid (t' := tk) (fun b u e => ?_) (Nat.le_refl _) ⟨fits, out, ep', vals_of_ints k1, he'⟩, rfl, go _ _ k2 k3 (J.hok.fresh (Nat.le_refl _))⟩
  have lt := Heap.lt_size e
  rw [PyProof.Rows.sortedHeap_old (Nat.ne_of_lt lt) (by rw [size_push']; exact Nat.lt_succ_of_lt lt)]
  exact Heap.get?_push_of_some _ e
end
end Rp

set_option maxHeartbeats 8000000
namespace Rp
open PySem PySem.Spec PyProof.Rows L2 TL
def spFresh1 : Sp := fun vs H Q _ => ∃ (b : Addr) (j : Nat), vs = [.ref b] ∧ BoxAt H b j ∧ j + 9 ≤ 1000000 ∧
  ∀ (p : Addr) (ns : List Int) (H' : Hp), H p = none → H' p = some (.lst (ns.map V.int)) → (∀ m ∈ ns, 0 ≤ m ∧ m ≤ 99) → ns.length ≤ 4 → 0 < ns.length → BoxAt H' b (j + 9) → But b H H' → Q (.ref p) H'
def spLText (n : Nat) : Sp := fun vs H Q _ => ∃ (v : V) (t : Tm), vs = [v] ∧ TmAt H v t ∧ t.small ∧ t.size ≤ 1000 ∧ t.deep < n ∧ ∀ H', Same H H' → Q (.str t.txt) H'
section
variable {P : Program} {w : World} {K : PySem.W.Frag} {mg : Str → Option Value} {base : Heap}
theorem ok_fresh1 {f fT : Addr} {fd fdT : FuncData} (F : Fun K "_law_fresh" "_law_fresh" sFresh f fd) (FT : Fun K "_law_take" "_law_take" sTake fT fdT) (bT : Binds K fdT ["_law_box_here", "_law_count"] []) (mT : mg "_law_take" = some (.ref fT))
    (mRange : mg "range" = none) (mInt : mg "int" = none) : FnOk P w K mg base CX0 2 f fd ["_law_box_here"] spFresh1 := by
  have GT : FnOk P w K mg base CX0 1 fT fdT ["_law_box_here", "_law_count"] spTake := ok_take FT
  refine F.ok scFresh (fun vs H Q E h => ?_) (fun cdv A outer s H vs Q E hr h => ?_)
  · obtain ⟨b, j, rfl, _⟩ := h
    rfl
  obtain ⟨b, j, rfl, B, hj, q⟩ := h
  refine ⟨_, pss_cons (ps_set (i := 1) scFresh.nd rfl (Or.inl rfl) (pe_lst pa_nil))
    (pss_cons (ps_for PassesOwn.never rfl (pi_range1 rfl mRange (pa_cons (pe_op op_add pe_int (pe_call GT hr rfl mT FT.kp bT .nil pass0 (pa_cons (pv 0) (pa_cons pe_int pa_nil)))) pa_nil)) (pg_name (i := 2) scFresh.nd rfl (Or.inl rfl))
      (pss_cons (ps_set (i := 3) scFresh.nd rfl (Or.inl rfl) (pe_ix ix_list (pe_lst (pa_cons (pv 2) (pa_cons (pe_call GT hr rfl mT FT.kp bT .nil pass0 (pa_cons (pv 0) (pa_cons pe_int pa_nil))) (pa_cons (pe_op op_sub pe_int (pv 2)) pa_nil))))
          (pe_call GT hr rfl mT FT.kp bT .nil pass0 (pa_cons (pv 0) (pa_cons pe_int pa_nil))) (fun _ _ => rfl)))
      (pss_one (ps_set (i := 1) scFresh.nd rfl (Or.inl rfl) (pe_op op_cat (pv 1) (pe_op op_rep (pe_lst (pa_cons (pv 3) pa_nil)) (pe_callTy call_int1 (by rfl) mInt (by decide +kernel) (pa_cons (pe_cmpR op_notIn_seq (pv 3) (pv 1) (by rfl)) pa_nil))))))))
    (pss_one (ps_ret (pv 1)))), ?_⟩
  refine ⟨(by show 0 ≤ sizeLine; decide), fun p0 hp0 => ?_⟩
  have s0 := same_new hp0 (.lst [])
  refine ⟨_, rfl, b, _, j, rfl, B.same s0, by omega, by decide, by decide, fun r H1 r0 r4 B1 o1 => ?_⟩
  obtain ⟨ys, hb⟩ := B.some
  have pb : p0 ≠ b := fun e => by subst e; rw [hb] at hp0; cases hp0
  refine ⟨_, _, rfl, rfl, _, rfl, by omega, by omega, for_range (lo := 0) (n := (1 + r).toNat) (fun i σ H2 => ∃ (p : Addr) (ns : List Int) (tv nv : Option V), σ = [some (.ref b), some (.ref p), tv, nv] ∧ H p = none ∧ p ≠ b ∧ H2 p = some (.lst (ns.map V.int)) ∧
      (∀ m ∈ ns, 0 ≤ m ∧ m ≤ 99) ∧ ns.length ≤ i ∧ (0 < i → 0 < ns.length) ∧ BoxAt H2 b (j + 1 + 2 * i) ∧ But b H H2) ⟨p0, [], none, none, rfl, hp0, pb, o1 _ _ upd_same pb, (by simp), Nat.le_refl _, (fun h => absurd h (by omega)), B1, (but_of s0).trans o1⟩ ?_ ?_⟩
  · rintro i σ H2 hi ⟨p, ns, tv, nv, rfl, hpn, pb', hp, hm, hl, pos, B2, o2⟩
    refine ⟨_, rfl, _, rfl, b, _, _, rfl, B2, by omega, by decide, by decide, fun r1 H3 a0 a1 B3 o3 => ?_⟩
    refine ⟨_, rfl, _, _, rfl, rfl, (by show 3 ≤ sizeLine; decide), fun d hd => ?_⟩
    have s4 := same_new hd (.lst [V.int (0 + (i : Int)), V.int r1, V.int (99 - (0 + (i : Int)))])
    refine ⟨_, rfl, b, _, _, rfl, B3.same s4, by omega, by decide, by decide, fun r2 H5 c0 c1 B5 o5 => ?_⟩
    obtain ⟨ys3, hb3⟩ := B3.some
    have db : d ≠ b := fun e => by subst e; rw [hb3] at hd; cases hd
    have hd5 := o5 _ _ upd_same db
    have hp5 := o5 _ _ (s4 _ _ (o3 _ _ hp pb')) pb'
    obtain ⟨num, hat, hnum⟩ : ∃ num : Int, atI [V.int (0 + (i : Int)), V.int r1, V.int (99 - (0 + (i : Int)))] r2 = some (.int num) ∧ 0 ≤ num ∧ num ≤ 99 := by
      rcases (by omega : r2 = 0 ∨ r2 = 1 ∨ r2 = 2) with e | e | e <;> subst e
      · exact ⟨_, at_of (j := 0) rfl rfl, by omega, by omega⟩
      · exact ⟨_, at_of (j := 1) rfl rfl, by omega, by omega⟩
      · exact ⟨_, at_of (j := 2) rfl rfl, by omega, by omega⟩
    refine ⟨d, _, _, _, rfl, rfl, .inl (.inl hd5), hat, ?_⟩
    refine ⟨_, rfl, _, rfl, (by show 1 ≤ sizeLine; decide), fun e he => ?_⟩
    have s6 := same_new he (.lst [V.int num])
    have flat : ∀ l : List Int, (l.map V.int).all flatV = true := fun l => by rw [List.all_map]; exact List.all_eq_true.mpr fun _ _ => rfl
    obtain ⟨k, hk⟩ : ∃ k : Bool, (if true = true then !inV (V.int num) (ns.map V.int) else inV (V.int num) (ns.map V.int)) = k := ⟨_, rfl⟩
    refine ⟨_, rfl, _, rfl, p, _, rfl, .inl (.inl (.inl (s6 _ _ hp5))), rfl, flat ns, .inr ⟨k, congrArg (fun z => [V.bl z]) hk, ?_⟩⟩
    have rep : ∃ ms : List Int, (List.replicate (Int.toNat (if k = true then 1 else 0)) [V.int num]).flatten = ms.map V.int ∧ (∀ m ∈ ms, 0 ≤ m ∧ m ≤ 99) ∧ ms.length ≤ 1 := by
      cases k
      · exact ⟨[], rfl, by simp, by decide⟩
      · exact ⟨[num], rfl, by simpa using hnum, by simp⟩
    obtain ⟨ms, ems, hms, lms⟩ := rep
    refine ⟨e, _, _, rfl, rfl, upd_same, by cases k <;> decide, by cases k <;> decide, ?_, fun e2 he2 => ?_⟩
    · have := big1000
      cases k <;> simp <;> omega
    have hne : p ≠ e2 := ne_of_none (s6 _ _ hp5) he2
    have s7 := same_new he2 (.lst (List.replicate (Int.toNat (if k = true then 1 else 0)) [V.int num]).flatten)
    refine ⟨p, e2, ns.map V.int, ms.map V.int, rfl, rfl, s7 _ _ (s6 _ _ hp5), ?_, ?_, fun l hln => ?_⟩
    · rw [← ems]; exact upd_same
    · rw [List.length_map, List.length_map]; have := big1000; omega
    have s8 := same_new hln (.lst (ns.map V.int ++ ms.map V.int))
    have sz := s6.trans (s7.trans s8)
    have oz : But b H _ := o2.trans (o3.trans ((but_of s4).trans (o5.trans (but_of sz))))
    refine ⟨l, ns ++ ms, _, _, rfl, ?_, ?_, ?_, ?_, ?_, ?_, ((B5.same sz).more (by omega)), oz⟩
    · cases z : H l with
      | none => rfl
      | some o =>
        have nlb : l ≠ b := fun e => by
          subst e
          obtain ⟨y5, hb5⟩ := B5.some
          rw [(s6.trans s7) _ _ hb5] at hln
          cases hln
        rw [(o2.trans (o3.trans ((but_of s4).trans (o5.trans (but_of (s6.trans s7)))))) _ _ z nlb] at hln
        cases hln
    · intro e
      subst e
      obtain ⟨y5, hb5⟩ := B5.some
      rw [(s6.trans s7) _ _ hb5] at hln
      cases hln
    · rw [upd_same, List.map_append]
    · intro m h
      rcases List.mem_append.mp h with h | h
      · exact hm m h
      · exact hms m h
    · rw [List.length_append]; omega
    · intro _
      rw [List.length_append]
      rcases Nat.eq_zero_or_pos ns.length with z0 | z0
      · have e0 : ns = [] := List.eq_nil_iff_length_eq_zero.mpr z0
        subst e0
        have hk' : k = true := by
          rw [← hk]
          rfl
        rw [hk'] at ems
        cases ms with
        | nil => simp at ems
        | cons => simp
      · omega
  · rintro σ H2 ⟨p, ns, tv, nv, rfl, hpn, pb', hp, hm, hl, pos, B2, o2⟩
    exact ⟨_, rfl, q p ns H2 hpn hp hm (by omega) (pos (by omega)) (B2.more (by omega)) o2⟩
theorem kid_nums {t k : Tm} (h : k ∈ t.kids) : ∀ n ∈ k.nums, n ∈ t.nums := by
  cases t with
  | v n => simp [Tm.kids] at h
  | z => simp [Tm.kids] at h
  | s t => simp [Tm.kids] at h; subst h; exact fun n hn => hn
  | f l r =>
    simp [Tm.kids] at h
    rcases h with rfl | rfl
    · exact fun n hn => List.mem_append.mpr (.inl hn)
    · exact fun n hn => List.mem_append.mpr (.inr hn)
theorem scLText : FnScope ["_law_term", "_law_part"] ["_law_term"] (defScope sText) := ⟨rfl, rfl, rfl, by decide +kernel, rfl, by decide +kernel, by decide +kernel⟩
theorem ok_ltext {n : Nat} {f : Addr} {fd : FuncData} (F : Fun K "_law_text" "_law_text" sText f fd) (b1 : Binds K fd ["_law_term"] []) (mF : mg "_law_text" = some (.ref f)) (G : FnOk P w K mg base CX0 n f fd ["_law_term"] (spLText n)) (M : SameG mg) :
    FnOk P w K mg base CX0 (n + 1) f fd ["_law_term"] (spLText (n + 1)) := by
  refine F.ok scLText (fun vs H Q E h => ?_) (fun cdv A outer s H vs Q E hr h => ?_)
  · obtain ⟨v, t, rfl, _⟩ := h
    rfl
  obtain ⟨v, t, rfl, T, sm, sz, dp, q⟩ := h
  refine ⟨_, pss_cons (ps_if (pt_val (pe_callB (id := "isinstance") call_isi (by rfl) M.isi (by decide +kernel) (pa_cons (pv 0) (pa_cons (pe_bltn (v := .ty "int") (by rfl) M.int (by decide +kernel) rfl) pa_nil))))
      (pss_one (ps_ret (pe_op op_add_str pe_str (pe_callTy call_str_int (by rfl) M.str (by decide +kernel) (pa_cons (pv 0) pa_nil))))) pss_nil)
    (pss_cons (ps_if (pt_cmpR op_eq (pe_callB call_len_seq (by rfl) M.len PySem.boot_len (pa_cons (pv 0) pa_nil)) pe_int (nomark _)) (pss_one (ps_ret pe_str)) pss_nil)
    (pss_one (ps_ret (pe_op op_add_str (pe_op op_add_str (pe_op op_add_str (pe_ix ix_tup (pv 0) pe_int (fun _ _ => rfl)) pe_str) (pe_bm PySem.F.plainAttrs_str PySem.F.slot_str_join PySem.F.type_str_join mt_join pe_str (pa_cons
      (pe_lc (own := [("_law_part", 1)]) (g := gName 1) (tt := tYes) (te := tCall (spLText n) [] E0 (tCons (tVar 1) tNil)) rfl scLText.nd (pi_tup (pe_slice sl_tup (pv 0) (po_some pe_int) po_none))
        (blkOk_by (N := ["_law_term", "_law_part"]) (sc := defScope sText) (by decide +kernel)) (fun _ _ _ _ _ => pg_name (i := 1) scLText.nd rfl (Or.inl rfl))
        (fun _ _ _ _ _ => pts_nil) (fun _ _ _ _ _ => pe_call G hr (by rfl) mF F.kp b1 .nil pass0 (pa_cons (pv 1) pa_nil))) pa_nil))) pe_str)))), ?_⟩
  have big : (10000 : Nat) ≤ sizeLine := by decide
  have tl0 := txt_len t sm
  rcases T.ty (K := K) with ⟨m, rfl, rfl⟩ | ⟨a, xs, rfl, ha, ty, no⟩
  · have hm := sm m (by simp [Tm.nums])
    refine ⟨_, rfl, _, _, _, _, true, rfl, .ty "int", .base (.int m), kit_ii, true, rfl, iteT ?_⟩
    refine ⟨_, rfl, m, rfl, ?_, "x", _, rfl, rfl, ?_, q H (Same.refl H)⟩
    · have := Nat.log2_le_self m.natAbs; omega
    · have := num_len hm
      have : ("x" : Str).length = 1 := by decide +kernel
      show 1 + (Str.ofString (toString m)).length ≤ _
      omega
  · obtain ⟨a', ks, e, ha', hk, hks⟩ := T.tupled no
    cases e
    refine ⟨_, rfl, _, _, _, _, false, rfl, .ty "int", ty, kit_ti, false, rfl, iteF ?_⟩
    have l3 : ("(" : Str).length = 1 := by decide +kernel
    have l4 : (")" : Str).length = 1 := by decide +kernel
    have l5 : ("," : Str).length = 1 := by decide +kernel
    have kid_ok : ∀ (x : V) (i : Nat), ks[i]? = some x → ∃ k, t.kids[i]? = some k ∧ TmAt H x k ∧ k.small ∧ k.size ≤ 1000 ∧ k.deep < n := by
      intro x i hx
      have hil : i < t.kids.length := by rw [← hk]; exact (List.getElem?_eq_some_iff.mp hx).1
      have hki : t.kids[i]? = some t.kids[i] := List.getElem?_eq_getElem hil
      have mem : t.kids[i] ∈ t.kids := List.getElem_mem hil
      have d1 := kid_deep mem
      have z1 := kid_size mem
      refine ⟨_, hki, hks i x _ hx hki, ?_, by omega, by omega⟩
      exact fun k hk' => sm k (kid_nums mem k hk')
    by_cases hz : ks = []
    · subst hz
      have tz : t = .z := by
        cases t with
        | v n => exact absurd rfl (no n)
        | z => rfl
        | s t => simp [Tm.kids] at hk
        | f l r => simp [Tm.kids] at hk
      subst tz
      exact ⟨_, rfl, a, _, rfl, .inr (.inl (.inl ha')), rfl, true, congrArg V.bl (decide_eq_true rfl), iteT (q H (Same.refl H))⟩
    · have kpos : 0 < ks.length := List.length_pos_iff.mpr hz
      refine ⟨_, rfl, a, _, rfl, .inr (.inl (.inl ha')), rfl, false, congrArg V.bl (decide_eq_false (fun z => by injection z with z; rw [List.length_cons] at z; omega)), iteF ?_⟩
      have hl1 : (signHead t).length = 1 := by
        cases t with
        | v n => exact absurd rfl (no n)
        | z => show ("0" : Str).length = 1; decide +kernel
        | s t => show ("s" : Str).length = 1; decide +kernel
        | f l r => show ("f" : Str).length = 1; decide +kernel
      refine ⟨_, rfl, a, _, _, _, rfl, rfl, .inl (.inl ha'), at_of (j := 0) rfl rfl, signHead t, "(", rfl, rfl, by omega, ?_⟩
      refine ⟨rfl, _, rfl, 1, rfl, a, _, rfl, .inl (.inl ha'), cut_part _ _, fun p hp => ?_⟩
      rw [cut_tail]
      have s1 := same_new hp (.tup ks)
      refine ⟨p, rfl, ⟨_, .inl (.inl upd_same)⟩, fun D hD => lc_tup (K := K) (a := p) (xs := ks) (fun i H2 => H2 D = some (.lst (((t.kids.take i).map Tm.txt).map V.str)) ∧ Same (upd H p (.tup ks)) H2) ⟨upd_same, same_new hD _⟩ (fun i H2 _ h => .inl (.inl (h.2 _ _ upd_same))) ?_ ?_⟩
      · rintro i x H2 hi ⟨h2, s2⟩
        obtain ⟨k, hki, Tk, smk, szk, dk⟩ := kid_ok x i hi
        refine ⟨rfl, ?_⟩
        refine ⟨_, rfl, x, k, rfl, (Tk.same s1).same s2, smk, szk, dk, fun H3 s3 => ⟨_, s3 _ _ h2, ?_, ?_, ?_⟩⟩
        · rw [List.length_map, List.length_map, List.length_take]
          have : t.kids.length ≤ 2 := by cases t <;> simp [Tm.kids]
          omega
        · have tk : t.kids.take (i + 1) = t.kids.take i ++ [k] := by rw [List.take_add_one, hki]; rfl
          rw [upd_same, tk, List.map_append, List.map_append]; rfl
        · intro c o z
          rw [upd_ne (ne_of_none z hD)]
          exact s3 _ _ (s2 _ _ z)
      · rintro H2 ⟨h2, s2⟩
        rw [hk, List.take_of_length_le (Nat.le_refl _)] at h2
        have tt := Tm.txt_kids t
        have pt : t.txt = signHead t ++ "(" ++ Txt.join "," (t.kids.map Tm.txt) ++ ")" := by
          rw [tt]
          cases t with
          | v n => exact absurd rfl (no n)
          | z => simp [Tm.kids] at hk; exact absurd hk hz
          | s t => rfl
          | f l r => rfl
        have lt := congrArg Str.length pt
        rw [slen, slen, slen] at lt
        refine ⟨",", D, t.kids.map Tm.txt, rfl, rfl, .inl (.inl (.inl h2)), ?_, ?_⟩
        · have each : ∀ k ∈ t.kids, k.txt.length ≤ 4000 := fun k hk' => by
            obtain ⟨i, hi, rfl⟩ := List.getElem_of_mem hk'
            obtain ⟨k', h1, _, h3, h4, _⟩ := kid_ok (ks[i]'(by omega)) i (List.getElem?_eq_getElem (by omega))
            rw [List.getElem?_eq_getElem hi] at h1
            cases h1
            have := txt_len _ h3
            omega
          rw [l5]
          match hkk : t.kids, each with
          | [], _ => simp
          | [k], each => simp; have := each k (by simp); omega
          | [k, k'], each => simp; have := each k (by simp); have := each k' (by simp); omega
          | k :: k' :: k'' :: r, _ => cases t <;> simp [Tm.kids] at hkk
        · refine ⟨signHead t ++ "(", _, rfl, rfl, by rw [slen]; omega, ?_⟩
          refine ⟨signHead t ++ "(" ++ Txt.join "," (t.kids.map Tm.txt), ")", rfl, rfl, by rw [slen, slen]; omega, ?_⟩
          rw [← pt]
          exact q H2 (s1.trans s2)
theorem ltext_ok {f : Addr} {fd : FuncData} (F : Fun K "_law_text" "_law_text" sText f fd) (b1 : Binds K fd ["_law_term"] []) (mF : mg "_law_text" = some (.ref f)) (M : SameG mg) : ∀ n : Nat, FnOk P w K mg base CX0 n f fd ["_law_term"] (spLText n)
  | 0 => none_left fun vs H Q E h => by
    obtain ⟨v, t, _, _, _, _, h, _⟩ := h
    omega
  | n + 1 => ok_ltext F b1 mF (ltext_ok F b1 mF M n) M
end
end Rp

set_option maxHeartbeats 8000000
namespace Rp
open PySem PySem.Spec PyProof.Rows L2 TL
def spPairs : Sp := fun vs H Q _ => ∃ (b p : Addr) (fs : List Int) (j : Nat) (room : Int), vs = [.ref b, .ref p, .int room] ∧ BoxAt H b j ∧ j + 200 ≤ 1000000 ∧ H p = some (.lst (fs.map V.int)) ∧ p ≠ b ∧ (∀ m ∈ fs, 0 ≤ m ∧ m ≤ 99) ∧ fs.length ≤ 4 ∧ 1 ≤ room ∧ room ≤ 12 ∧
  ∀ (v : V) (ps : Prs) (H' : Hp), BiAt H' v ps → PrOk ps → BoxAt H' b (j + 200) → But b H H' → Q v H'
/-- a dict of small TERMs by their ints -/
structure DcAt (H : Hp) (kvs : List (Key × V)) (ks : List Int) : Prop where
  keys : kvs.map (·.1) = ks.map Sum.inl
  nd : ks.Nodup
  num : ∀ k ∈ ks, 0 ≤ k ∧ k ≤ 99
  val : ∀ k ∈ ks, ∃ v t, valV kvs (Sum.inl k) = some v ∧ TmAt H v t ∧ t.small ∧ t.size ≤ 12
theorem DcAt.mono {H H' : Hp} {kvs : List (Key × V)} {ks : List Int} (e : ∀ a xs, H a = some (.tup xs) → H' a = some (.tup xs)) (D : DcAt H kvs ks) : DcAt H' kvs ks :=
  ⟨D.keys, D.nd, D.num, fun k hk => let ⟨v, t, h1, h2, h3, h4⟩ := D.val k hk; ⟨v, t, h1, h2.mono e, h3, h4⟩⟩
theorem DcAt.put {H : Hp} {kvs : List (Key × V)} {ks : List Int} (D : DcAt H kvs ks) {k : Int} (hk : 0 ≤ k ∧ k ≤ 99) {v : V} {t : Tm} (T : TmAt H v t) (sm : t.small) (sz : t.size ≤ 12) :
    ∃ ks', DcAt H (putK kvs (Sum.inl k) v) ks' ∧ ks'.length ≤ ks.length + 1 := by
  by_cases hm : k ∈ ks
  · refine ⟨ks, ⟨?_, D.nd, D.num, fun j hj => ?_⟩, by omega⟩
    · unfold putK
      have : (kvs.any fun kv => decide (kv.1 = Sum.inl k)) = true := by
        rw [List.any_eq_true]
        have : Sum.inl k ∈ kvs.map (·.1) := by rw [D.keys]; exact List.mem_map_of_mem hm
        obtain ⟨kv, h1, h2⟩ := List.mem_map.mp this
        exact ⟨kv, h1, decide_eq_true h2⟩
      rw [if_pos this, List.map_map, ← D.keys]
      refine List.map_congr_left fun kv _ => ?_
      show (if kv.1 = Sum.inl k then (kv.1, v) else kv).1 = kv.1
      split <;> rfl
    · rw [valV_put]
      by_cases e : j = k
      · subst e; rw [if_pos rfl]; exact ⟨v, t, rfl, T, sm, sz⟩
      · rw [if_neg (fun z => e (Sum.inl.inj z))]; exact D.val j hj
  · have none_ : ¬ (kvs.any fun kv => decide (kv.1 = Sum.inl k)) = true := fun h => by
      obtain ⟨kv, h1, h2⟩ := List.any_eq_true.mp h
      have h3 : Sum.inl k ∈ kvs.map (·.1) := List.mem_map.mpr ⟨kv, h1, of_decide_eq_true h2⟩
      rw [D.keys] at h3
      obtain ⟨k', h4, h5⟩ := List.mem_map.mp h3
      exact hm (by cases h5; exact h4)
    refine ⟨ks ++ [k], ⟨?_, ?_, fun j hj => ?_, fun j hj => ?_⟩, by simp⟩
    · unfold putK
      rw [if_neg none_, List.map_append, List.map_append, D.keys]
      rfl
    · rw [List.nodup_append]
      exact ⟨D.nd, by simp, fun x hx y hy e => by simp at hy; subst hy; subst e; exact hm hx⟩
    · rcases List.mem_append.mp hj with hj | hj
      · exact D.num j hj
      · simp at hj; subst hj; exact hk
    · rw [valV_put]
      by_cases e : j = k
      · subst e; rw [if_pos rfl]; exact ⟨v, t, rfl, T, sm, sz⟩
      · rw [if_neg (fun z => e (Sum.inl.inj z))]
        rcases List.mem_append.mp hj with hj | hj
        · exact D.val j hj
        · simp at hj; exact absurd hj e
section
variable {P : Program} {w : World} {K : PySem.W.Frag} {mg : Str → Option Value} {base : Heap}
theorem scPairs : FnScope ["_law_box_here", "_law_fresh_here", "_law_room", "_law_found", "_law_variable"] ["_law_box_here", "_law_fresh_here", "_law_room"] (defScope sPairs) := ⟨rfl, rfl, rfl, by decide +kernel, rfl, by decide +kernel, by decide +kernel⟩
theorem ok_pairs {f fT fTr fF : Addr} {fd dT dTr dF : FuncData} (F : Fun K "_law_pairs" "_law_pairs" sPairs f fd)
    (GT : FnOk P w K mg base CX0 1 fT dT ["_law_box_here", "_law_count"] spTake) (kT : PySem.W.keepIn K (.ref fT) = true) (bT : Binds K dT ["_law_box_here", "_law_count"] []) (mT : mg "_law_take" = some (.ref fT))
    (GTr : FnOk P w K mg base CX0 66 fTr dTr ["_law_box_here", "_law_room", "_law_fresh_here"] (spTree 64)) (kTr : PySem.W.keepIn K (.ref fTr) = true) (bTr : Binds K dTr ["_law_box_here", "_law_room", "_law_fresh_here"] []) (mTr : mg "_law_tree" = some (.ref fTr))
    (GF : FnOk P w K mg base CX0 2 fF dF ["_law_box_here"] spFresh1) (kF : PySem.W.keepIn K (.ref fF) = true) (bF : Binds K dF ["_law_box_here"] []) (mF : mg "_law_fresh" = some (.ref fF))
    (mList : mg "list" = none) (mSorted : mg "sorted" = none) (mTuple : mg "tuple" = none) : FnOk P w K mg base CX0 67 f fd ["_law_box_here", "_law_fresh_here", "_law_room"] spPairs := by
  refine F.ok scPairs (fun vs H Q E h => ?_) (fun cdv A outer s H vs Q E hr h => ?_)
  · obtain ⟨b, p, fs, j, room, rfl, _⟩ := h
    rfl
  obtain ⟨b, p, fs, j, room, rfl, B, hj, hp, pb, fm, fl, r1, r2, q⟩ := h
  have h1 : Room 1 _ := hr.mono (by decide)
  have h2 : Room 2 _ := hr.mono (by decide)
  refine ⟨_, pss_cons (ps_set (i := 3) scPairs.nd rfl (Or.inr rfl) pe_dnewK)
    (pss_cons (ps_for PassesOwn.never rfl (pi_list (pe_op op_cat (pe_callTy call_list_of (by rfl) mList (by decide +kernel) (pa_cons (pv 1) pa_nil)) (pe_lst (pa_cons (pe_call GT h1 rfl mT kT bT .nil pass0 (pa_cons (pv 0) (pa_cons pe_int pa_nil))) pa_nil)))) (pg_name (i := 4) scPairs.nd rfl (Or.inl rfl))
      (pss_one (ps_if (pt_cmpR op_gt (pe_call GT h1 rfl mT kT bT .nil pass0 (pa_cons (pv 0) (pa_cons pe_int pa_nil))) pe_int (nomark _))
        (pss_one (ps_dput (hu_of hr) (pv 3) (pv 4) (pe_call GTr hr rfl mTr kTr bTr .nil pass0 (pa_cons (pv 0) (pa_cons (pe_op op_add pe_int (pe_call GT h1 rfl mT kT bT .nil pass0 (pa_cons (pv 0) (pa_cons (pv 2) pa_nil))))
          (pa_cons (pe_call GF h2 rfl mF kF bF .nil pass0 (pa_cons (pv 0) pa_nil)) pa_nil)))) rfl)) pss_nil)))
    (pss_one (ps_ret (pe_callTy call_tuple_of (by rfl) mTuple (by decide +kernel) (pa_cons (pe_lc (own := [("_law_variable", 4)]) (g := gName 4) (tt := tYes) (te := tTup (tCons (tVar 4) (tCons (tDGet (tVar 3) (tVar 4)) tNil))) rfl scPairs.nd
        (pi_list (pe_callB (cr_sortedDI rfl) (by rfl) mSorted (by decide +kernel) (pa_cons (pv 3) pa_nil))) (blkOk_by (N := ["_law_box_here", "_law_fresh_here", "_law_room", "_law_found", "_law_variable"]) (sc := defScope sPairs) (by decide +kernel)) (fun _ _ _ _ _ => pg_name (i := 4) scPairs.nd rfl (Or.inl rfl))
        (fun _ _ _ _ _ => pts_nil) (fun _ _ _ _ _ => pe_tup (pa_cons (pv 4) (pa_cons (pe_dget (hu_of hr) (pv 3) (pv 4) (fun _ _ => rfl)) pa_nil)))) pa_nil))))), ?_⟩
  obtain ⟨ys, hb⟩ := B.some
  refine fun d hd => ?_
  have s1 := same_new hd (.dK [])
  have db : d ≠ b := (ne_of_none hb hd).symm
  refine ⟨_, rfl, p, _, rfl, .inl (.inl (.inl (s1 _ _ hp))), fun l hl => ?_⟩
  have s2 := same_new hl (.lst (fs.map V.int))
  refine ⟨_, rfl, b, _, j, rfl, (B.same s1).same s2, by omega, by decide, by decide, fun x H1 x0 x1 B1 o1 => ?_⟩
  obtain ⟨ys1, hb1⟩ := B1.some
  refine ⟨(by show 1 ≤ sizeLine; decide), fun l2 hl2 => ?_⟩
  have s3 := same_new hl2 (.lst [V.int x])
  have lb : l ≠ b := (ne_of_none (s1 _ _ hb) hl).symm
  have hl1 := o1 _ _ upd_same lb
  have l12 : l ≠ l2 := ne_of_none hl1 hl2
  refine ⟨l, l2, _, _, rfl, rfl, s3 _ _ hl1, upd_same, ?_, fun l3 hl3 => ?_⟩
  · have := big1000; rw [List.length_map, List.length_singleton]; omega
  have s4 := same_new hl3 (.lst (fs.map V.int ++ [V.int x]))
  have B3 := (B1.same s3).same s4
  have l3b : l3 ≠ b := (ne_of_none (s3 _ _ hb1) hl3).symm
  have hd3 := s4 _ _ (s3 _ _ (o1 _ _ (s2 _ _ (upd_same : (upd H d (.dK [])) d = some (.dK []))) db))
  have l3d : l3 ≠ d := (ne_of_none (s3 _ _ (o1 _ _ (s2 _ _ (upd_same : (upd H d (.dK [])) d = some (.dK []))) db)) hl3).symm
  have oA : But b H _ := (but_of (s1.trans s2)).trans (o1.trans (but_of (s3.trans s4)))
  have exs : fs.map V.int ++ [V.int x] = (fs ++ [x]).map V.int := by simp
  have hl33 : (upd (upd H1 l2 (.lst [V.int x])) l3 (.lst (fs.map V.int ++ [V.int x]))) l3 = some (.lst ((fs ++ [x]).map V.int)) := by rw [upd_same, exs]
  have fx : ∀ m ∈ fs ++ [x], 0 ≤ m ∧ m ≤ 99 := fun m hm => by
    rcases List.mem_append.mp hm with hm | hm
    · exact fm m hm
    · simp at hm; omega
  have flx : (fs ++ [x]).length ≤ 5 := by rw [List.length_append, List.length_singleton]; omega
  refine ⟨l3, rfl, ⟨_, .inl (.inl hl33)⟩, for_list (K := K) (a := l3) (xs := (fs ++ [x]).map V.int) (fun i σ H2 => ∃ (x4 : Option V) (kvs : List (Key × V)) (ks : List Int), σ = [some (.ref b), some (.ref p), some (.int room), some (.ref d), x4] ∧ H2 d = some (.dK kvs) ∧ DcAt H2 kvs ks ∧ ks.length ≤ i ∧
      BoxAt H2 b (j + 1 + 30 * i) ∧ But b H H2 ∧ H2 l3 = some (.lst ((fs ++ [x]).map V.int))) ⟨none, [], [], rfl, hd3, ⟨rfl, by simp, by simp, by simp⟩, Nat.le_refl _, B3, oA, hl33⟩ (fun i σ H2 _ ⟨_, _, _, _, _, _, _, _, _, h⟩ => .inl (.inl h)) ?_ ?_⟩
  · rintro i y σ H2 hi ⟨x4, kvs, ks, rfl, hd2, D2, kl, B2, o2, hl2'⟩
    have li : i < ((fs ++ [x]).map V.int).length := (List.getElem?_eq_some_iff.mp hi).1
    rw [List.length_map] at li
    obtain ⟨k, hk, rfl⟩ : ∃ k, (fs ++ [x])[i]? = some k ∧ y = .int k := by
      rw [List.getElem?_map] at hi
      cases hq : (fs ++ [x])[i]? with
      | none => rw [hq] at hi; cases hi
      | some k => rw [hq] at hi; exact ⟨k, rfl, by simpa using hi.symm⟩
    have hkn := fx k (List.mem_of_getElem? hk)
    obtain ⟨ys2, hb2⟩ := B2.some
    have keepB : ∀ {HA HB : Hp} {zs : List V}, But b HA HB → HA b = some (.lst zs) → ∀ a xs, HA a = some (.tup xs) → HB a = some (.tup xs) := fun o hz a xs z => o a _ z (ne_of z hz (by intro e; cases e))
    refine ⟨_, rfl, b, _, _, rfl, B2, by omega, by decide, by decide, fun c H3 c0 c1 B3' o3 => ?_⟩
    refine ⟨_, _, rfl, rfl, _, rfl, ?_⟩
    refine ite2 (fun _ => ?_) (fun _ => ?_)
    · obtain ⟨ys3, hb3⟩ := B3'.some
      refine ⟨_, rfl, _, rfl, _, rfl, b, room, _, rfl, B3', by omega, by omega, by omega, fun r H4 r0 r1' B4 o4 => ?_⟩
      refine ⟨_, _, rfl, rfl, _, rfl, b, _, rfl, B4, by omega, fun g gs H5 hg h5 gm gl _ B5 o5 => ?_⟩
      obtain ⟨ys4, hb4⟩ := B4.some
      obtain ⟨ys5, hb5⟩ := B5.some
      have gb : g ≠ b := fun e => by subst e; rw [hb4] at hg; cases hg
      refine ⟨b, g, gs, _, _, rfl, B5, by omega, h5, gb, by omega, by omega, by omega, fun v t H6 T zt tn B6 o6 => ?_⟩
      have o26 : But b H2 H6 := o3.trans (o4.trans (o5.trans o6))
      have hd6 := o26 _ _ hd2 db
      have D6 := D2.mono (keepB o26 hb2)
      obtain ⟨ks', D7, kl'⟩ := D6.put (k := k) hkn T (fun m hm => gm m (tn m hm)) (by omega)
      have few6 : kvs.length < sizeLine := by
        have e := congrArg List.length D2.keys
        rw [List.length_map, List.length_map] at e
        have := big1000
        omega
      refine ⟨_, rfl, _, rfl, d, _, rfl, DPut.k (k := Sum.inl k) hd6 few6, ?_⟩
      have hb6 := B6.some
      obtain ⟨ys6, hb6⟩ := hb6
      have keepD : ∀ a xs, H6 a = some (.tup xs) → (upd H6 d (.dK (putK kvs (Sum.inl k) v))) a = some (.tup xs) := fun a xs z => by rw [upd_ne (ne_of z hd6 (by intro e; cases e))]; exact z
      have dNone : H d = none := hd
      refine ⟨_, _, ks', rfl, upd_same, D7.mono keepD, by omega, ?_, ?_, ?_⟩
      · obtain ⟨a1, a2, a3, a4, a5⟩ := (B6.more (by omega : _ ≤ j + 1 + 30 * (i + 1))).ex
        exact ⟨a1, a2, a3, by rw [upd_ne db.symm]; exact a4, a5⟩
      · intro c o z nc
        rw [upd_ne (ne_of_none z dNone)]
        exact o26 c o (o2 c o z nc) nc
      · rw [upd_ne l3d]
        exact o26 _ _ hl2' l3b
    · exact ⟨_, kvs, ks, rfl, o3 _ _ hd2 db, D2.mono (keepB o3 hb2), by omega, B3'.more (by omega), o2.trans o3, o3 _ _ hl2' l3b⟩
  · rintro σ H2 ⟨x4, kvs, ks, rfl, hd2, D2, kl, B2, o2, hl2'⟩
    rw [List.length_map] at kl B2
    refine ⟨_, rfl, d, kvs, ks, rfl, .inl hd2, D2.keys, by omega, fun ns g perm up hg => ?_⟩
    have s5 := same_new hg (.lst (ns.map V.int))
    have nl : ns.length = ks.length := perm.length_eq
    have nnd : ns.Nodup := perm.nodup_iff.mpr D2.nd
    have nup : ns.Pairwise (· < ·) := by
      refine (List.Pairwise.and up nnd).imp fun {a b} h => ?_
      have := h.1
      have := h.2
      omega
    refine ⟨g, rfl, ⟨_, .inl (.inl upd_same)⟩, fun D hD => lc_list (K := K) (a := g) (xs := ns.map V.int) (fun i H3 => ∃ (xs : List V) (ps : Prs), H3 D = some (.lst xs) ∧ PrAt H3 xs ps ∧ ps.map (·.1) = ns.take i ∧ (∀ p ∈ ps, p.2.small ∧ p.2.size ≤ 12) ∧ Same (upd H2 g (.lst (ns.map V.int))) H3)
      ⟨[], [], upd_same, trivial, by simp, by simp, same_new hD _⟩ (fun i H3 _ ⟨_, _, _, _, _, _, h⟩ => .inl (.inl (h _ _ upd_same))) ?_ ?_⟩
    · rintro i y H3 hi ⟨xs, ps, h3, A3, em, sm3, s6⟩
      obtain ⟨k, hk, rfl⟩ : ∃ k, ns[i]? = some k ∧ y = .int k := by
        rw [List.getElem?_map] at hi
        cases hq : ns[i]? with
        | none => rw [hq] at hi; cases hi
        | some k => rw [hq] at hi; exact ⟨k, rfl, by simpa using hi.symm⟩
      obtain ⟨v, t, hv, T, tsm, tsz⟩ := D2.val k (perm.mem_iff.mp (List.mem_of_getElem? hk))
      have hd3 := s6 _ _ (s5 _ _ hd2)
      have xl := A3.len
      have pl := congrArg List.length em
      rw [List.length_map, List.length_take] at pl
      refine ⟨rfl, ?_⟩
      refine ⟨_, rfl, _, rfl, _, rfl, d, v, rfl, hv ▸ DGet.k (k := Sum.inl k) hd3, (by show 2 ≤ sizeLine; decide), fun pr hpr => ?_⟩
      have s7 := same_new hpr (.tup [V.int k, v])
      have h37 := s7 _ _ h3
      have keep : ∀ a zs, (upd H3 pr (.tup [V.int k, v])) a = some (.tup zs) → (upd (upd H3 pr (.tup [V.int k, v])) D (.lst (xs ++ [.ref pr]))) a = some (.tup zs) := fun a zs z => by rw [upd_ne (ne_of z h37 (by intro e; cases e))]; exact z
      have T3 : TmAt H3 v t := T.mono fun a zs z => s6 _ _ (s5 _ _ z)
      refine ⟨xs, h37, by have := big1000; omega, xs ++ [.ref pr], ps ++ [(k, t)], upd_same, ?_, ?_, ?_, ?_⟩
      · exact (A3.mono fun a zs z => keep a zs (s7 _ _ z)).append ⟨⟨pr, v, rfl, keep _ _ upd_same, T3.mono fun a zs z => keep a zs (s7 _ _ z)⟩, trivial⟩
      · rw [List.map_append, em, List.take_add_one, hk]; rfl
      · intro p' hp'
        rcases List.mem_append.mp hp' with z | z
        · exact sm3 p' z
        · simp at z; subst z; exact ⟨tsm, tsz⟩
      · intro c o z
        rw [upd_ne (ne_of_none z hD)]
        exact s7 _ _ (s6 _ _ z)
    · rintro H3 ⟨xs, ps, h3, A3, em, sm3, s6⟩
      rw [List.length_map, List.take_of_length_le (Nat.le_refl _)] at em
      refine ⟨D, xs, rfl, .inl ⟨.inl (.inl h3), fun a ha => ?_⟩⟩
      have s7 := same_new ha (.tup xs)
      have pl := congrArg List.length em
      rw [List.length_map] at pl
      have sB := s5.trans (s6.trans s7)
      refine q _ ps _ ⟨a, xs, rfl, upd_same, A3.mono fun c zs z => s7 _ _ z⟩ ⟨fun p' hp' => ?_, fun p' hp' => (sm3 p' hp').1, fun p' hp' => by have := (sm3 p' hp').2; omega, by rw [em]; exact nup, by omega⟩ ((B2.same sB).more (by omega)) (o2.trans (but_of sB))
      have : p'.1 ∈ ns := by rw [← em]; exact List.mem_map_of_mem hp'
      exact D2.num _ (perm.mem_iff.mp this)
end
end Rp

set_option maxHeartbeats 8000000
namespace Rp
open PySem PySem.Spec PyProof.Rows L2 TL
theorem txt_hi : ∀ (t : Tm), t.small → ∀ d ∈ tl t.txt, d ≤ 120
  | .v n, h, d, hd => by
    have hd : d ∈ tl (("x" : Str) ++ Str.ofString (toString n)) := hd
    rw [tl_append, t_x, tl_int (h n (by simp [Tm.nums])).1] at hd
    rcases List.mem_append.mp hd with hd | hd
    · simp at hd; omega
    · have := numL_small _ d hd; omega
  | .z, h, d, hd => by
    have hd : d ∈ tl ("0" : Str) := hd
    rw [t_0] at hd; simp at hd; omega
  | .s t, h, d, hd => by
    have hd : d ∈ tl (("s" : Str) ++ "(" ++ Txt.join "," [t.txt] ++ ")") := hd
    rw [join1, tl_append, tl_append, tl_append, t_s, t_open, t_close] at hd
    simp only [List.mem_append, List.mem_singleton] at hd
    rcases hd with ((hd | hd) | hd) | hd
    · omega
    · omega
    · exact txt_hi t h d hd
    · omega
  | .f l r, h, d, hd => by
    have hd : d ∈ tl (("f" : Str) ++ "(" ++ Txt.join "," [l.txt, r.txt] ++ ")") := hd
    rw [join2, tl_append, tl_append, tl_append, tl_append, tl_append, t_f, t_open, t_close, t_comma] at hd
    simp only [List.mem_append, List.mem_singleton] at hd
    rcases hd with ((hd | hd) | (hd | hd) | hd) | hd
    · omega
    · omega
    · exact txt_hi l (fun n hn => h n (by simp [Tm.nums, hn])) d hd
    · omega
    · exact txt_hi r (fun n hn => h n (by simp [Tm.nums, hn])) d hd
    · omega
theorem lay_str {x : Str} (h : ∀ d ∈ tl x, d ≤ 120) : PyData.canLay0 (.str x) = true := by
  show (x.cps.all (· < 0x110000)) = true
  rw [Array.all_eq_true_iff_forall_mem]
  intro d hd
  have := h d (Array.mem_toList_iff.mpr hd)
  simp
  omega
theorem row_hi {p : Int × Tm} (h : 0 ≤ p.1) (h' : p.2.small) : ∀ d ∈ tl (row p), d ≤ 120 := by
  intro d hd
  unfold row at hd
  rw [tl_append, tl_append, t_eq, xn_signs h] at hd
  rcases List.mem_append.mp hd with hd | hd
  · rcases List.mem_append.mp hd with hd | hd
    · rcases List.mem_cons.mp hd with hd | hd
      · omega
      · have := numL_small _ d hd; omega
    · simp at hd; omega
  · exact txt_hi _ h' d hd
def rAddS : R2 := fun x y H Q => ∃ i j, x = .str i ∧ y = .str j ∧ i.length + j.length ≤ sizeLine ∧ Q (.str (i ++ j)) H
def rStrI : List V → Hp → VK → Prop := fun xs H Q => ∃ i : Int, xs = [.int i] ∧ i.natAbs.log2 < 1920 ∧ Q (.str (toString i)) H
theorem op_addS {X : Cx} : OpR X (binaryOp .Add) rAddS := op_add_str
theorem cr_strI {X : Cx} : CallR X (.type "str") rStrI := call_str_int
theorem dp_strs {K : PySem.W.Frag} {H : Hp} : ∀ l : List Str, DpAll K H (l.map V.str) (l.map PyData.str)
  | [] => .nil
  | x :: l => .cons (.str x) (dp_strs l)
theorem strs_lay : ∀ {l : List Str}, (∀ x ∈ l, PyData.canLay0 (.str x) = true) → PyData.canLayAll0 (l.map PyData.str) = true
  | [], _ => rfl
  | x :: l, h => by simp only [List.map_cons, PyData.canLayAll0, Bool.and_eq_true]; exact ⟨h x (by simp), strs_lay fun y hy => h y (by simp [hy])⟩
theorem strs_depth : ∀ l : List Str, PyData.depthAll (l.map PyData.str) = 0
  | [] => rfl
  | x :: l => by simp only [List.map_cons, PyData.depthAll, PyData.depth, strs_depth l]; rfl
theorem strs_shaped {l : List Str} (h : ∀ x ∈ l, PyData.canLay0 (.str x) = true) : SeqAt.shaped (.list (l.map PyData.str)) = true := by
  refine shaped_of ?_ ?_
  · show PyData.canLayAll0 _ = true
    exact strs_lay h
  · show PyData.depthAll _ + 1 ≤ 64
    rw [strs_depth]
    decide
theorem eqv_lnil {ds : List PyData} : PyData.eqv (.list ds) (.list []) = ds.isEmpty := by
  cases ds <;> simp [PyData.eqv, PyData.eqvAll]
section
variable {P : Program} {w : World} {K : PySem.W.Frag} {mg : Str → Option Value} {base : Heap}
theorem scLBT : FnScope ["_law_pairs_here", "_law_words", "_law_variable", "_law_term"] ["_law_pairs_here"] (defScope sLawBT) := ⟨rfl, rfl, rfl, by decide +kernel, rfl, by decide +kernel, by decide +kernel⟩
def teWord : TE := tOp rAddS (tOp rAddS (tOp rAddS (tC (.str "x")) (tCB rStrI (tCons (tVar 2) tNil))) (tC (.str "="))) (tCall (spLText 64) [] E0 (tCons (tVar 3) tNil))
theorem ok_lbt {f fT : Addr} {fd dT : FuncData} (F : Fun K "_law_binding_text" "_law_binding_text" sLawBT f fd)
    (GT : FnOk P w K mg base CX0 64 fT dT ["_law_term"] (spLText 64)) (kT : PySem.W.keepIn K (.ref fT) = true) (bT : Binds K dT ["_law_term"] []) (mT : mg "_law_text" = some (.ref fT)) (mStr : mg "str" = none) : FnOk P w K mg base CX0 65 f fd ["_law_pairs_here"] spBText := by
  refine F.ok scLBT (fun vs H Q E h => ?_) (fun cdv A outer s H vs Q E hr h => ?_)
  · obtain ⟨v, ps, rfl, _⟩ := h
    rfl
  obtain ⟨v, ps, rfl, ⟨a, xs, rfl, ha, Pa⟩, ok, q⟩ := h
  refine ⟨_, pss_cons (ps_setLc (i := 1) (own := [("_law_variable", 2), ("_law_term", 3)]) (g := gTup K 2 (gCons (gName 2) (gCons (gName 3) gNil))) (tt := tYes) (te := teWord) rfl scLBT.nd rfl rfl (by rfl)
        (pi_tup (pv 0)) (blkOk_by (N := ["_law_pairs_here", "_law_words", "_law_variable", "_law_term"]) (sc := defScope sLawBT) (by decide +kernel))
        (fun _ _ _ _ _ => pg_tup (by rfl) (pgs_cons (pg_name (i := 2) scLBT.nd rfl (Or.inl rfl)) (pgs_cons (pg_name (i := 3) scLBT.nd rfl (Or.inl rfl)) pgs_nil)))
        (fun _ _ _ _ _ => pts_nil) (fun _ _ _ _ _ => pe_op op_addS (pe_op op_addS (pe_op op_addS pe_str (pe_callTy cr_strI (by rfl) mStr (by decide +kernel) (pa_cons (pv 2) pa_nil))) pe_str) (pe_call GT hr (by rfl) mT kT bT .nil pass0 (pa_cons (pv 3) pa_nil))))
    (pss_one (ps_ret (pe_ifExp (pt_cmpR (op_neD hr.units) (pv 1) (pe_lst pa_nil) (nomark _)) (pe_bm PySem.F.plainAttrs_str PySem.F.slot_str_join PySem.F.type_str_join mt_join pe_str (pa_cons (pv 1) pa_nil)) pe_str))), ?_⟩
  have big : (10000 : Nat) ≤ sizeLine := by decide
  have len := Pa.len
  have few := ok.few
  refine ⟨_, rfl, a, rfl, ⟨_, .inl (.inl ha)⟩, fun D hD => lc_tup (K := K) (a := a) (xs := xs) (fun i H2 => H2 D = some (.lst (((ps.take i).map row).map V.str)) ∧ Same H H2) ⟨upd_same, same_new hD _⟩ (fun i H2 _ h => .inl (.inl (h.2 _ _ ha))) ?_ ?_⟩
  · rintro i x H2 hi ⟨h2, s2⟩
    obtain ⟨p, hp, b, y, rfl, hb, T⟩ := Pa.get hi
    have pm : p ∈ ps := List.mem_of_getElem? hp
    have np := ok.num p pm
    have sp_ := ok.sm p pm
    have zp := ok.sz p pm
    have nl := num_len np
    have tl1 := txt_len _ sp_
    have dl := Tm.deep_lt p.2
    have lx : ("x" : Str).length = 1 := by decide +kernel
    have le : ("=" : Str).length = 1 := by decide +kernel
    have li : i < ps.length := (List.getElem?_eq_some_iff.mp hp).1
    refine ⟨b, _, rfl, .inl (.inl (s2 _ _ hb)), rfl, _, _, rfl, _, _, rfl, rfl, rfl, ?_⟩
    unfold teWord
    refine ⟨_, rfl, p.1, rfl, ?_, "x", _, rfl, rfl, ?_, xn p.1, "=", rfl, rfl, ?_, ?_⟩
    · have := Nat.log2_le_self p.1.natAbs; omega
    · show _ + (Str.ofString (toString p.1)).length ≤ _; omega
    · show (("x" : Str) ++ Str.ofString (toString p.1)).length + _ ≤ _; rw [slen]; omega
    refine ⟨_, rfl, y, p.2, rfl, T.same s2, sp_, by omega, by omega, fun H3 s3 => ⟨xn p.1 ++ "=", p.2.txt, rfl, rfl, ?_, _, s3 _ _ h2, ?_, ?_, ?_⟩⟩
    · show ((("x" : Str) ++ Str.ofString (toString p.1)) ++ "=").length + _ ≤ _; rw [slen, slen]; omega
    · rw [List.length_map, List.length_map, List.length_take]; omega
    · have tk : ps.take (i + 1) = ps.take i ++ [p] := by rw [List.take_add_one, hp]; rfl
      rw [upd_same, tk, List.map_append, List.map_append]
      rfl
    · intro c o z
      rw [upd_ne (ne_of_none z hD)]
      exact s3 _ _ (s2 _ _ z)
  · rintro H2 ⟨h2, s2⟩
    rw [len, List.take_of_length_le (Nat.le_refl _)] at h2
    have rl := rows_len (ps := ps) fun p hp => row_len (ok.num p hp) (ok.sm p hp) (by have := ok.sz p hp; omega)
    have l1 : (" " : Str).length = 1 := by decide +kernel
    have lay : ∀ x ∈ ps.map row, PyData.canLay0 (.str x) = true := fun x hx => by
      obtain ⟨p, hp, rfl⟩ := List.mem_map.mp hx
      exact lay_str (row_hi (ok.num p hp).1 (ok.sm p hp))
    refine ⟨_, rfl, (by show 0 ≤ sizeLine; decide), fun e he => ?_⟩
    have s3 := same_new he (.lst ([] : List V))
    refine ⟨.list ((ps.map row).map PyData.str), .list [], .lst (.inl (.inl (s3 _ _ h2))) (dp_strs _), .lst (.inl (.inl upd_same)) .nil, strs_shaped lay, by decide +kernel, !ps.isEmpty, ?_, ?_⟩
    · rw [eqv_lnil]; cases ps <;> rfl
    · have qq := q _ (s2.trans s3)
      unfold btxt at qq
      cases hps : ps with
      | nil =>
        rw [hps, if_pos rfl] at qq
        exact iteF qq
      | cons p r =>
        have ne : ps ≠ [] := by rw [hps]; simp
        rw [if_neg ne] at qq
        refine iteT ⟨rfl, _, rfl, " ", D, ps.map row, rfl, rfl, .inl (.inl (.inl (s3 _ _ h2))), ?_, qq⟩
        rw [l1, List.length_map]; omega
end
end Rp

set_option maxHeartbeats 8000000
namespace Rp
open PySem PySem.Spec PyProof.Rows L2 TL RZ
theorem xn_inj {n m : Int} (h : 0 ≤ n ∧ n ≤ 99) (h' : 0 ≤ m ∧ m ≤ 99) (e : xn n = xn m) : n = m := by
  obtain ⟨_, _, a, _, b, _⟩ := xn_facts h
  obtain ⟨_, _, a', _, b', _⟩ := xn_facts h'
  rw [e, a'] at a
  rw [← a, b'] at b
  exact (Option.some.inj b).symm
theorem sgn_inj : ∀ {a b : Tm} {r r' : List Str}, a.small → b.small → a.sgn ++ r = b.sgn ++ r' → a = b ∧ r = r'
  | a, b, r, r', ha, hb, e => by
    have n0s : ("0" : Str) ≠ "s" := by decide +kernel
    have n0f : ("0" : Str) ≠ "f" := by decide +kernel
    have nsf : ("s" : Str) ≠ "f" := by decide +kernel
    cases a with
    | v n =>
      have hn := ha n (by simp [Tm.nums])
      obtain ⟨_, _, _, _, _, g0, gs, gf⟩ := xn_facts hn
      cases b with
      | v m =>
        have hm := hb m (by simp [Tm.nums])
        have e : xn n :: r = xn m :: r' := e
        injection e with e1 e2
        rw [xn_inj hn hm e1]
        exact ⟨rfl, e2⟩
      | z => have e : xn n :: r = ("0" : Str) :: r' := e; injection e with e1; exact absurd e1 g0
      | s t => have e : xn n :: r = ("s" : Str) :: (t.sgn ++ r') := e; injection e with e1; exact absurd e1 gs
      | f l q => have e : xn n :: r = ("f" : Str) :: (l.sgn ++ q.sgn ++ r') := e; injection e with e1; exact absurd e1 gf
    | z =>
      cases b with
      | v m =>
        obtain ⟨_, _, _, _, _, g0, gs, gf⟩ := xn_facts (hb m (by simp [Tm.nums]))
        have e : ("0" : Str) :: r = xn m :: r' := e
        injection e with e1; exact absurd e1.symm g0
      | z => have e : ("0" : Str) :: r = ("0" : Str) :: r' := e; injection e with _ e2; exact ⟨rfl, e2⟩
      | s t => have e : ("0" : Str) :: r = ("s" : Str) :: (t.sgn ++ r') := e; injection e with e1; exact absurd e1 n0s
      | f l q => have e : ("0" : Str) :: r = ("f" : Str) :: (l.sgn ++ q.sgn ++ r') := e; injection e with e1; exact absurd e1 n0f
    | s t =>
      cases b with
      | v m =>
        obtain ⟨_, _, _, _, _, g0, gs, gf⟩ := xn_facts (hb m (by simp [Tm.nums]))
        have e : ("s" : Str) :: (t.sgn ++ r) = xn m :: r' := e
        injection e with e1; exact absurd e1.symm gs
      | z => have e : ("s" : Str) :: (t.sgn ++ r) = ("0" : Str) :: r' := e; injection e with e1; exact absurd e1.symm n0s
      | s t' =>
        have e : ("s" : Str) :: (t.sgn ++ r) = ("s" : Str) :: (t'.sgn ++ r') := e
        injection e with _ e2
        obtain ⟨h1, h2⟩ := sgn_inj (a := t) (b := t') ha hb e2
        exact ⟨by rw [h1], h2⟩
      | f l q => have e : ("s" : Str) :: (t.sgn ++ r) = ("f" : Str) :: (l.sgn ++ q.sgn ++ r') := e; injection e with e1; exact absurd e1 nsf
    | f l q =>
      cases b with
      | v m =>
        obtain ⟨_, _, _, _, _, g0, gs, gf⟩ := xn_facts (hb m (by simp [Tm.nums]))
        have e : ("f" : Str) :: (l.sgn ++ q.sgn ++ r) = xn m :: r' := e
        injection e with e1; exact absurd e1.symm gf
      | z => have e : ("f" : Str) :: (l.sgn ++ q.sgn ++ r) = ("0" : Str) :: r' := e; injection e with e1; exact absurd e1.symm n0f
      | s t => have e : ("f" : Str) :: (l.sgn ++ q.sgn ++ r) = ("s" : Str) :: (t.sgn ++ r') := e; injection e with e1; exact absurd e1.symm nsf
      | f l' q' =>
        have e : ("f" : Str) :: (l.sgn ++ q.sgn ++ r) = ("f" : Str) :: (l'.sgn ++ q'.sgn ++ r') := e
        injection e with _ e2
        rw [List.append_assoc, List.append_assoc] at e2
        obtain ⟨h1, h2⟩ := sgn_inj (a := l) (b := l') (fun n hn => ha n (by simp [Tm.nums, hn])) (fun n hn => hb n (by simp [Tm.nums, hn])) e2
        obtain ⟨h3, h4⟩ := sgn_inj (a := q) (b := q') (fun n hn => ha n (by simp [Tm.nums, hn])) (fun n hn => hb n (by simp [Tm.nums, hn])) h2
        exact ⟨by rw [h1, h3], h4⟩
theorem txt_inj {a b : Tm} (ha : a.small) (hb : b.small) (e : a.txt = b.txt) : a = b := by
  have h1 := words_txt a ha
  have h2 := words_txt b hb
  rw [e, h2] at h1
  exact (sgn_inj (r := []) (r' := []) ha hb (by rw [h1])).1
theorem eqv_tm : ∀ {a b : Tm}, PyData.eqv (tmD a) (tmD b) = true ↔ a = b := by
  have n0s : ("0" : Str) ≠ "s" := by decide +kernel
  have n0f : ("0" : Str) ≠ "f" := by decide +kernel
  have nsf : ("s" : Str) ≠ "f" := by decide +kernel
  intro a
  induction a with
  | v n => intro b; cases b <;> simp [tmD, PyData.eqv]
  | z => intro b; cases b <;> simp [tmD, PyData.eqv, PyData.eqvAll]
  | s t ih =>
    intro b
    cases b with
    | s t' => simp only [tmD]; rw [eqv_tup, eqvAll_cons, eqvAll_cons, eqvAll_nil]; simp [PyData.eqv, ih]
    | _ => simp [tmD, PyData.eqv, PyData.eqvAll]
  | f l r ih1 ih2 =>
    intro b
    cases b with
    | f l' r' => simp only [tmD]; rw [eqv_tup, eqvAll_cons, eqvAll_cons, eqvAll_cons, eqvAll_nil]; simp [PyData.eqv, ih1, ih2]
    | _ => simp [tmD, PyData.eqv, PyData.eqvAll]
theorem eqv_txt {a b : Tm} (ha : a.small) (hb : b.small) : PyData.eqv (tmD a) (tmD b) = decide (V.str a.txt = V.str b.txt) := by
  rw [Bool.eq_iff_iff, eqv_tm, decide_eq_true_iff]
  constructor
  · intro e; rw [e]
  · intro e; exact txt_inj ha hb (V.str.inj e)
theorem alike_plain {H : Hp} {n : Nat} {x : V} (p : Plain x) : Alike H n x x := by
  cases n with
  | zero => unfold Alike; exact ⟨p, rfl⟩
  | succ n => unfold Alike; exact .inl ⟨p, rfl⟩
theorem alike_tm {H : Hp} : ∀ {t : Tm} {n : Nat} {x y : V}, TmAt H x t → TmAt H y t → t.deep < n → Alike H n x y
  | .v m, n, _, _, .v _, .v _, _ => alike_plain trivial
  | .z, n + 1, _, _, .z h, .z h', _ => by
    unfold Alike
    refine .inr ⟨_, _, _, _, rfl, rfl, .inr ⟨h, h'⟩, rfl, by simp, fun i u v h1 h2 => ?_⟩
    obtain rfl : u = v := Option.some.inj (h1.symm.trans h2)
    match i with
    | 0 => simp at h1; subst h1; exact alike_plain trivial
    | i + 1 => simp at h1
  | .s t, n + 1, _, _, .s h q, .s h' q', hd => by
    unfold Alike
    refine .inr ⟨_, _, _, _, rfl, rfl, .inr ⟨h, h'⟩, rfl, by simp, fun i u v h1 h2 => ?_⟩
    match i with
    | 0 => simp at h1 h2; subst h1 h2; exact alike_plain trivial
    | 1 => simp at h1 h2; subst h1 h2; exact alike_tm q q' (by simp only [Tm.deep] at hd; omega)
    | i + 2 => simp at h1
  | .f l r, n + 1, _, _, .f h q1 q2, .f h' q1' q2', hd => by
    unfold Alike
    simp only [Tm.deep] at hd
    refine .inr ⟨_, _, _, _, rfl, rfl, .inr ⟨h, h'⟩, rfl, by simp, fun i u v h1 h2 => ?_⟩
    match i with
    | 0 => simp at h1 h2; subst h1 h2; exact alike_plain trivial
    | 1 => simp at h1 h2; subst h1 h2; exact alike_tm q1 q1' (by omega)
    | 2 => simp at h1 h2; subst h1 h2; exact alike_tm q2 q2' (by omega)
    | i + 3 => simp at h1
theorem alike_bi {H : Hp} {ps : Prs} (ok : PrOk ps) {x y : V} (h : BiAt H x ps) (h' : BiAt H y ps) : Alike H 60 x y := by
  obtain ⟨a, xs, rfl, ha, A⟩ := h
  obtain ⟨b, ys, rfl, hb, B⟩ := h'
  have lx := A.len
  have ly := B.len
  have few := ok.few
  unfold Alike
  refine .inr ⟨a, b, xs, ys, rfl, rfl, .inr ⟨ha, hb⟩, by omega, by omega, fun i u v h1 h2 => ?_⟩
  obtain ⟨p, hp, c, z, rfl, hc, T⟩ := A.get h1
  obtain ⟨p', hp', c', z', rfl, hc', T'⟩ := B.get h2
  rw [hp] at hp'
  cases hp'
  have sz := ok.sz p (List.mem_of_getElem? hp)
  have dl := Tm.deep_lt p.2
  unfold Alike
  refine .inr ⟨c, c', _, _, rfl, rfl, .inr ⟨hc, hc'⟩, rfl, by simp, fun j u v g1 g2 => ?_⟩
  match j with
  | 0 => simp at g1 g2; subst g1 g2; exact alike_plain trivial
  | 1 => simp at g1 g2; subst g1 g2; exact alike_tm T T' (by show p.2.deep < 58; omega)
  | j + 2 => simp at g1
def U100 : List Int := (List.range 100).map Int.ofNat
theorem few100 : Few U100 := ⟨fun i hi => by
  unfold U100 at hi
  obtain ⟨k, hk, rfl⟩ := List.mem_map.mp hi
  rw [List.mem_range] at hk
  have : (Int.ofNat k) = (k : Int) := rfl
  omega, by decide⟩
theorem in100 {n : Int} (h : 0 ≤ n ∧ n ≤ 99) : n ∈ U100 := by
  unfold U100
  refine List.mem_map.mpr ⟨n.toNat, List.mem_range.mpr (by omega), ?_⟩
  show ((n.toNat : Nat) : Int) = n
  omega
def prD (ps : Prs) : PyData := .tuple (ps.map fun p => .tuple [.int p.1, tmD p.2])
theorem pr_dp {K : PySem.W.Frag} {H : Hp} : ∀ {xs : List V} {ps : Prs}, PrAt H xs ps → DpAll K H xs (ps.map fun p => .tuple [.int p.1, tmD p.2])
  | [], [], _ => .nil
  | _ :: _, (n, t) :: _, ⟨⟨b, y, e, hb, T⟩, r⟩ => by
    subst e
    exact .cons (.tup (.inl (.inl hb)) (.cons (.int _) (.cons (T.dat (b := b)).dp .nil))) (pr_dp r)
theorem pr_good {ps : Prs} (ok : PrOk ps) : Good U100 1000 60 (prD ps) := by
  have each : ∀ p ∈ ps, Good U100 85 45 (.tuple [.int p.1, tmD p.2]) := fun p hp => by
    have g := tm_good (U := U100) p.2 fun n hn => in100 (ok.sm p hp n hn)
    have sz := ok.sz p hp
    have dl := Tm.deep_lt p.2
    have n1 := g.nd
    have d1 := g.dp
    refine good_tup (fun d hd => ?_) ?_ (fun d hd => ?_) (by omega)
    · simp at hd; rcases hd with rfl | rfl
      · exact in100 (ok.num p hp)
      · exact g.fine
    · simp only [ndAll, Rp.nd]; omega
    · simp at hd; rcases hd with rfl | rfl
      · simp [PyData.depth]
      · omega
  have few := ok.few
  have tot : ∀ qs : Prs, (∀ p ∈ qs, p ∈ ps) → ndAll (qs.map fun p => PyData.tuple [.int p.1, tmD p.2]) ≤ 85 * qs.length := by
    intro qs
    induction qs with
    | nil => intro _; simp [ndAll]
    | cons p qs ih =>
      intro h
      have a := (each p (h p (by simp))).nd
      have b := ih fun q hq => h q (by simp [hq])
      simp only [List.map_cons, ndAll, List.length_cons]
      omega
  have t1 := tot ps fun p h => h
  refine good_tup (fun d hd => ?_) (by omega) (fun d hd => ?_) (by omega)
  · obtain ⟨p, hp, rfl⟩ := List.mem_map.mp hd
    exact (each p hp).fine
  · obtain ⟨p, hp, rfl⟩ := List.mem_map.mp hd
    have := (each p hp).dp
    omega
end Rp

set_option maxHeartbeats 16000000
namespace Rp
open PySem PySem.Spec PyProof.Rows L2 TL RZ
def spRight : Sp := fun vs H Q _ => ∃ b : Addr, vs = [.ref b] ∧ BoxAt H b 0 ∧ ∀ H', But b H H' → Q (.bl true) H'
theorem hu66 {A : Around} {k : Nat} (hr : Room k A) : A.units + 66 < cLine := by have := hr.un; omega
def rAdd : R2 := rI0 fun i j => .int (i + j)
theorem op_addI {X : Cx} : OpR X (binaryOp .Add) rAdd := op_add
def teTree (K : PySem.W.Frag) : TE := tCall (spTree 64) [] E0 (tCons (tVar 0) (tCons (tOp rAdd (tC (.int 1)) (tCall spTake [] E0 (tCons (tVar 0) (tCons (tOp (rIxL K) (tLst (tCons (tC (.int 5)) (tCons (tC (.int 40)) tNil))) (tCall spTake [] E0 (tCons (tVar 0) (tCons (tC (.int 2)) tNil)))) tNil)))) (tCons (tVar 1) tNil)))
def teEqs (K : PySem.W.Frag) : TE := tOp rEq (tOp (rEqD K) (tVar 8) (tVar 10)) (tOp rEq (tVar 9) (tVar 11))
theorem cut_to1 {xs : List V} : cutV xs none (some 1) = xs.take 1 := by
  unfold cutV
  rw [HT.sIx_none, show (some 1 : Option Int) = some ((1 : Nat) : Int) from rfl, HT.sIx_nat, List.drop_zero, Nat.sub_zero]
  rcases Nat.le_total 1 xs.length with h | h
  · rw [Nat.min_eq_left h]
  · rw [Nat.min_eq_right h, List.take_length, List.take_of_length_le h]
theorem BiAt.same {H H' : Hp} {v : V} {ps : Prs} (B : BiAt H v ps) (s : Same H H') : BiAt H' v ps := by
  obtain ⟨a, xs, e, h, A⟩ := B
  exact ⟨a, xs, e, s _ _ h, A.mono fun a xs z => s _ _ z⟩
theorem BiAt.but {H H' : Hp} {b : Addr} {ys : List V} {v : V} {ps : Prs} (B : BiAt H v ps) (o : But b H H') (hb : H b = some (.lst ys)) : BiAt H' v ps := by
  obtain ⟨a, xs, e, h, A⟩ := B
  exact ⟨a, xs, e, o _ _ h (ne_of h hb (by intro z; cases z)), A.mono fun a xs z => o _ _ z (ne_of z hb (by intro e; cases e))⟩
theorem BiAt.dp {K : PySem.W.Frag} {H : Hp} {v : V} {ps : Prs} (B : BiAt H v ps) : Dp K H v (prD ps) := by
  obtain ⟨a, xs, rfl, h, A⟩ := B
  exact .tup (.inl (.inl h)) (pr_dp A)
section
variable {P : Program} {w : World} {K : PySem.W.Frag} {mg : Str → Option Value} {base : Heap}
abbrev NR : List Str := ["_law_box_here", "_law_fresh_here", "_law_terms", "_law_term", "_law_text_here", "_law_pairs_here", "_law_kept", "_law_texts", "_law_one", "_law_first", "_law_two", "_law_second", "_law_turn"]
theorem scRight : FnScope NR ["_law_box_here"] (defScope sRight) := ⟨rfl, rfl, rfl, by decide +kernel, rfl, by decide +kernel, by decide +kernel⟩
structure RightG (P : Program) (w : World) (K : PySem.W.Frag) (mg : Str → Option Value) (base : Heap) (fF fT fTr fL fX fI fP fB fY fO fS : Addr) (dF dT dTr dL dX dI dP dB dY dO dS : FuncData) : Prop where
  gF : FnOk P w K mg base CX0 2 fF dF ["_law_box_here"] spFresh1
  kF : PySem.W.keepIn K (.ref fF) = true
  bF : Binds K dF ["_law_box_here"] []
  mF : mg "_law_fresh" = some (.ref fF)
  gT : FnOk P w K mg base CX0 1 fT dT ["_law_box_here", "_law_count"] spTake
  kT : PySem.W.keepIn K (.ref fT) = true
  bT : Binds K dT ["_law_box_here", "_law_count"] []
  mT : mg "_law_take" = some (.ref fT)
  gTr : FnOk P w K mg base CX0 66 fTr dTr ["_law_box_here", "_law_room", "_law_fresh_here"] (spTree 64)
  kTr : PySem.W.keepIn K (.ref fTr) = true
  bTr : Binds K dTr ["_law_box_here", "_law_room", "_law_fresh_here"] []
  mTr : mg "_law_tree" = some (.ref fTr)
  gL : FnOk P w K mg base CX0 64 fL dL ["_law_term"] (spLText 64)
  kL : PySem.W.keepIn K (.ref fL) = true
  bL : Binds K dL ["_law_term"] []
  mL : mg "_law_text" = some (.ref fL)
  gX : FnOk P w K mg base CX0 4 fX dX ["term"] spTermText
  kX : PySem.W.keepIn K (.ref fX) = true
  bX : Binds K dX ["term"] []
  mX : mg "term_text" = some (.ref fX)
  gI : FnOk P w K mg base CX0 6 fI dI ["text"] spTermOr
  kI : PySem.W.keepIn K (.ref fI) = true
  bI : Binds K dI ["text"] []
  mI : mg "term_in" = some (.ref fI)
  gP : FnOk P w K mg base CX0 67 fP dP ["_law_box_here", "_law_fresh_here", "_law_room"] spPairs
  kP : PySem.W.keepIn K (.ref fP) = true
  bP : Binds K dP ["_law_box_here", "_law_fresh_here", "_law_room"] []
  mP : mg "_law_pairs" = some (.ref fP)
  gB : FnOk P w K mg base CX0 65 fB dB ["_law_pairs_here"] spBText
  kB : PySem.W.keepIn K (.ref fB) = true
  bB : Binds K dB ["_law_pairs_here"] []
  mB : mg "_law_binding_text" = some (.ref fB)
  gY : FnOk P w K mg base CX0 5 fY dY ["binding"] spBText
  kY : PySem.W.keepIn K (.ref fY) = true
  bY : Binds K dY ["binding"] []
  mY : mg "binding_text" = some (.ref fY)
  gO : FnOk P w K mg base CX0 8 fO dO ["text"] spBOr
  kO : PySem.W.keepIn K (.ref fO) = true
  bO : Binds K dO ["text"] []
  mO : mg "binding_in" = some (.ref fO)
  gS : FnOk P w K mg base CX0 61 fS dS ["_law_found", "_law_due"] (spSame 61)
  kS : PySem.W.keepIn K (.ref fS) = true
  bS : Binds K dS ["_law_found", "_law_due"] []
  mS : mg "_law_same" = some (.ref fS)
  range : mg "range" = none
  repr : mg "repr" = none
  all : mg "all" = none
  zip : mg "zip" = none
theorem ok_right {f fF fT fTr fL fX fI fP fB fY fO fS : Addr} {fd dF dT dTr dL dX dI dP dB dY dO dS : FuncData} (F : Fun K "_law_right" "_law_right" sRight f fd) (G : RightG P w K mg base fF fT fTr fL fX fI fP fB fY fO fS dF dT dTr dL dX dI dP dB dY dO dS) :
    GnOk P w K mg base 70 f fd ["_law_box_here"] spRight := by
  refine gok F scRight (fun vs H Q E h => ?_) (fun cdv A outer s H vs Q E hg hr h => ?_)
  · obtain ⟨b, rfl, _⟩ := h
    rfl
  obtain ⟨b, rfl, B, q⟩ := h
  have r1 : Room 1 _ := hr.mono (by decide)
  have r2 : Room 2 _ := hr.mono (by decide)
  have r4 : Room 4 _ := hr.mono (by decide)
  have r5 : Room 5 _ := hr.mono (by decide)
  have r6 : Room 6 _ := hr.mono (by decide)
  have r8 : Room 8 _ := hr.mono (by decide)
  have r61 : Room 61 _ := hr.mono (by decide)
  have r64 : Room 64 _ := hr.mono (by decide)
  have r65 : Room 65 _ := hr.mono (by decide)
  have r66 : Room 66 _ := hr.mono (by decide)
  have r67 : Room 67 _ := hr.mono (by decide)
  refine ⟨_, pss_cons (ps_set (i := 1) scRight.nd rfl (Or.inr rfl) (pe_call G.gF r2 rfl G.mF G.kF G.bF .nil pass0 (pa_cons (pv 0) pa_nil)))
    (pss_cons (ps_setLc (i := 2) (own := [("_law_turn", 12)]) (g := gName 12) (tt := tYes) (te := teTree K) rfl scRight.nd rfl rfl (by rfl) (pi_range1 rfl G.range (pa_cons pe_int pa_nil)) (blkOk_by (N := NR) (sc := defScope sRight) (by decide +kernel))
      (fun _ _ _ _ _ => pg_name (i := 12) scRight.nd rfl (Or.inl rfl)) (fun _ _ _ _ _ => pts_nil)
      (fun _ _ _ _ _ => pe_call G.gTr r66 (by rfl) G.mTr G.kTr G.bTr .nil pass0 (pa_cons (pv 0) (pa_cons (pe_op op_addI pe_int (pe_call G.gT r1 (by rfl) G.mT G.kT G.bT .nil pass0 (pa_cons (pv 0)
        (pa_cons (pe_ix ix_list (pe_lst (pa_cons pe_int (pa_cons pe_int pa_nil))) (pe_call G.gT r1 (by rfl) G.mT G.kT G.bT .nil pass0 (pa_cons (pv 0) (pa_cons pe_int pa_nil))) (fun _ _ => rfl)) pa_nil)))) (pa_cons (pv 1) pa_nil)))))
    (pss_cons (ps_set (i := 2) scRight.nd rfl (Or.inl rfl) (pe_op op_cat (pv 2) (pe_lst (pa_cons (pe_ix ix_list (pv 1) pe_int (fun _ _ => rfl)) (pa_cons (pe_tup (pa_cons pe_str pa_nil)) pa_nil)))))
    (pss_cons (ps_for PassesOwn.never rfl (pi_list (pv 2)) (pg_name (i := 3) scRight.nd rfl (Or.inl rfl))
      (pss_cons (ps_set (i := 4) scRight.nd rfl (Or.inl rfl) (pe_call G.gL r64 rfl G.mL G.kL G.bL .nil pass0 (pa_cons (pv 3) pa_nil)))
      (pss_one (ps_if (PW.pt (pw_or (pt_cmpR op_ne (pe_call G.gX r4 rfl G.mX G.kX G.bX .nil pass0 (pa_cons (pv 3) pa_nil)) (pv 4) (nomark _))
        (pw_or1 (pt_not (pt_val (pe_call G.gS r61 rfl G.mS G.kS G.bS .nil pass0 (pa_cons (pe_lst (pa_cons (pe_call G.gI r6 rfl G.mI G.kI G.bI .nil pass0 (pa_cons (pv 4) pa_nil)) (pa_cons (pe_call G.gI r6 rfl G.mI G.kI G.bI .nil pass0 (pa_cons (pv 4) pa_nil)) pa_nil)))
          (pa_cons (pe_lst (pa_cons (pv 3) (pa_cons (pv 3) pa_nil))) pa_nil)))))))) (pss_one (ps_ret pe_bl)) pss_nil))))
    (pss_cons (ps_for PassesOwn.never rfl (pi_tup (pe_tup (pa_cons (pe_call G.gP r67 rfl G.mP G.kP G.bP .nil pass0 (pa_cons (pv 0) (pa_cons (pv 1) (pa_cons pe_int pa_nil))))
        (pa_cons (pe_call G.gP r67 rfl G.mP G.kP G.bP .nil pass0 (pa_cons (pv 0) (pa_cons (pe_slice sl_list (pv 1) po_none (po_some pe_int)) (pa_cons pe_int pa_nil)))) (pa_cons (pe_tup pa_nil) pa_nil))))) (pg_name (i := 5) scRight.nd rfl (Or.inl rfl))
      (pss_cons (ps_par (i := 4) (j := 6) rfl scRight.nd rfl rfl (by decide) rfl rfl (pa_cons (pe_call G.gB r65 rfl G.mB G.kB G.bB .nil pass0 (pa_cons (pv 5) pa_nil)) (pa_cons (pe_callB (cr_reprD hg (hu66 hr)) (by rfl) G.repr (by decide +kernel) (pa_cons (pv 5) pa_nil)) pa_nil)) (by rfl))
      (pss_cons (ps_if (PW.pt (pw_or (pt_cmpR op_ne (pe_call G.gY r5 rfl G.mY G.kY G.bY .nil pass0 (pa_cons (pv 5) pa_nil)) (pv 4) (nomark _))
        (pw_or (pt_not (pt_val (pe_call G.gS r61 rfl G.mS G.kS G.bS .nil pass0 (pa_cons (pe_call G.gO r8 rfl G.mO G.kO G.bO .nil pass0 (pa_cons (pv 4) pa_nil)) (pa_cons (pv 5) pa_nil)))))
        (pw_or1 (pt_cmpR op_ne (pe_callB (cr_reprD hg (hu66 hr)) (by rfl) G.repr (by decide +kernel) (pa_cons (pv 5) pa_nil)) (pv 6) (nomark _)))))) (pss_one (ps_ret pe_bl)) pss_nil)
      (pss_one (ps_if (pt_cmpR op_ne (pe_call G.gY r5 rfl G.mY G.kY G.bY .nil pass0 (pa_cons (pe_call G.gO r8 rfl G.mO G.kO G.bO .nil pass0 (pa_cons (pv 4) pa_nil)) pa_nil)) (pv 4) (nomark _)) (pss_one (ps_ret pe_bl)) pss_nil)))))
    (pss_cons (ps_setLc (i := 7) (own := [("_law_term", 3)]) (g := gName 3) (tt := tYes) (te := tCall spTermText [] E0 (tCons (tVar 3) tNil)) rfl scRight.nd rfl rfl (by rfl) (pi_list (pv 2)) (blkOk_by (N := NR) (sc := defScope sRight) (by decide +kernel))
      (fun _ _ _ _ _ => pg_name (i := 3) scRight.nd rfl (Or.inl rfl)) (fun _ _ _ _ _ => pts_nil) (fun _ _ _ _ _ => pe_call G.gX r4 (by rfl) G.mX G.kX G.bX .nil pass0 (pa_cons (pv 3) pa_nil)))
    (pss_cons (ps_for PassesOwn.never rfl (pi_zipA (by rfl) G.zip (pa_cons (pv 2) (pa_cons (pv 7) pa_nil))) (pg_tup (by rfl) (pgs_cons (pg_name (i := 8) scRight.nd rfl (Or.inr rfl)) (pgs_cons (pg_name (i := 9) scRight.nd rfl (Or.inr rfl)) pgs_nil)))
      (pss_one (ps_if (pt_not (pt_val (pe_callB (cr_all rfl) (by rfl) G.all (by decide +kernel) (pa_cons (pe_lc (own := [("_law_two", 10), ("_law_second", 11)]) (g := gTup K 2 (gCons (gName 10) (gCons (gName 11) gNil))) (tt := tYes) (te := teEqs K) rfl scRight.nd
          (pi_zipA (by rfl) G.zip (pa_cons (pv 2) (pa_cons (pv 7) pa_nil))) (blkOk_by (N := NR) (sc := defScope sRight) (by decide +kernel))
          (fun _ _ _ _ _ => pg_tup (by rfl) (pgs_cons (pg_name (i := 10) scRight.nd rfl (Or.inl rfl)) (pgs_cons (pg_name (i := 11) scRight.nd rfl (Or.inl rfl)) pgs_nil)))
          (fun _ _ _ _ _ => pts_nil) (fun _ _ _ _ _ => pe_cmpR op_eq (pe_cmpR (op_eqD hr.units) (pv 8) (pv 10) (nomark _)) (pe_cmpR op_eq (pv 9) (pv 11) (nomark _)) (nomark _))) pa_nil)))) (pss_one (ps_ret pe_bl)) pss_nil)))
    (pss_one (ps_ret pe_bl)))))))), ?_⟩
  obtain ⟨ys, hb⟩ := B.some
  have big : (10000 : Nat) ≤ sizeLine := by decide
  refine ⟨_, rfl, b, 0, rfl, B, by omega, fun p fs H1 hp h1 fm fl fpos B1 o1 => ?_⟩
  obtain ⟨ys1, hb1⟩ := B1.some
  have pb : p ≠ b := fun e => by subst e; rw [hb] at hp; cases hp
  refine ⟨4, rfl, by decide, by decide, fun D hD => lc_range (lo := 0) (n := 4) (fun i H2 => ∃ (xs : List V) (ts : List Tm), H2 D = some (.lst xs) ∧ AllAt H2 xs ts ∧ ts.length = i ∧ (∀ t ∈ ts, t.small ∧ t.size ≤ 40) ∧ BoxAt H2 b (9 + 60 * i) ∧ But b H1 H2)
    ⟨[], [], upd_same, trivial, rfl, by simp, ?_, but_of (same_new hD _)⟩ ?_ ?_⟩
  · exact (B1.same (same_new hD _)).more (by omega)
  · rintro i H2 hi ⟨xs, ts, h2, A2, tl2, tok, B2, o2⟩
    obtain ⟨ys2, hb2⟩ := B2.some
    have Db : D ≠ b := (ne_of_none hb1 hD).symm
    refine ⟨rfl, ?_⟩
    unfold teTree
    refine ⟨_, rfl, _, rfl, (by show 2 ≤ sizeLine; decide), fun l hl => ?_⟩
    have s3 := same_new hl (.lst [V.int 5, .int 40])
    refine ⟨_, rfl, b, _, _, rfl, B2.same s3, by omega, by decide, by decide, fun r H3 r0 r1' B3 o3 => ?_⟩
    have lb : l ≠ b := (ne_of_none hb2 hl).symm
    obtain ⟨c, hc, c0, c1⟩ : ∃ c : Int, atI [V.int 5, .int 40] r = some (.int c) ∧ 1 ≤ c ∧ c ≤ 40 := by
      rcases (by omega : r = 0 ∨ r = 1) with z | z <;> subst z
      · exact ⟨5, at_of (j := 0) rfl rfl, by decide, by decide⟩
      · exact ⟨40, at_of (j := 1) rfl rfl, by decide, by decide⟩
    refine ⟨l, _, _, _, rfl, rfl, .inl (.inl (o3 _ _ upd_same lb)), hc, b, c, _, rfl, B3, by omega, by omega, by omega, fun x H4 x0 x1 B4 o4 => ?_⟩
    have o24 : But b H2 H4 := (but_of s3).trans (o3.trans o4)
    refine ⟨_, _, rfl, rfl, _, rfl, b, p, fs, _, _, rfl, B4, by omega, o24 _ _ (o2 _ _ h1 pb) pb, pb, by omega, by omega, by omega, fun v t H5 T zt tn B5 o5 => ?_⟩
    have o25 := o24.trans o5
    have h5 := o25 _ _ h2 Db
    have xl := A2.len
    have keep : ∀ a zs, H5 a = some (.tup zs) → (upd H5 D (.lst (xs ++ [v]))) a = some (.tup zs) := fun a zs z => by rw [upd_ne (ne_of z h5 (by intro e; cases e))]; exact z
    have A5 : AllAt H5 xs ts := A2.mono fun a zs z => o25 _ _ z (ne_of z hb2 (by intro e; cases e))
    refine ⟨xs, h5, by omega, xs ++ [v], ts ++ [t], upd_same, (A5.mono keep).append ⟨T.mono keep, trivial⟩, by rw [List.length_append, List.length_singleton, tl2], ?_, ?_, ?_⟩
    · intro t' ht'
      rcases List.mem_append.mp ht' with z | z
      · exact tok t' z
      · simp at z; subst z; exact ⟨fun n hn => fm n (tn n hn), by omega⟩
    · obtain ⟨a1, a2, a3, a4, a5⟩ := (B5.more (by omega : _ ≤ 9 + 60 * (i + 1))).ex
      exact ⟨a1, a2, a3, by rw [upd_ne Db.symm]; exact a4, a5⟩
    · intro a o z nb
      rw [upd_ne (ne_of_none z hD)]
      exact o25 _ _ (o2 _ _ z nb) nb
  · rintro H2 ⟨xs, ts, h2, A2, tl2, tok, B2, o2⟩
    obtain ⟨ys2, hb2⟩ := B2.some
    have h12 := o2 _ _ h1 pb
    obtain ⟨f0, fr, rfl⟩ : ∃ f0 fr, fs = f0 :: fr := by
      cases fs with
      | nil => simp at fpos
      | cons a r => exact ⟨a, r, rfl⟩
    refine ⟨_, rfl, _, rfl, p, _, _, _, rfl, rfl, .inl (.inl h12), at_of (j := 0) rfl rfl, (by show 1 ≤ sizeLine; decide), fun t0 ht0 => ?_⟩
    have s3 := same_new ht0 (.tup [V.str "0"])
    refine ⟨(by show 2 ≤ sizeLine; decide), fun l2 hl2 => ?_⟩
    have s4 := same_new hl2 (.lst [V.int f0, .ref t0])
    have xl := A2.len
    refine ⟨D, l2, xs, _, rfl, rfl, s4 _ _ (s3 _ _ h2), upd_same, by simp; omega, fun m hm => ?_⟩
    have s5 := same_new hm (.lst (xs ++ [V.int f0, .ref t0]))
    have s25 : Same H2 _ := s3.trans (s4.trans s5)
    have tok' : ∀ t ∈ ts ++ [Tm.v f0, .z], t.small ∧ t.size ≤ 40 := fun t ht => by
      rcases List.mem_append.mp ht with z | z
      · exact tok t z
      · simp at z
        rcases z with rfl | rfl
        · exact ⟨fun n hn => by simp [Tm.nums] at hn; subst hn; exact fm _ (by simp), (by show 1 ≤ 40; decide)⟩
        · exact ⟨fun n hn => by simp [Tm.nums] at hn, by decide⟩
    have A5 : AllAt (upd (upd (upd H2 t0 (.tup [V.str "0"])) l2 (.lst [V.int f0, .ref t0])) m (.lst (xs ++ [V.int f0, .ref t0]))) (xs ++ [V.int f0, .ref t0]) (ts ++ [Tm.v f0, .z]) :=
      (A2.mono fun a zs z => s25 _ _ z).append ⟨.v f0, .z (s5 _ _ (s4 _ _ upd_same)), trivial⟩
    have hm5 : (upd (upd (upd H2 t0 (.tup [V.str "0"])) l2 (.lst [V.int f0, .ref t0])) m (.lst (xs ++ [V.int f0, .ref t0]))) m = some (.lst (xs ++ [V.int f0, .ref t0])) := upd_same
    have B5 := B2.same s25
    have o15 := o2.trans (but_of s25)
    generalize (upd (upd (upd H2 t0 (.tup [V.str "0"])) l2 (.lst [V.int f0, .ref t0])) m (.lst (xs ++ [V.int f0, .ref t0]))) = H5 at A5 hm5 B5 o15 s25 ⊢
    have wlen : (xs ++ [V.int f0, .ref t0]).length = (ts ++ [Tm.v f0, .z]).length := A5.len
    have tlen : (ts ++ [Tm.v f0, .z]).length = 6 := by rw [List.length_append, tl2]; rfl
    generalize xs ++ [V.int f0, .ref t0] = ws at A5 hm5 wlen ⊢
    generalize ts ++ [Tm.v f0, .z] = us at A5 tok' wlen tlen
    obtain ⟨ys5, hb5⟩ := B5.some
    have mb : m ≠ b := fun e => by subst e; rw [(s3.trans s4) _ _ hb2] at hm; cases hm
    have h15 := o15 _ _ h1 pb
    have keys : ∀ (i : Nat) (x : V), ws[i]? = some x → ∃ t, us[i]? = some t ∧ TmAt H5 x t ∧ t.small ∧ t.size ≤ 40 := fun i x hx => by
      obtain ⟨t, ht, T⟩ := A5.get hx
      have := tok' t (List.mem_of_getElem? ht)
      exact ⟨t, ht, T, this.1, this.2⟩
    refine ⟨_, rfl, m, rfl, ⟨_, .inl (.inl hm5)⟩, for_list (K := K) (a := m) (xs := ws) (fun i σ H6 => ∃ (x3 x4 : Option V), σ = [some (.ref b), some (.ref p), some (.ref m), x3, x4, none, none, none, none, none, none, none, none] ∧ Same H5 H6) ⟨none, none, rfl, Same.refl _⟩ (fun i σ H6 _ ⟨_, _, _, s⟩ => .inl (.inl (s _ _ hm5))) ?_ ?_⟩
    · rintro i x σ H6 hi ⟨x3, x4, rfl, s6⟩
      obtain ⟨t, ht, T, sm, sz⟩ := keys i x hi
      have dl := Tm.deep_lt t
      have T6 := T.same s6
      refine ⟨_, rfl, x, t, rfl, T6, sm, by omega, by omega, fun H7 s7 => ?_⟩
      refine ⟨_, rfl, x, t, rfl, T6.same s7, sm, by omega, fun H8 s8 => ⟨_, rfl, rfl, false, congrArg (fun z => V.bl (!z)) (decide_eq_true rfl), iteF ?_⟩⟩
      refine ⟨_, rfl, t, rfl, sm, by omega, fun y1 H9 T1 s9 => ⟨_, rfl, t, rfl, sm, by omega, fun y2 H10 T2 s10 => ⟨(by show 2 ≤ sizeLine; decide), fun d1 hd1 => ⟨_, rfl, _, rfl, (by show 2 ≤ sizeLine; decide), fun d2 hd2 => ?_⟩⟩⟩⟩
      have s11 := same_new hd1 (.lst [y1, y2])
      have s12 := same_new hd2 (.lst [x, x])
      have sA := s7.trans (s8.trans (s9.trans (s10.trans (s11.trans s12))))
      have al : Alike (upd (upd H10 d1 (.lst [y1, y2])) d2 (.lst [x, x])) 60 (.ref d1) (.ref d2) := by
        unfold Alike
        refine .inr ⟨d1, d2, _, _, rfl, rfl, .inl ⟨s12 _ _ upd_same, upd_same⟩, rfl, by simp, fun k u v g1 g2 => ?_⟩
        match k with
        | 0 => simp at g1 g2; subst g1 g2; exact alike_tm (((T1.same s10).same s11).same s12) (T6.same sA) (by show t.deep < 59; omega)
        | 1 => simp at g1 g2; subst g1 g2; exact alike_tm ((T2.same s11).same s12) (T6.same sA) (by show t.deep < 59; omega)
        | k + 2 => simp at g1
      exact ⟨_, _, 60, rfl, rfl, al, fun H13 s13 => ⟨true, rfl, iteF ⟨_, _, rfl, s6.trans (sA.trans s13)⟩⟩⟩
    · rintro σ H6 ⟨x3, x4, rfl, s6⟩
      have B6 := B5.same s6
      have h16 := s6 _ _ h15
      have hm6 := s6 _ _ hm5
      have hb6 := s6 _ _ hb5
      refine ⟨_, rfl, _, rfl, b, p, f0 :: fr, _, 12, rfl, B6, by omega, h16, pb, fm, fl, by decide, by decide, fun v1 ps1 H7 Bi1 ok1 B7 o7 => ?_⟩
      obtain ⟨ys7, hb7⟩ := B7.some
      have h17 := o7 _ _ h16 pb
      refine ⟨_, rfl, _, rfl, 1, rfl, p, _, rfl, .inl (.inl h17), fun g hg => ?_⟩
      rw [cut_to1]
      have s8 := same_new hg (.lst (((f0 :: fr).map V.int).take 1))
      have gb : g ≠ b := (ne_of_none hb7 hg).symm
      have eg : ((f0 :: fr).map V.int).take 1 = ([f0] : List Int).map V.int := rfl
      refine ⟨b, g, [f0], _, 3, rfl, B7.same s8, by omega, by rw [upd_same, eg], gb, fun k hk => by simp at hk; subst hk; exact fm _ (by simp), (by show 1 ≤ 4; decide), by decide, by decide, fun v2 ps2 H9 Bi2 ok2 B9 o9 => ?_⟩
      obtain ⟨ys9, hb9⟩ := B9.some
      refine ⟨(by show 0 ≤ sizeLine; decide), fun t3 ht3 => ?_⟩
      have s10 := same_new ht3 (.tup ([] : List V))
      refine ⟨(by show 3 ≤ sizeLine; decide), fun tt htt => ?_⟩
      have s11 := same_new htt (.tup [v1, v2, .ref t3])
      have o6 : But b H6 _ := o7.trans ((but_of s8).trans (o9.trans (but_of (s10.trans s11))))
      have Bi1' := ((((Bi1.same s8).but o9 (s8 _ _ hb7)).same s10).same s11)
      have Bi2' := ((Bi2.same s10).same s11)
      have Bi3' : BiAt (upd (upd H9 t3 (.tup ([] : List V))) tt (.tup [v1, v2, .ref t3])) (.ref t3) [] := ⟨t3, [], rfl, s11 _ _ upd_same, trivial⟩
      have htt' : (upd (upd H9 t3 (.tup ([] : List V))) tt (.tup [v1, v2, .ref t3])) tt = some (.tup [v1, v2, .ref t3]) := upd_same
      have ok3 : PrOk [] := ⟨by simp, by simp, by simp, by simp, by simp⟩
      generalize (upd (upd H9 t3 (.tup ([] : List V))) tt (.tup [v1, v2, .ref t3])) = H11 at o6 Bi1' Bi2' Bi3' htt' ⊢
      have hm11 := o6 _ _ hm6 mb
      have three : ∀ (i : Nat) (x : V), [v1, v2, .ref t3][i]? = some x → ∃ ps, BiAt H11 x ps ∧ PrOk ps := fun i x hx => by
        match i with
        | 0 => simp at hx; subst hx; exact ⟨ps1, Bi1', ok1⟩
        | 1 => simp at hx; subst hx; exact ⟨ps2, Bi2', ok2⟩
        | 2 => simp at hx; subst hx; exact ⟨[], Bi3', ok3⟩
        | i + 3 => simp at hx
      refine ⟨tt, rfl, ⟨_, .inl (.inl htt')⟩, for_tup (K := K) (a := tt) (xs := [v1, v2, .ref t3]) (fun i σ H12 => ∃ (x3 x4 x5 x6 : Option V), σ = [some (.ref b), some (.ref p), some (.ref m), x3, x4, x5, x6, none, none, none, none, none, none] ∧ Same H11 H12) ⟨_, _, _, _, rfl, Same.refl _⟩ (fun i σ H12 _ ⟨_, _, _, _, _, s⟩ => .inl (.inl (s _ _ htt'))) ?_ ?_⟩
      · rintro i x σ H12 hi ⟨x3, x4, x5, x6, rfl, s12⟩
        obtain ⟨ps, Bx, ok⟩ := three i x hi
        have Bx12 := Bx.same s12
        obtain ⟨sh1, sh2, sh3, sh4⟩ := (pr_good ok).shown few100 (by decide) (by decide)
        have sh5 : (prD ps).shown.length ≤ sizeLine := Nat.le_trans sh4 (by decide)
        refine ⟨_, rfl, x, ps, rfl, Bx12, ok, fun H13 s13 => ⟨_, rfl, x, prD ps, rfl, (Bx12.same s13).dp, sh1, sh2, sh3, sh5, _, _, rfl, ?_⟩⟩
        have Bx13 := Bx12.same s13
        refine ⟨_, rfl, x, ps, rfl, Bx13, ok, fun H14 s14 => ⟨_, rfl, rfl, false, congrArg (fun z => V.bl (!z)) (decide_eq_true rfl), iteF ?_⟩⟩
        refine ⟨_, rfl, ps, rfl, ok, fun u H15 Bu s15 => ⟨_, rfl, u, x, 60, rfl, rfl, alike_bi ok Bu ((Bx13.same s14).same s15), fun H16 s16 => ⟨true, rfl, iteF ?_⟩⟩⟩
        have s1316 := s14.trans (s15.trans s16)
        refine ⟨_, rfl, x, prD ps, rfl, (Bx13.same s1316).dp, sh1, sh2, sh3, sh5, _, rfl, rfl, false, congrArg (fun z => V.bl (!z)) (decide_eq_true rfl), iteF ?_⟩
        refine ⟨_, rfl, ps, rfl, ok, fun u' H17 Bu' s17 => ⟨u', ps, rfl, Bu', ok, fun H18 s18 => ⟨_, rfl, rfl, false, congrArg (fun z => V.bl (!z)) (decide_eq_true rfl), iteF ?_⟩⟩⟩
        exact ⟨_, _, _, _, rfl, s12.trans (s13.trans (s1316.trans (s17.trans s18)))⟩
      · rintro σ H12 ⟨x3, x4, x5, x6, rfl, s12⟩
        have hm12 := s12 _ _ hm11
        have o512 : But b H5 H12 := (but_of s6).trans (o6.trans (but_of s12))
        have K12 : ∀ (i : Nat) (x : V), ws[i]? = some x → ∃ t, us[i]? = some t ∧ TmAt H12 x t ∧ t.small ∧ t.size ≤ 40 := fun i x hx => by
          obtain ⟨t, h1', T, sm, sz⟩ := keys i x hx
          exact ⟨t, h1', T.but o512 hb5, sm, sz⟩
        refine ⟨_, rfl, m, rfl, ⟨_, .inl (.inl hm12)⟩, fun D2 hD2 => lc_list (K := K) (a := m) (xs := ws) (fun i H13 => H13 D2 = some (.lst (((us.take i).map Tm.txt).map V.str)) ∧ Same H12 H13) ⟨upd_same, same_new hD2 _⟩ (fun i H13 _ h => .inl (.inl (h.2 _ _ hm12))) ?_ ?_⟩
        · rintro i x H13 hi ⟨h13, s13⟩
          obtain ⟨t, ht, T, sm, sz⟩ := K12 i x hi
          have li : i < us.length := (List.getElem?_eq_some_iff.mp ht).1
          refine ⟨rfl, ?_⟩
          refine ⟨_, rfl, x, t, rfl, T.same s13, sm, by omega, fun H14 s14 => ⟨_, s14 _ _ h13, ?_, ?_, ?_⟩⟩
          · rw [List.length_map, List.length_map, List.length_take]; omega
          · have tk : us.take (i + 1) = us.take i ++ [t] := by rw [List.take_add_one, ht]; rfl
            rw [upd_same, tk, List.map_append, List.map_append]
            rfl
          · intro c o z
            rw [upd_ne (ne_of_none z hD2)]
            exact s14 _ _ (s13 _ _ z)
        · rintro H13 ⟨h13, s13⟩
          rw [wlen, List.take_of_length_le (Nat.le_refl _)] at h13
          have hm13 := s13 _ _ hm12
          have same_len : ws.length = ((us.map Tm.txt).map V.str).length := by rw [List.length_map, List.length_map, wlen]
          have pick : ∀ (i : Nat) (x y : V), ws[i]? = some x → ((us.map Tm.txt).map V.str)[i]? = some y → ∃ t, TmAt H13 x t ∧ t.small ∧ t.size ≤ 40 ∧ y = .str t.txt := fun i x y hx hy => by
            obtain ⟨t, ht, T, sm, sz⟩ := K12 i x hx
            rw [List.map_map, List.getElem?_map, ht] at hy
            exact ⟨t, T.same s13, sm, sz, by simpa using hy.symm⟩
          have o013 : But b H H13 := o1.trans (o15.trans (o512.trans (but_of s13)))
          refine ⟨_, rfl, _, rfl, m, D2, ws, _, rfl, .inl ⟨.inl (.inl hm13), .inl (.inl h13), for_zipL (K := K) (a := m) (b := D2) (xs := ws) (ys := (us.map Tm.txt).map V.str) same_len
            (fun i σ H14 => ∃ (x3 x4 x5 x6 x8 x9 : Option V), σ = [some (.ref b), some (.ref p), some (.ref m), x3, x4, x5, x6, some (.ref D2), x8, x9, none, none, none] ∧ Same H13 H14) ⟨_, _, _, _, _, _, rfl, Same.refl _⟩
            (fun i σ H14 ⟨_, _, _, _, _, _, _, s⟩ => ⟨.inl (.inl (s _ _ hm13)), .inl (.inl (s _ _ h13))⟩) ?_ ?_⟩⟩
          · rintro i x y T σ H14 hx hy ⟨x3, x4, x5, x6, x8, x9, rfl, s14⟩ hT
            obtain ⟨t, Tx, sm, sz, rfl⟩ := pick i x y hx hy
            have sT := same_new hT (.tup [x, V.str t.txt])
            have s1415 := s14.trans sT
            refine ⟨T, _, rfl, .inl (.inl upd_same), rfl, _, _, rfl, _, _, rfl, rfl, ?_⟩
            have hm15 := s1415 _ _ hm13
            have h15' := s1415 _ _ h13
            refine ⟨_, rfl, _, rfl, m, D2, ws, _, rfl, .inl ⟨.inl (.inl hm15), .inl (.inl h15'), fun D3 hD3 => ?_⟩⟩
            refine lc_pairs (J := Itz K m D2) (xs := ws) (ys := (us.map Tm.txt).map V.str) same_len (fun i H16 => H16 D3 = some (.lst (List.replicate i (V.bl true))) ∧ Same (upd H14 T (.tup [x, V.str t.txt])) H16)
              (fun H16 h => ⟨ws, _, .inl (.inl (h.2 _ _ hm15)), .inl (.inl (h.2 _ _ h15')), .inl (Nat.le_refl _)⟩)
              (fun k H16 lt h => ⟨ws, (us.map Tm.txt).map V.str, ws[k], ((us.map Tm.txt).map V.str)[k]'(by omega), .inl (.inl (h.2 _ _ hm15)), .inl (.inl (h.2 _ _ h15')), List.getElem?_eq_getElem lt, List.getElem?_eq_getElem (by omega)⟩)
              (fun k H16 v H17 h ⟨T', u, v', e1, hT', e2, f1, f2⟩ => ⟨T', u, v', e1, f1 ws (.inl (.inl (h.2 _ _ hm15))), f2 _ (.inl (.inl (h.2 _ _ h15'))), hT', e2⟩)
              ⟨upd_same, same_new hD3 _⟩ (fun k x' y' T' H16 hx' hy' h hT' => ?_) (fun H16 h => ⟨D3, List.replicate ws.length true, rfl, .inl (.inl (by rw [List.map_replicate]; exact h.1)), ?_⟩)
            · obtain ⟨t', Tx', sm', sz', rfl⟩ := pick k x' y' hx' hy'
              have sT' := same_new hT' (.tup [x', V.str t'.txt])
              have lk : k < ws.length := (List.getElem?_eq_some_iff.mp hx').1
              have sB : Same H13 (upd H16 T' (.tup [x', V.str t'.txt])) := s1415.trans (h.2.trans sT')
              have o1 := tm_ok t
              have o2 := tm_ok t'
              have d1 := Tm.deep_lt t
              have d2 := Tm.deep_lt t'
              refine ⟨T', _, rfl, .inl (.inl upd_same), rfl, _, _, rfl, _, _, rfl, rfl, rfl, ?_⟩
              unfold teEqs
              refine ⟨_, rfl, _, rfl, tmD t, tmD t', ((Tx.same sB).dat (b := b)).dp, ((Tx'.same sB).dat (b := b)).dp, shaped_of o1.1 (by omega), shaped_of o2.1 (by omega), _, rfl, _, rfl, rfl, rfl, _, sT' _ _ h.1, ?_, ?_, ?_⟩
              · rw [List.length_replicate]; omega
              · rw [eqv_txt sm sm', decide_eq_true rfl, upd_same, List.replicate_succ']
              · intro c o z
                rw [upd_ne (ne_of_none z hD3)]
                exact sT' _ _ (h.2 _ _ z)
            · have e : (List.replicate ws.length true).all id = true := by rw [List.all_eq_true]; intro x hx; rw [List.eq_of_mem_replicate hx]; rfl
              rw [e]
              exact ⟨true, rfl, iteF ⟨_, _, _, _, _, _, rfl, s1415.trans h.2⟩⟩
          · rintro σ H14 ⟨x3, x4, x5, x6, x8, x9, rfl, s14⟩
            exact q _ (o013.trans (but_of s14))
end
end Rp

set_option maxHeartbeats 8000000
namespace Rp
open PySem PySem.Spec PyProof.Rows L2 TL RZ
def spLaw (K : PySem.W.Frag) : Sp := fun vs H Q _ => ∃ (a : Addr) (ns : List Int), vs = [.ref a] ∧ SqL K H a (ns.map V.int) ∧ ns.length ≤ 63 ∧ ∀ H', Q (.bl true) H'
section
variable {P : Program} {w : World} {K : PySem.W.Frag} {mg : Str → Option Value} {base : Heap}
theorem scLaw : FnScope ["_law_script", "_law_k"] ["_law_script"] (defScope sLaw) := ⟨rfl, rfl, rfl, by decide +kernel, rfl, by decide +kernel, by decide +kernel⟩
theorem ok_law {f fB fR : Addr} {fd dB dR : FuncData} (F : Fun K "law" "law" sLaw f fd)
    (GB : FnOk P w K mg base CX0 1 fB dB ["_law_script", "_law_k"] (spBox K)) (kB : PySem.W.keepIn K (.ref fB) = true) (bB : Binds K dB ["_law_script", "_law_k"] []) (mB : mg "_law_box" = some (.ref fB))
    (GR : GnOk P w K mg base 70 fR dR ["_law_box_here"] spRight) (kR : PySem.W.keepIn K (.ref fR) = true) (bR : Binds K dR ["_law_box_here"] []) (mR : mg "_law_right" = some (.ref fR))
    (mRange : mg "range" = none) (mMin : mg "min" = none) (mLen : mg "len" = none) (mAll : mg "all" = none) : GnOk P w K mg base 71 f fd ["_law_script"] (spLaw K) := by
  refine gok F scLaw (fun vs H Q E h => ?_) (fun cdv A outer s H vs Q E hg hr h => ?_)
  · obtain ⟨a, ns, rfl, _⟩ := h
    rfl
  obtain ⟨a, ns, rfl, hS, hl, q⟩ := h
  have r1 : Room 1 _ := hr.mono (by decide)
  refine ⟨_, pss_one (ps_ret (pe_callB (cr_all rfl) (by rfl) mAll (by decide +kernel) (pa_cons (pe_lc (own := [("_law_k", 1)]) (g := gName 1) (tt := tYes) (te := tCall spRight [] E0 (tCons (tCall (spBox K) [] E0 (tCons (tVar 0) (tCons (tVar 1) tNil))) tNil)) rfl scLaw.nd
      (pi_range1 rfl mRange (pa_cons (pe_op op_add pe_int (pe_callB (call_min2 rfl) (by rfl) mMin (by decide +kernel) (pa_cons pe_int (pa_cons (pe_callB call_len_seq (by rfl) mLen PySem.boot_len (pa_cons (pv 0) pa_nil)) pa_nil)))) pa_nil))
      (blkOk_by (N := ["_law_script", "_law_k"]) (sc := defScope sLaw) (by decide +kernel)) (fun _ _ _ _ _ => pg_name (i := 1) scLaw.nd rfl (Or.inl rfl))
      (fun _ _ _ _ _ => pts_nil) (fun _ _ _ _ _ => pe_callG GR hg hr (by rfl) mR kR bR (pa_cons (pe_call GB r1 (by rfl) mB kB bB .nil pass0 (pa_cons (pv 0) (pa_cons (pv 1) pa_nil))) pa_nil))) pa_nil))), ?_⟩
  have min6 : 0 ≤ (1 : Int) + (if (((ns.map V.int).length : Nat) : Int) < 5 then (((ns.map V.int).length : Nat) : Int) else 5) ∧ (1 : Int) + (if (((ns.map V.int).length : Nat) : Int) < 5 then (((ns.map V.int).length : Nat) : Int) else 5) ≤ 6 := by
    split <;> omega
  have big : (10000 : Nat) ≤ sizeLine := by decide
  refine ⟨_, rfl, a, _, rfl, .inl hS, _, _, rfl, _, _, rfl, rfl, _, rfl, by omega, by omega, fun D hD => lc_range (lo := 0) (fun i H2 => H2 D = some (.lst (List.replicate i (V.bl true))) ∧ Same H H2) ⟨upd_same, same_new hD _⟩ ?_ ?_⟩
  · rintro i H2 hi ⟨h2, s2⟩
    have i6 : (i : Int) < 6 := by omega
    refine ⟨rfl, ?_⟩
    refine ⟨_, rfl, _, rfl, a, ns, _, rfl, s2.seq hS, hl, by omega, by omega, fun b H3 hb B3 s3 => ?_⟩
    have Db : D ≠ b := ne_of_none h2 hb
    refine ⟨b, rfl, B3, fun H4 o4 => ⟨_, o4 _ _ (s3 _ _ h2) Db, ?_, ?_, ?_⟩⟩
    · rw [List.length_replicate]; omega
    · rw [upd_same, List.replicate_succ']
    · intro c o z
      rw [upd_ne (ne_of_none z hD)]
      exact o4 _ _ (s3 _ _ (s2 _ _ z)) (ne_of_none (s2 _ _ z) hb)
  · rintro H2 ⟨h2, s2⟩
    have e : ∀ n, (List.replicate n true).all id = true := fun n => by rw [List.all_eq_true]; intro x hx; rw [List.eq_of_mem_replicate hx]; rfl
    refine ⟨D, List.replicate _ true, rfl, .inl (.inl (by rw [List.map_replicate]; exact h2)), ?_⟩
    rw [e]
    exact q _
end
end Rp

namespace Rp
open PySem L2
theorem all_mk {l : PySem.W.OpenLaw} {w : World} {K : PySem.W.Frag} {h : Heap} {mg : Str → Option Value} {fa f1 f2 f3 f4 f5 f6 f7 f8 f9 f10 f11 f12 f13 f14 f15 f16 f17 f18 f19 f20 f21 f22 f23 f24 f25 f26 f27 f28 f29 f30 : Addr} (X : K.In h) (G : h.Ns mainGlobals mg) (hfa : mg "law" = some (.ref fa))
    {od1 an1 od2 an2 od3 an3 od4 an4 od5 an5 od6 an6 od7 an7 od8 an8 od9 an9 od10 an10 od11 an11 od12 an12 od13 an13 od14 an14 od15 an15 od16 an16 od17 an17 od18 an18 od19 an19 od20 an20 od21 an21 od22 an22 od23 an23 od24 an24 od25 an25 od26 an26 od27 an27 od28 an28 od29 an29 od30 an30 : Option Addr} {sl1 sl2 sl3 sl4 sl5 sl6 sl7 sl8 sl9 sl10 sl11 sl12 sl13 sl14 sl15 sl16 sl17 sl18 sl19 sl20 sl21 sl22 sl23 sl24 sl25 sl26 sl27 sl28 sl29 sl30 : Array (Option Value)} {oc1 kV1 dc1 pm1 cd1 ct1 oc2 kV2 dc2 pm2 cd2 ct2 oc3 kV3 dc3 pm3 cd3 ct3 oc4 kV4 dc4 pm4 cd4 ct4 oc5 kV5 dc5 pm5 cd5 ct5 oc6 kV6 dc6 pm6 cd6 ct6 oc7 kV7 dc7 pm7 cd7 ct7 oc8 kV8 dc8 pm8 cd8 ct8 oc9 kV9 dc9 pm9 cd9 ct9 oc10 kV10 dc10 pm10 cd10 ct10 oc11 kV11 dc11 pm11 cd11 ct11 oc12 kV12 dc12 pm12 cd12 ct12 oc13 kV13 dc13 pm13 cd13 ct13 oc14 kV14 dc14 pm14 cd14 ct14 oc15 kV15 dc15 pm15 cd15 ct15 oc16 kV16 dc16 pm16 cd16 ct16 oc17 kV17 dc17 pm17 cd17 ct17 oc18 kV18 dc18 pm18 cd18 ct18 oc19 kV19 dc19 pm19 cd19 ct19 oc20 kV20 dc20 pm20 cd20 ct20 oc21 kV21 dc21 pm21 cd21 ct21 oc22 kV22 dc22 pm22 cd22 ct22 oc23 kV23 dc23 pm23 cd23 ct23 oc24 kV24 dc24 pm24 cd24 ct24 oc25 kV25 dc25 pm25 cd25 ct25 oc26 kV26 dc26 pm26 cd26 ct26 oc27 kV27 dc27 pm27 cd27 ct27 oc28 kV28 dc28 pm28 cd28 ct28 oc29 kV29 dc29 pm29 cd29 ct29 oc30 kV30 dc30 pm30 cd30 ct30 : Value}
    {fS s1 s2 s3 : Addr} {tk tk2 : Tok} {odS od1_ od2_ od3_ : Option Addr} {nS n1_ n2_ n3_ : Nat} {slS sl1_ sl2_ sl3_ : Array (Option Value)} {t1 t2 t3 t4 t5 t6 : Tok}
    (a1 : PySem.W.nsIn K mainGlobals "is_number" = some (some (.ref f1))) (l1 : K.lookup f1 = some ⟨oc1, od1, .func (PySem.W.fnOf "is_number" "is_number" (defArgs sNumber) (defBody sNumber) (defScope sNumber) .none kV1 dc1 pm1 an1 cd1 ct1), sl1⟩) (c1 : PySem.W.codeIn K cd1 "is_number" = true) (k1 : PySem.W.keepIn K (.ref f1) = true)
    (a2 : PySem.W.nsIn K mainGlobals "is_variable" = some (some (.ref f2))) (l2 : K.lookup f2 = some ⟨oc2, od2, .func (PySem.W.fnOf "is_variable" "is_variable" (defArgs sVariable) (defBody sVariable) (defScope sVariable) .none kV2 dc2 pm2 an2 cd2 ct2), sl2⟩) (c2 : PySem.W.codeIn K cd2 "is_variable" = true) (k2 : PySem.W.keepIn K (.ref f2) = true)
    (a3 : PySem.W.nsIn K mainGlobals "_has_shape" = some (some (.ref f3))) (l3 : K.lookup f3 = some ⟨oc3, od3, .func (PySem.W.fnOf "_has_shape" "_has_shape" (defArgs sShape) (defBody sShape) (defScope sShape) .none kV3 dc3 pm3 an3 cd3 ct3), sl3⟩) (c3 : PySem.W.codeIn K cd3 "_has_shape" = true) (k3 : PySem.W.keepIn K (.ref f3) = true)
    (a4 : PySem.W.nsIn K mainGlobals "is_term" = some (some (.ref f4))) (l4 : K.lookup f4 = some ⟨oc4, od4, .func (PySem.W.fnOf "is_term" "is_term" (defArgs sTerm) (defBody sTerm) (defScope sTerm) .none kV4 dc4 pm4 an4 cd4 ct4), sl4⟩) (c4 : PySem.W.codeIn K cd4 "is_term" = true) (k4 : PySem.W.keepIn K (.ref f4) = true)
    (a5 : PySem.W.nsIn K mainGlobals "_parts" = some (some (.ref f5))) (l5 : K.lookup f5 = some ⟨oc5, od5, .func (PySem.W.fnOf "_parts" "_parts" (defArgs sParts) (defBody sParts) (defScope sParts) .none kV5 dc5 pm5 an5 cd5 ct5), sl5⟩) (c5 : PySem.W.codeIn K cd5 "_parts" = true) (k5 : PySem.W.keepIn K (.ref f5) = true)
    (a6 : PySem.W.nsIn K mainGlobals "inside_out" = some (some (.ref f6))) (l6 : K.lookup f6 = some ⟨oc6, od6, .func (PySem.W.fnOf "inside_out" "inside_out" (defArgs sInside) (defBody sInside) (defScope sInside) .none kV6 dc6 pm6 an6 cd6 ct6), sl6⟩) (c6 : PySem.W.codeIn K cd6 "inside_out" = true) (k6 : PySem.W.keepIn K (.ref f6) = true)
    (a7 : PySem.W.nsIn K mainGlobals "fold" = some (some (.ref f7))) (l7 : K.lookup f7 = some ⟨oc7, od7, .func (PySem.W.fnOf "fold" "fold" (defArgs sFold) (defBody sFold) (defScope sFold) .none kV7 dc7 pm7 an7 cd7 ct7), sl7⟩) (c7 : PySem.W.codeIn K cd7 "fold" = true) (k7 : PySem.W.keepIn K (.ref f7) = true)
    (a8 : PySem.W.nsIn K mainGlobals "_is_pair" = some (some (.ref f8))) (l8 : K.lookup f8 = some ⟨oc8, od8, .func (PySem.W.fnOf "_is_pair" "_is_pair" (defArgs sIsPair) (defBody sIsPair) (defScope sIsPair) .none kV8 dc8 pm8 an8 cd8 ct8), sl8⟩) (c8 : PySem.W.codeIn K cd8 "_is_pair" = true) (k8 : PySem.W.keepIn K (.ref f8) = true)
    (a9 : PySem.W.nsIn K mainGlobals "is_binding" = some (some (.ref f9))) (l9 : K.lookup f9 = some ⟨oc9, od9, .func (PySem.W.fnOf "is_binding" "is_binding" (defArgs sIsBinding) (defBody sIsBinding) (defScope sIsBinding) .none kV9 dc9 pm9 an9 cd9 ct9), sl9⟩) (c9 : PySem.W.codeIn K cd9 "is_binding" = true) (k9 : PySem.W.keepIn K (.ref f9) = true)
    (a10 : PySem.W.nsIn K mainGlobals "_text_of" = some (some (.ref f10))) (l10 : K.lookup f10 = some ⟨oc10, od10, .func (PySem.W.fnOf "_text_of" "_text_of" (defArgs sTextOf) (defBody sTextOf) (defScope sTextOf) .none kV10 dc10 pm10 an10 cd10 ct10), sl10⟩) (c10 : PySem.W.codeIn K cd10 "_text_of" = true) (k10 : PySem.W.keepIn K (.ref f10) = true)
    (a11 : PySem.W.nsIn K mainGlobals "term_text" = some (some (.ref f11))) (l11 : K.lookup f11 = some ⟨oc11, od11, .func (PySem.W.fnOf "term_text" "term_text" (defArgs sTermText) (defBody sTermText) (defScope sTermText) .none kV11 dc11 pm11 an11 cd11 ct11), sl11⟩) (c11 : PySem.W.codeIn K cd11 "term_text" = true) (k11 : PySem.W.keepIn K (.ref f11) = true)
    (a12 : PySem.W.nsIn K mainGlobals "_number_of" = some (some (.ref f12))) (l12 : K.lookup f12 = some ⟨oc12, od12, .func (PySem.W.fnOf "_number_of" "_number_of" (defArgs sNumberOf) (defBody sNumberOf) (defScope sNumberOf) .none kV12 dc12 pm12 an12 cd12 ct12), sl12⟩) (c12 : PySem.W.codeIn K cd12 "_number_of" = true) (k12 : PySem.W.keepIn K (.ref f12) = true)
    (a13 : PySem.W.nsIn K mainGlobals "_from_signs" = some (some (.ref f13))) (l13 : K.lookup f13 = some ⟨oc13, od13, .func (PySem.W.fnOf "_from_signs" "_from_signs" (defArgs sFromSigns) (defBody sFromSigns) (defScope sFromSigns) .none kV13 dc13 pm13 an13 cd13 ct13), sl13⟩) (c13 : PySem.W.codeIn K cd13 "_from_signs" = true) (k13 : PySem.W.keepIn K (.ref f13) = true)
    (a14 : PySem.W.nsIn K mainGlobals "term_or_none" = some (some (.ref f14))) (l14 : K.lookup f14 = some ⟨oc14, od14, .func (PySem.W.fnOf "term_or_none" "term_or_none" (defArgs sTermOrNone) (defBody sTermOrNone) (defScope sTermOrNone) .none kV14 dc14 pm14 an14 cd14 ct14), sl14⟩) (c14 : PySem.W.codeIn K cd14 "term_or_none" = true) (k14 : PySem.W.keepIn K (.ref f14) = true)
    (a15 : PySem.W.nsIn K mainGlobals "term_in" = some (some (.ref f15))) (l15 : K.lookup f15 = some ⟨oc15, od15, .func (PySem.W.fnOf "term_in" "term_in" (defArgs sTermIn) (defBody sTermIn) (defScope sTermIn) .none kV15 dc15 pm15 an15 cd15 ct15), sl15⟩) (c15 : PySem.W.codeIn K cd15 "term_in" = true) (k15 : PySem.W.keepIn K (.ref f15) = true)
    (a16 : PySem.W.nsIn K mainGlobals "binding_text" = some (some (.ref f16))) (l16 : K.lookup f16 = some ⟨oc16, od16, .func (PySem.W.fnOf "binding_text" "binding_text" (defArgs sBindingText) (defBody sBindingText) (defScope sBindingText) .none kV16 dc16 pm16 an16 cd16 ct16), sl16⟩) (c16 : PySem.W.codeIn K cd16 "binding_text" = true) (k16 : PySem.W.keepIn K (.ref f16) = true)
    (a17 : PySem.W.nsIn K mainGlobals "_pair_in" = some (some (.ref f17))) (l17 : K.lookup f17 = some ⟨oc17, od17, .func (PySem.W.fnOf "_pair_in" "_pair_in" (defArgs sPairIn) (defBody sPairIn) (defScope sPairIn) .none kV17 dc17 pm17 an17 cd17 ct17), sl17⟩) (c17 : PySem.W.codeIn K cd17 "_pair_in" = true) (k17 : PySem.W.keepIn K (.ref f17) = true)
    (a18 : PySem.W.nsIn K mainGlobals "binding_or_none" = some (some (.ref f18))) (l18 : K.lookup f18 = some ⟨oc18, od18, .func (PySem.W.fnOf "binding_or_none" "binding_or_none" (defArgs sBindingOrNone) (defBody sBindingOrNone) (defScope sBindingOrNone) .none kV18 dc18 pm18 an18 cd18 ct18), sl18⟩) (c18 : PySem.W.codeIn K cd18 "binding_or_none" = true) (k18 : PySem.W.keepIn K (.ref f18) = true)
    (a19 : PySem.W.nsIn K mainGlobals "binding_in" = some (some (.ref f19))) (l19 : K.lookup f19 = some ⟨oc19, od19, .func (PySem.W.fnOf "binding_in" "binding_in" (defArgs sBindingIn) (defBody sBindingIn) (defScope sBindingIn) .none kV19 dc19 pm19 an19 cd19 ct19), sl19⟩) (c19 : PySem.W.codeIn K cd19 "binding_in" = true) (k19 : PySem.W.keepIn K (.ref f19) = true)
    (a20 : PySem.W.nsIn K mainGlobals "_law_box" = some (some (.ref f20))) (l20 : K.lookup f20 = some ⟨oc20, od20, .func (PySem.W.fnOf "_law_box" "_law_box" (defArgs sBox) (defBody sBox) (defScope sBox) .none kV20 dc20 pm20 an20 cd20 ct20), sl20⟩) (c20 : PySem.W.codeIn K cd20 "_law_box" = true) (k20 : PySem.W.keepIn K (.ref f20) = true)
    (a21 : PySem.W.nsIn K mainGlobals "_law_take" = some (some (.ref f21))) (l21 : K.lookup f21 = some ⟨oc21, od21, .func (PySem.W.fnOf "_law_take" "_law_take" (defArgs sTake) (defBody sTake) (defScope sTake) .none kV21 dc21 pm21 an21 cd21 ct21), sl21⟩) (c21 : PySem.W.codeIn K cd21 "_law_take" = true) (k21 : PySem.W.keepIn K (.ref f21) = true)
    (a22 : PySem.W.nsIn K mainGlobals "_law_pick" = some (some (.ref f22))) (l22 : K.lookup f22 = some ⟨oc22, od22, .func (PySem.W.fnOf "_law_pick" "_law_pick" (defArgs sPick) (defBody sPick) (defScope sPick) .none kV22 dc22 pm22 an22 cd22 ct22), sl22⟩) (c22 : PySem.W.codeIn K cd22 "_law_pick" = true) (k22 : PySem.W.keepIn K (.ref f22) = true)
    (a23 : PySem.W.nsIn K mainGlobals "_law_same" = some (some (.ref f23))) (l23 : K.lookup f23 = some ⟨oc23, od23, .func (PySem.W.fnOf "_law_same" "_law_same" (defArgs sSame) (defBody sSame) (defScope sSame) .none kV23 dc23 pm23 an23 cd23 ct23), sl23⟩) (c23 : PySem.W.codeIn K cd23 "_law_same" = true) (k23 : PySem.W.keepIn K (.ref f23) = true)
    (a24 : PySem.W.nsIn K mainGlobals "_law_tree" = some (some (.ref f24))) (l24 : K.lookup f24 = some ⟨oc24, od24, .func (PySem.W.fnOf "_law_tree" "_law_tree" (defArgs sTree) (defBody sTree) (defScope sTree) .none kV24 dc24 pm24 an24 cd24 ct24), sl24⟩) (c24 : PySem.W.codeIn K cd24 "_law_tree" = true) (k24 : PySem.W.keepIn K (.ref f24) = true)
    (a25 : PySem.W.nsIn K mainGlobals "_law_fresh" = some (some (.ref f25))) (l25 : K.lookup f25 = some ⟨oc25, od25, .func (PySem.W.fnOf "_law_fresh" "_law_fresh" (defArgs sFresh) (defBody sFresh) (defScope sFresh) .none kV25 dc25 pm25 an25 cd25 ct25), sl25⟩) (c25 : PySem.W.codeIn K cd25 "_law_fresh" = true) (k25 : PySem.W.keepIn K (.ref f25) = true)
    (a26 : PySem.W.nsIn K mainGlobals "_law_text" = some (some (.ref f26))) (l26 : K.lookup f26 = some ⟨oc26, od26, .func (PySem.W.fnOf "_law_text" "_law_text" (defArgs sText) (defBody sText) (defScope sText) .none kV26 dc26 pm26 an26 cd26 ct26), sl26⟩) (c26 : PySem.W.codeIn K cd26 "_law_text" = true) (k26 : PySem.W.keepIn K (.ref f26) = true)
    (a27 : PySem.W.nsIn K mainGlobals "_law_pairs" = some (some (.ref f27))) (l27 : K.lookup f27 = some ⟨oc27, od27, .func (PySem.W.fnOf "_law_pairs" "_law_pairs" (defArgs sPairs) (defBody sPairs) (defScope sPairs) .none kV27 dc27 pm27 an27 cd27 ct27), sl27⟩) (c27 : PySem.W.codeIn K cd27 "_law_pairs" = true) (k27 : PySem.W.keepIn K (.ref f27) = true)
    (a28 : PySem.W.nsIn K mainGlobals "_law_binding_text" = some (some (.ref f28))) (l28 : K.lookup f28 = some ⟨oc28, od28, .func (PySem.W.fnOf "_law_binding_text" "_law_binding_text" (defArgs sLawBT) (defBody sLawBT) (defScope sLawBT) .none kV28 dc28 pm28 an28 cd28 ct28), sl28⟩) (c28 : PySem.W.codeIn K cd28 "_law_binding_text" = true) (k28 : PySem.W.keepIn K (.ref f28) = true)
    (a29 : PySem.W.nsIn K mainGlobals "_law_right" = some (some (.ref f29))) (l29 : K.lookup f29 = some ⟨oc29, od29, .func (PySem.W.fnOf "_law_right" "_law_right" (defArgs sRight) (defBody sRight) (defScope sRight) .none kV29 dc29 pm29 an29 cd29 ct29), sl29⟩) (c29 : PySem.W.codeIn K cd29 "_law_right" = true) (k29 : PySem.W.keepIn K (.ref f29) = true)
    (a30 : PySem.W.nsIn K mainGlobals "law" = some (some (.ref f30))) (l30 : K.lookup f30 = some ⟨oc30, od30, .func (PySem.W.fnOf "law" "law" (defArgs sLaw) (defBody sLaw) (defScope sLaw) .none kV30 dc30 pm30 an30 cd30 ct30), sl30⟩) (c30 : PySem.W.codeIn K cd30 "law" = true) (k30 : PySem.W.keepIn K (.ref f30) = true)
    (z1 : PySem.W.nsIn K mainGlobals "isinstance" = some none)
    (z2 : PySem.W.nsIn K mainGlobals "int" = some none)
    (z3 : PySem.W.nsIn K mainGlobals "len" = some none)
    (z4 : PySem.W.nsIn K mainGlobals "sorted" = some none)
    (z5 : PySem.W.nsIn K mainGlobals "list" = some none)
    (z6 : PySem.W.nsIn K mainGlobals "tuple" = some none)
    (z7 : PySem.W.nsIn K mainGlobals "all" = some none)
    (z8 : PySem.W.nsIn K mainGlobals "zip" = some none)
    (z9 : PySem.W.nsIn K mainGlobals "str" = some none)
    (z10 : PySem.W.nsIn K mainGlobals "bool" = some none)
    (z11 : PySem.W.nsIn K mainGlobals "range" = some none)
    (z12 : PySem.W.nsIn K mainGlobals "min" = some none)
    (z13 : PySem.W.nsIn K mainGlobals "abs" = some none)
    (z14 : PySem.W.nsIn K mainGlobals "repr" = some none)
    (z15 : PySem.W.nsIn K mainGlobals "reversed" = some none)
    (xV : PySem.W.nsIn K mainGlobals "LAST_VARIABLE" = some (some (.int 99 tk)))
    (xM : PySem.W.nsIn K mainGlobals "MOST_SIGNS" = some (some (.int 200 tk2)))
    (xS : PySem.W.nsIn K mainGlobals "SHAPES" = some (some (.ref fS)))
    (xL : K.lookup fS = some ⟨.type "tuple", odS, .seq #[.ref s1, .ref s2, .ref s3] nS, slS⟩)
    (x1 : K.lookup s1 = some ⟨.type "tuple", od1_, .seq #[.str "0" t1, .int 1 t2] n1_, sl1_⟩)
    (x2 : K.lookup s2 = some ⟨.type "tuple", od2_, .seq #[.str "s" t3, .int 2 t4] n2_, sl2_⟩)
    (x3 : K.lookup s3 = some ⟨.type "tuple", od3_, .seq #[.str "f" t5, .int 3 t6] n3_, sl3_⟩)
    : ∃ fd : FuncData, (∀ (s : Shared) (v : Value), BindsTo s fd ⟨[v], []⟩ [("_law_script", v)]) ∧ ∀ base : Heap, K.In base → base.Ns mainGlobals mg → GnOk l.prog w K mg base 71 fa fd ["_law_script"] (spLaw K) := by
  have e := hfa.symm.trans (PySem.W.mg_of X G a30)
  cases e
  have F1 := fun_mk (st := sNumber) l1 c1 k1
  have b1 := F1.binds (ps := ["thing"]) fun _ _ _ _ _ _ us hl => match us, hl with | [_], _ => rfl
  have m1 := PySem.W.mg_of X G a1
  have F2 := fun_mk (st := sVariable) l2 c2 k2
  have b2 := F2.binds (ps := ["thing"]) fun _ _ _ _ _ _ us hl => match us, hl with | [_], _ => rfl
  have m2 := PySem.W.mg_of X G a2
  have F3 := fun_mk (st := sShape) l3 c3 k3
  have b3 := F3.binds (ps := ["thing"]) fun _ _ _ _ _ _ us hl => match us, hl with | [_], _ => rfl
  have m3 := PySem.W.mg_of X G a3
  have F4 := fun_mk (st := sTerm) l4 c4 k4
  have b4 := F4.binds (ps := ["thing"]) fun _ _ _ _ _ _ us hl => match us, hl with | [_], _ => rfl
  have m4 := PySem.W.mg_of X G a4
  have F5 := fun_mk (st := sParts) l5 c5 k5
  have b5 := F5.binds (ps := ["term"]) fun _ _ _ _ _ _ us hl => match us, hl with | [_], _ => rfl
  have m5 := PySem.W.mg_of X G a5
  have F6 := fun_mk (st := sInside) l6 c6 k6
  have b6 := F6.binds (ps := ["term"]) fun _ _ _ _ _ _ us hl => match us, hl with | [_], _ => rfl
  have m6 := PySem.W.mg_of X G a6
  have F7 := fun_mk (st := sFold) l7 c7 k7
  have b7 := F7.binds (ps := ["term", "made_of"]) fun _ _ _ _ _ _ us hl => match us, hl with | [_, _], _ => rfl
  have m7 := PySem.W.mg_of X G a7
  have F8 := fun_mk (st := sIsPair) l8 c8 k8
  have b8 := F8.binds (ps := ["thing"]) fun _ _ _ _ _ _ us hl => match us, hl with | [_], _ => rfl
  have m8 := PySem.W.mg_of X G a8
  have F9 := fun_mk (st := sIsBinding) l9 c9 k9
  have b9 := F9.binds (ps := ["thing"]) fun _ _ _ _ _ _ us hl => match us, hl with | [_], _ => rfl
  have m9 := PySem.W.mg_of X G a9
  have F10 := fun_mk (st := sTextOf) l10 c10 k10
  have b10 := F10.binds (ps := ["part", "texts"]) fun _ _ _ _ _ _ us hl => match us, hl with | [_, _], _ => rfl
  have m10 := PySem.W.mg_of X G a10
  have F11 := fun_mk (st := sTermText) l11 c11 k11
  have b11 := F11.binds (ps := ["term"]) fun _ _ _ _ _ _ us hl => match us, hl with | [_], _ => rfl
  have m11 := PySem.W.mg_of X G a11
  have F12 := fun_mk (st := sNumberOf) l12 c12 k12
  have b12 := F12.binds (ps := ["sign"]) fun _ _ _ _ _ _ us hl => match us, hl with | [_], _ => rfl
  have m12 := PySem.W.mg_of X G a12
  have F13 := fun_mk (st := sFromSigns) l13 c13 k13
  have b13 := F13.binds (ps := ["signs"]) fun _ _ _ _ _ _ us hl => match us, hl with | [_], _ => rfl
  have m13 := PySem.W.mg_of X G a13
  have F14 := fun_mk (st := sTermOrNone) l14 c14 k14
  have b14 := F14.binds (ps := ["text"]) fun _ _ _ _ _ _ us hl => match us, hl with | [_], _ => rfl
  have m14 := PySem.W.mg_of X G a14
  have F15 := fun_mk (st := sTermIn) l15 c15 k15
  have b15 := F15.binds (ps := ["text"]) fun _ _ _ _ _ _ us hl => match us, hl with | [_], _ => rfl
  have m15 := PySem.W.mg_of X G a15
  have F16 := fun_mk (st := sBindingText) l16 c16 k16
  have b16 := F16.binds (ps := ["binding"]) fun _ _ _ _ _ _ us hl => match us, hl with | [_], _ => rfl
  have m16 := PySem.W.mg_of X G a16
  have F17 := fun_mk (st := sPairIn) l17 c17 k17
  have b17 := F17.binds (ps := ["text"]) fun _ _ _ _ _ _ us hl => match us, hl with | [_], _ => rfl
  have m17 := PySem.W.mg_of X G a17
  have F18 := fun_mk (st := sBindingOrNone) l18 c18 k18
  have b18 := F18.binds (ps := ["text"]) fun _ _ _ _ _ _ us hl => match us, hl with | [_], _ => rfl
  have m18 := PySem.W.mg_of X G a18
  have F19 := fun_mk (st := sBindingIn) l19 c19 k19
  have b19 := F19.binds (ps := ["text"]) fun _ _ _ _ _ _ us hl => match us, hl with | [_], _ => rfl
  have m19 := PySem.W.mg_of X G a19
  have F20 := fun_mk (st := sBox) l20 c20 k20
  have b20 := F20.binds (ps := ["_law_script", "_law_k"]) fun _ _ _ _ _ _ us hl => match us, hl with | [_, _], _ => rfl
  have m20 := PySem.W.mg_of X G a20
  have F21 := fun_mk (st := sTake) l21 c21 k21
  have b21 := F21.binds (ps := ["_law_box_here", "_law_count"]) fun _ _ _ _ _ _ us hl => match us, hl with | [_, _], _ => rfl
  have m21 := PySem.W.mg_of X G a21
  have F22 := fun_mk (st := sPick) l22 c22 k22
  have b22 := F22.binds (ps := ["_law_box_here", "_law_things"]) fun _ _ _ _ _ _ us hl => match us, hl with | [_, _], _ => rfl
  have m22 := PySem.W.mg_of X G a22
  have F23 := fun_mk (st := sSame) l23 c23 k23
  have b23 := F23.binds (ps := ["_law_found", "_law_due"]) fun _ _ _ _ _ _ us hl => match us, hl with | [_, _], _ => rfl
  have m23 := PySem.W.mg_of X G a23
  have F24 := fun_mk (st := sTree) l24 c24 k24
  have b24 := F24.binds (ps := ["_law_box_here", "_law_room", "_law_fresh_here"]) fun _ _ _ _ _ _ us hl => match us, hl with | [_, _, _], _ => rfl
  have m24 := PySem.W.mg_of X G a24
  have F25 := fun_mk (st := sFresh) l25 c25 k25
  have b25 := F25.binds (ps := ["_law_box_here"]) fun _ _ _ _ _ _ us hl => match us, hl with | [_], _ => rfl
  have m25 := PySem.W.mg_of X G a25
  have F26 := fun_mk (st := sText) l26 c26 k26
  have b26 := F26.binds (ps := ["_law_term"]) fun _ _ _ _ _ _ us hl => match us, hl with | [_], _ => rfl
  have m26 := PySem.W.mg_of X G a26
  have F27 := fun_mk (st := sPairs) l27 c27 k27
  have b27 := F27.binds (ps := ["_law_box_here", "_law_fresh_here", "_law_room"]) fun _ _ _ _ _ _ us hl => match us, hl with | [_, _, _], _ => rfl
  have m27 := PySem.W.mg_of X G a27
  have F28 := fun_mk (st := sLawBT) l28 c28 k28
  have b28 := F28.binds (ps := ["_law_pairs_here"]) fun _ _ _ _ _ _ us hl => match us, hl with | [_], _ => rfl
  have m28 := PySem.W.mg_of X G a28
  have F29 := fun_mk (st := sRight) l29 c29 k29
  have b29 := F29.binds (ps := ["_law_box_here"]) fun _ _ _ _ _ _ us hl => match us, hl with | [_], _ => rfl
  have m29 := PySem.W.mg_of X G a29
  have F30 := fun_mk (st := sLaw) l30 c30 k30
  have y1 := PySem.W.mg_none_of X G z1
  have y2 := PySem.W.mg_none_of X G z2
  have y3 := PySem.W.mg_none_of X G z3
  have y4 := PySem.W.mg_none_of X G z4
  have y5 := PySem.W.mg_none_of X G z5
  have y6 := PySem.W.mg_none_of X G z6
  have y7 := PySem.W.mg_none_of X G z7
  have y8 := PySem.W.mg_none_of X G z8
  have y9 := PySem.W.mg_none_of X G z9
  have y10 := PySem.W.mg_none_of X G z10
  have y11 := PySem.W.mg_none_of X G z11
  have y12 := PySem.W.mg_none_of X G z12
  have y13 := PySem.W.mg_none_of X G z13
  have y14 := PySem.W.mg_none_of X G z14
  have y15 := PySem.W.mg_none_of X G z15
  refine ⟨PySem.W.fnOf "law" "law" (defArgs sLaw) (defBody sLaw) (defScope sLaw) .none kV30 dc30 pm30 an30 cd30 ct30, fun s v => .of_eq rfl, fun base _ _ => ?_⟩
  have c0 : ∀ H, SqT K H fS [V.ref s1, .ref s2, .ref s3] := fun H => .inr ⟨_, _, _, xL, rfl, rfl, (by show 3 ≤ sizeLine; decide), .cons rfl (.cons rfl (.cons rfl .nil))⟩
  have c1 : ∀ H, SqT K H s1 [V.str "0", .int 1] := fun H => .inr ⟨_, _, _, x1, rfl, rfl, (by show 2 ≤ sizeLine; decide), .cons ⟨_, rfl⟩ (.cons ⟨_, rfl⟩ .nil)⟩
  have c2 : ∀ H, SqT K H s2 [V.str "s", .int 2] := fun H => .inr ⟨_, _, _, x2, rfl, rfl, (by show 2 ≤ sizeLine; decide), .cons ⟨_, rfl⟩ (.cons ⟨_, rfl⟩ .nil)⟩
  have c3 : ∀ H, SqT K H s3 [V.str "f", .int 3] := fun H => .inr ⟨_, _, _, x3, rfl, rfl, (by show 2 ≤ sizeLine; decide), .cons ⟨_, rfl⟩ (.cons ⟨_, rfl⟩ .nil)⟩
  have hS : ∀ H, Dp K H (.ref fS) shapesD := fun H =>
    .tup (c0 H) (.cons (.tup (c1 H) (.cons (.str _) (.cons (.int _) .nil))) (.cons (.tup (c2 H) (.cons (.str _) (.cons (.int _) .nil))) (.cons (.tup (c3 H) (.cons (.str _) (.cons (.int _) .nil))) .nil)))
  have M : SameG mg := ⟨y1, y5, y6, y3, y7, y8, y9, y2, y10⟩
  have GN := ok_number (P := l.prog) (w := w) (base := base) F1 M
  have GVa := ok_variable F2 GN k1 b1 m1 (PySem.W.mg_of X G xV)
  have GSh := ok_shape (P := l.prog) (w := w) (base := base) F3 M (PySem.W.mg_of X G xS) hS
  have GTm := ok_term F4 GSh k3 b3 m3 GVa k2 b2 m2
  have GPa := ok_parts (P := l.prog) (w := w) (base := base) F5 y1 y2
  have GI := ok_inside (P := l.prog) (w := w) (base := base) F6 F5 b5 m5 y1 y2
  have GTO := ok_textof (P := l.prog) (w := w) (base := base) F10 y1 y2
  have GFo := ok_fold F7 GI k6 b6 m6 GPa k5 b5 m5 GTO k10 b10 y3
  have GTx := ok_termtext F11 GFo k7 b7 m7 m10
  have GNo := ok_numberof (P := l.prog) (w := w) (base := base) F12 y3 y2
  have GFs := ok_fromsigns F13 GNo k12 b12 m12 y3 y15
  have GOr := ok_termor F14 GFs k13 b13 m13 GTx k11 b11 m11 y3 (PySem.W.mg_of X G xM)
  have GIn := ok_termin F15 GOr k14 b14 m14
  have GIp := ok_ispair F8 GVa k2 b2 m2 GTm k4 b4 m4 M
  have GIb := ok_isbi F9 GIp k8 b8 m8 M
  have GBt := ok_btext F16 GTx k11 b11 m11
  have GPi := ok_pairin F17 GOr k14 b14 m14
  have GBo := ok_bor F18 GPi k17 b17 m17 GIb k9 b9 m9 y6
  have GBi := ok_bin F19 GBo k18 b18 m18
  have GS := same_ok (P := l.prog) (w := w) (base := base) F23 b23 m23 M 61
  have GLt := ltext_ok (P := l.prog) (w := w) (base := base) F26 b26 m26 M 64
  have GTk := ok_take (P := l.prog) (w := w) (mg := mg) (base := base) F21
  have GTr := trees_ok (P := l.prog) (w := w) (base := base) F24 b24 m24 F21 b21 m21 F22 b22 m22 y3 y5 64
  have GFr := ok_fresh1 (P := l.prog) (w := w) (base := base) F25 F21 b21 m21 y11 y2
  have GPr := ok_pairs F27 GTk k21 b21 m21 GTr k24 b24 m24 GFr k25 b25 m25 y5 y4 y6
  have GLb := ok_lbt F28 GLt k26 b26 m26 y9
  have GR := ok_right F29 ⟨GFr, k25, b25, m25, GTk, k21, b21, m21, GTr, k24, b24, m24, GLt, k26, b26, m26, GTx, k11, b11, m11, GIn, k15, b15, m15, GPr, k27, b27, m27, GLb, k28, b28, m28, GBt, k16, b16, m16, GBi, k19, b19, m19, GS, k23, b23, m23, y11, y14, y7, y8⟩
  exact ok_law F30 (ok_box F20 y3 y13 y2) k20 b20 m20 GR k29 b29 m29 y11 y12 y3 y7
theorem walk {l : PySem.W.OpenLaw} {q : Program} {loose : List Str} {XP : (Str → Option Value) → Heap → Prop} {YP : World → Heap → Prop} {d : DefRec} {K : Params → PySem.W.Frag} (hn : l.most = some 63) (hdf : d.params.defaults = [])
    (hY : ∀ (w : World) (h : Heap), YP w h → (K w.params).In h)
    (F : ∀ (w : World) (mg : Str → Option Value) (fa : Addr) (h : Heap), (K w.params).In h → h.Ns mainGlobals mg → mg d.name = some (.ref fa) →
      ∃ fd : FuncData, (∀ (s : Shared) (u : Value), BindsTo s fd ⟨[u], []⟩ [("_law_script", u)]) ∧ ∀ base : Heap, (K w.params).In base → base.Ns mainGlobals mg → GnOk l.prog w (K w.params) mg base 71 fa fd ["_law_script"] (spLaw (K w.params))) :
    PySem.W.WalkO q loose XP YP l.row.toRowW d [] (fun f vs => PySem.call f vs) :=
  walk_ofG (n := 63) (k := 71) (x := "_law_script") (sp := spLaw) hn (by decide) hdf ⟨rfl, by decide, by decide⟩ hY F (fun _ _ a ns hl _ hS => ⟨a, ns, rfl, hS, hl, fun _ => rfl⟩)
end Rp
open PySem PySem.W PyProof.Rows
set_option maxRecDepth 100000 in
set_option maxHeartbeats 0 in
theorem PySem.Challenge.cw_ringproofs_k06_terms_and_bindings_as_tex_holds : PySem.Challenge.rw_ringproofs_k06_terms_and_bindings_as_tex.Holds := by
  w_on; o_law; k_head; (case hw => w_witness2)
  k_fill
  refine Rp.walk (l := PySem.Challenge.rw_ringproofs_k06_terms_and_bindings_as_tex) rfl rfl (fun w h Y => PySem.W.kIn_of Y) ?F
  case F =>
    intro w mg fa h KX G hmg
    refine' Rp.all_mk KX G hmg ?a1 ?l1 ?c1 ?k1 ?a2 ?l2 ?c2 ?k2 ?a3 ?l3 ?c3 ?k3 ?a4 ?l4 ?c4 ?k4 ?a5 ?l5 ?c5 ?k5 ?a6 ?l6 ?c6 ?k6 ?a7 ?l7 ?c7 ?k7 ?a8 ?l8 ?c8 ?k8 ?a9 ?l9 ?c9 ?k9 ?a10 ?l10 ?c10 ?k10 ?a11 ?l11 ?c11 ?k11 ?a12 ?l12 ?c12 ?k12 ?a13 ?l13 ?c13 ?k13 ?a14 ?l14 ?c14 ?k14 ?a15 ?l15 ?c15 ?k15 ?a16 ?l16 ?c16 ?k16 ?a17 ?l17 ?c17 ?k17 ?a18 ?l18 ?c18 ?k18 ?a19 ?l19 ?c19 ?k19 ?a20 ?l20 ?c20 ?k20 ?a21 ?l21 ?c21 ?k21 ?a22 ?l22 ?c22 ?k22 ?a23 ?l23 ?c23 ?k23 ?a24 ?l24 ?c24 ?k24 ?a25 ?l25 ?c25 ?k25 ?a26 ?l26 ?c26 ?k26 ?a27 ?l27 ?c27 ?k27 ?a28 ?l28 ?c28 ?k28 ?a29 ?l29 ?c29 ?k29 ?a30 ?l30 ?c30 ?k30 ?z1 ?z2 ?z3 ?z4 ?z5 ?z6 ?z7 ?z8 ?z9 ?z10 ?z11 ?z12 ?z13 ?z14 ?z15 ?xV ?xM ?xS ?xL ?x1 ?x2 ?x3
    (case a1 => k_is); (case l1 => k_is); (case c1 => k_is); (case k1 => k_is)
    (case a2 => k_is); (case l2 => k_is); (case c2 => k_is); (case k2 => k_is)
    (case a3 => k_is); (case l3 => k_is); (case c3 => k_is); (case k3 => k_is)
    (case a4 => k_is); (case l4 => k_is); (case c4 => k_is); (case k4 => k_is)
    (case a5 => k_is); (case l5 => k_is); (case c5 => k_is); (case k5 => k_is)
    (case a6 => k_is); (case l6 => k_is); (case c6 => k_is); (case k6 => k_is)
    (case a7 => k_is); (case l7 => k_is); (case c7 => k_is); (case k7 => k_is)
    (case a8 => k_is); (case l8 => k_is); (case c8 => k_is); (case k8 => k_is)
    (case a9 => k_is); (case l9 => k_is); (case c9 => k_is); (case k9 => k_is)
    (case a10 => k_is); (case l10 => k_is); (case c10 => k_is); (case k10 => k_is)
    (case a11 => k_is); (case l11 => k_is); (case c11 => k_is); (case k11 => k_is)
    (case a12 => k_is); (case l12 => k_is); (case c12 => k_is); (case k12 => k_is)
    (case a13 => k_is); (case l13 => k_is); (case c13 => k_is); (case k13 => k_is)
    (case a14 => k_is); (case l14 => k_is); (case c14 => k_is); (case k14 => k_is)
    (case a15 => k_is); (case l15 => k_is); (case c15 => k_is); (case k15 => k_is)
    (case a16 => k_is); (case l16 => k_is); (case c16 => k_is); (case k16 => k_is)
    (case a17 => k_is); (case l17 => k_is); (case c17 => k_is); (case k17 => k_is)
    (case a18 => k_is); (case l18 => k_is); (case c18 => k_is); (case k18 => k_is)
    (case a19 => k_is); (case l19 => k_is); (case c19 => k_is); (case k19 => k_is)
    (case a20 => k_is); (case l20 => k_is); (case c20 => k_is); (case k20 => k_is)
    (case a21 => k_is); (case l21 => k_is); (case c21 => k_is); (case k21 => k_is)
    (case a22 => k_is); (case l22 => k_is); (case c22 => k_is); (case k22 => k_is)
    (case a23 => k_is); (case l23 => k_is); (case c23 => k_is); (case k23 => k_is)
    (case a24 => k_is); (case l24 => k_is); (case c24 => k_is); (case k24 => k_is)
    (case a25 => k_is); (case l25 => k_is); (case c25 => k_is); (case k25 => k_is)
    (case a26 => k_is); (case l26 => k_is); (case c26 => k_is); (case k26 => k_is)
    (case a27 => k_is); (case l27 => k_is); (case c27 => k_is); (case k27 => k_is)
    (case a28 => k_is); (case l28 => k_is); (case c28 => k_is); (case k28 => k_is)
    (case a29 => k_is); (case l29 => k_is); (case c29 => k_is); (case k29 => k_is)
    (case a30 => k_is); (case l30 => k_is); (case c30 => k_is); (case k30 => k_is)
    (case z1 => k_is); (case z2 => k_is); (case z3 => k_is); (case z4 => k_is)
    (case z5 => k_is); (case z6 => k_is); (case z7 => k_is); (case z8 => k_is)
    (case z9 => k_is); (case z10 => k_is); (case z11 => k_is); (case z12 => k_is)
    (case z13 => k_is); (case z14 => k_is); (case z15 => k_is); (case xV => k_is)
    (case xM => k_is); (case xS => k_is); (case xL => k_is); (case x1 => k_is)
    (case x2 => k_is); (case x3 => k_is)

