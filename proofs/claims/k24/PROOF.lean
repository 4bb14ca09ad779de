import PyProof.Rows.All
import Wide.All
import OpenK.AllK
import Wide.FinOn
import HandS.ForMost
import HandS.IsInst
import HandS.Style
import HandS.Set
import HandS.Strs
import HandS.SetBool
import HandS.SetFor
import PySem.Challenge.RW_ringproofs_k24_sayings_that_come_of_anot
import HandS.Zip
import HandS.Deep
import HandS.Flow
import PyProof.Rows.RegFStrParts
import HandS.TupAny
import HandS.Walk
import HandS.Steps
import HandS.Text
import PyProof.StrLaws
import KE.KUnpackStar
import HandS.Star
import HandS.FStr
import HandS.CallLocal
import HandS.Codes
import HandS.Conv
import KE.KDictPairs
import HandS.Nested
import HandS.TupMul
import HandS.More
import HandS.SortInts
import HandS.EndTab
import KE.KNest
set_option Elab.async false
set_option linter.all false
set_option maxRecDepth 100000
set_option maxHeartbeats 4000000
/-! Two rules that the layer lacks: a comprehension that makes a set of ints, and set(xs) of a list of ints whose table is known well enough to be sorted afterwards. -/
namespace Rp
open PySem PySem.Spec PyProof.Rows L2 PpSet

section addi
variable {X : Cx}
/-- an int goes into a tracked set of ints -/
theorem putInt {pins : List (Addr × Obj)} {σ : L2.St} {H : Hp} {s : Shared} {E : Value → Shared → Prop} {D : Addr} {S : Int → Bool} {n : Nat} {y : Int} {t : Tok} {Q : Value → Shared → Prop}
    (I : Inv X pins σ H s) (hD : H D = some (SetO X.w D S n)) (few : n + 1 < scanBound)
    (go : ∀ s', Inv X pins σ (upd H D (SetO X.w D (fun j => S j || decide (j = y)) (if S y = true then n else n + 1))) s' → Q .none s') :
    wpAny (model X.prog X.w) X.A (call (.builtin "set.add") [.ref D, .int y t]) Q E s :=
  setR_add (setO_get I hD) few fun h' same now =>
    have there : ∃ u, h'.get? D = some u := let ⟨o, _, _, _, ho, _⟩ := now; ⟨o, ho⟩
    go _ (I.write (e := D) (t' := s.toks + 1) (by rw [hD]; trivial) (.inl rfl) (fun b u ne hu => (same.2 b ne).trans hu) there (setO_new now))

/-- what {e for x in .. if ..} asks where e is an int -/
def tScI (w : World) (wi : TI) (g : TG) (tt : TT) (te : TE) (vs : List Nat) : TE := fun σ H Q => wi σ H fun J H1 => ∀ D, H1 D = none →
  ∃ W : Nat → Nat → Hp → Prop, (∃ m, W 0 m (upd H1 D (SetO w D (fun _ => false) 0))) ∧ ∀ i m H, W i m H → (J.stop i H ∧ Q (.ref D) H) ∨
    (J.go i H ∧ ∃ Nx : Hp → Prop, (∀ H', Nx H' → ∃ m', m' < m ∧ W (i + 1) m' H') ∧ ∀ x H', J.yld i H x H' → g x (wipe σ vs) H' fun σ2 H2 => wipe σ2 vs = wipe σ vs ∧
      tt σ2 H2 fun b H3 => if b = true then te σ2 H3 fun y H4 => ∃ (k : Int) (S : Int → Bool) (n : Nat), y = .int k ∧ H4 D = some (SetO w D S n) ∧ n + 1 < scanBound ∧
        Nx (upd H4 D (SetO w D (fun j => S j || decide (j = k)) (if S k = true then n else n + 1))) else Nx H3)

abbrev emptySet (w : World) : Obj := { cls := .type "set", dict := none, data := .set #[] 0 (.fresh 0 0 (!w.params.followText "set-order")) }

theorem pe_scI {elt tg iter : Expr} {ifs : List Expr} {scope : Scope} {own : List (PySem.Str × Nat)} {pos : Pos} {wi : TI} {g : TG} {tt : TT} {te : TE}
    (hc : X.calm = true) (hN : X.N.Nodup) (hi : PI X tg iter wi) (ok : BlkOk X.N X.env.scope scope own)
    (hg : ∀ (s : Shared) (H : Hp) (C : Addr) (cl : List (PySem.Str × Addr)) (fp : List Addr), PG (X.blk s H scope (compEnvC scope cl C X.env) fp) tg g)
    (ht : ∀ (s : Shared) (H : Hp) (C : Addr) (cl : List (PySem.Str × Addr)) (fp : List Addr), PTs (X.blk s H scope (compEnvC scope cl C X.env) fp) ifs tt)
    (he : ∀ (s : Shared) (H : Hp) (C : Addr) (cl : List (PySem.Str × Addr)) (fp : List Addr), PE (X.blk s H scope (compEnvC scope cl C X.env) fp) elt te)
    (hs : ∀ x, foldedSetIterable iter X.env x = pure x := by intro _; rfl) :
    PE X (.SetComp elt [⟨tg, iter, ifs, 0⟩] scope pos) (tScI X.w wi g tt te (own.map (·.2))) := by
  refine ⟨fun pins s σ H Q I h => ?_⟩
  rw [eval_SetComp]
  have caught : ∀ y ∈ scope.names, y.2 = .free → ∃ c, X.env.cells.lookup y.1 = some c := fun y hy e =>
    (ok.free y hy e).elim (fun k => I.ok.has _ (.inl k)) fun k => I.ok.has _ (.inr k)
  refine wpAny_comprehension_free (use := none) rfl hs (closure_ok caught) ok.kind (fun y hy e => (ok.uniq y hy).trans (by rw [e])) (thn (hi.run pins s σ H _ I h) fun xv s1 hx => thn hx fun itv s2 h2 => ?_)
  obtain ⟨it, fp, tn, J, H2, rfl, I2, T, st2, f2, q⟩ := h2
  refine newSet_ok (newEnv_comp ?_)
  -- the new set's place
  obtain ⟨D, hD⟩ : ∃ D, s2.heap.objs.size = D := ⟨_, rfl⟩
  rw [hD]
  obtain ⟨W, ⟨m0, w0⟩, turn⟩ := q D (I2.hok.fresh (Nat.le_of_eq hD))
  obtain ⟨s3, hs3⟩ : ∃ s3 : Shared, { s2 with heap := s2.heap.push (emptySet X.w) } = s3 := ⟨_, rfl⟩
  have h3 : s3.heap = s2.heap.push (emptySet X.w) := by rw [← hs3]
  have I3 : Inv X pins σ (upd H2 D (SetO X.w D (fun _ => false) 0)) s3 := by
    have z := I2.laid (a := D) (o := SetO X.w D (fun _ => false) 0) (t' := s2.toks) (h' := s2.heap.push (emptySet X.w)) (fun b o e => Heap.get?_push_of_some _ e) (Nat.le_of_eq hD) (by rw [← hD]; exact setO_new (setR_fresh X.w))
    exact hs3 ▸ z
  have low : ∀ b ∈ fp, b < s2.heap.objs.size := fun b hb => let ⟨o, e, _⟩ := T.obj _ _ st2 b hb; Heap.lt_size e
  have f3 : ∀ b ∈ fp, FpOk X pins (upd H2 D (SetO X.w D (fun _ => false) 0)) b ∧ b < s3.heap.objs.size := fun b hb =>
    ⟨⟨(upd_ne (by rw [← hD]; exact Nat.ne_of_lt (low b hb))).trans (f2 b hb).1, (f2 b hb).2⟩, by rw [h3, Heap.size_push]; exact Nat.lt_succ_of_lt (low b hb)⟩
  have st3 : tn 0 s3.heap := T.keep _ _ _ st2 fun b _ o e => h3 ▸ Heap.get?_push_of_some _ e
  have I4 := block_start I3 ok hN f3
  obtain ⟨H3, hH3⟩ : ∃ H3, upd H2 D (SetO X.w D (fun _ => false) 0) = H3 := ⟨_, rfl⟩
  rw [hH3] at I3 f3 I4 w0
  obtain ⟨C, hC⟩ : ∃ C, s3.heap.objs.size = C := ⟨_, rfl⟩
  rw [hC] at I4
  have pg := hg s3 H3 C (cellsFrom (C + 1) scope.names (cloFrom X.env.cells scope.names [])) fp
  have pt := ht s3 H3 C (cellsFrom (C + 1) scope.names (cloFrom X.env.cells scope.names [])) fp
  have pe := he s3 H3 C (cellsFrom (C + 1) scope.names (cloFrom X.env.cells scope.names [])) fp
  subst hs3
  have hC' : (s2.heap.push (emptySet X.w)).objs.size = C := hC
  show codeAny _ _ (.compStart (.SetComp elt [⟨tg, iter, ifs, 0⟩] scope pos) 0 (.ref it) (.ref D) (compEnvC scope (cellsFrom ((s2.heap.push (emptySet X.w)).objs.size + 1) scope.names (cloFrom X.env.cells scope.names [])) (s2.heap.push (emptySet X.w)).objs.size X.env))
    (compPost (model X.prog X.w) X.A X.xe none (EP X pins σ Q) (.ref D) (s2.heap.push (emptySet X.w)).objs.size) { s2 with heap := pushCells ((s2.heap.push (emptySet X.w)).push { cls := .type "dict", data := .dict #[] }) scope.names }
  rw [hC']
  obtain ⟨ce, hce⟩ : ∃ ce, compEnvC scope (cellsFrom (C + 1) scope.names (cloFrom X.env.cells scope.names [])) C X.env = ce := ⟨_, rfl⟩
  rw [hce] at I4 pg pt pe ⊢
  have cL : ce.locals = C := by subst hce; rfl
  obtain ⟨s4, hs4⟩ : ∃ s4 : Shared, { s2 with heap := pushCells ((s2.heap.push (emptySet X.w)).push { cls := .type "dict", data := .dict #[] }) scope.names } = s4 := ⟨_, rfl⟩
  have I4 : Inv (X.blk _ H3 scope ce fp) [] (wipe σ (own.map (·.2))) H3 s4 := hs4 ▸ I4
  rw [hs4]
  have st4 : tn 0 s4.heap := T.keep _ _ _ st3 fun b _ o e => by rw [← hs4]; exact pushCells_keeps _ _ _ _ (Heap.get?_push_of_some _ e)
  obtain ⟨Y, hY⟩ : ∃ Y, X.blk { s2 with heap := s2.heap.push (emptySet X.w) } H3 scope ce fp = Y := ⟨_, rfl⟩
  have rest : ∀ {σ' : L2.St} {H' : Hp} {s' : Shared}, Inv Y [] σ' H' s' → (∀ b ∈ fp, H' b = none) → ∀ b ∈ fp, FpOk Y [] H' b := by
    subst hY
    intro σ' H' s' I' hn b hb
    exact ⟨hn b hb, (I'.ok.exf b hb).1, I'.ok.exfs b hb, .inl hb, fun x c e => (I'.ok.exf b hb).2 x c e, fun p hp => absurd (show p ∈ ([] : List (Addr × Obj)) ++ [] from hp) (by simp)⟩
  have round : codeAny (model X.prog X.w) X.A (.compLoop (.SetComp elt [⟨tg, iter, ifs, 0⟩] scope pos) 0 (.ref it) (.ref D) ce) (compPost (model X.prog X.w) X.A X.xe none (EP X pins σ Q) (.ref D) C) s4 := by
    refine compLoopS_any (fun n s' => ∃ i H', Inv Y [] (wipe σ (own.map (·.2))) H' s' ∧ tn i s'.heap ∧ (∀ b ∈ fp, H' b = none) ∧ W i n H') ?_ m0 ⟨0, H3, hY ▸ I4, st4, fun b hb => (f3 b hb).1.1, w0⟩
    rintro n s5 ⟨i, H5, I5, st5, n5, w5⟩
    rcases turn i n H5 w5 with ⟨stop, qq⟩ | ⟨go, Nx, hNx, step⟩
    · subst hY
      refine thnF (T.done (X.blk _ H3 scope ce fp) rfl rfl rfl hc i [] s5 _ H5 (fun _ _ => False) I5 (rest I5 n5) st5 stop) fun r s6 ⟨hr, I6⟩ => ?_
      subst hr
      have I7 : Inv X pins σ H5 s6 := I3.call' (ch := fp) I6.os I6.base I6.hok I6.bare fun b hb => ⟨(f3 b hb).1.2.2.2.1, (f3 b hb).1.2.1, (f3 b hb).1.2.2.2.2.1, (f3 b hb).1.2.2.2.2.2⟩
      have nC : H5 C = none := cL ▸ (show H5 ce.locals = none from I6.free)
      obtain ⟨m, hn, _⟩ := I6.loc
      have hn : s6.heap.Ns C m := cL ▸ (show s6.heap.Ns ce.locals m from hn)
      refine ⟨m, hn, fun h'' sb => ?_⟩
      obtain ⟨g0, g1, g2, g3, g4, g5⟩ := I3.fpOk (Nat.le_of_eq hC) nC
      exact ⟨.ref D, H5, I7.turned (t' := s6.toks) (fun b o hb e => (sb.2 b hb).trans e) g0 g1 g3 g4 g5, rfl, qq⟩
    · have ti := T.item Y (by subst hY; rfl) (by subst hY; rfl) (by subst hY; rfl) (by subst hY; exact hc) i [] s5 _ H5 (fun _ _ => False) I5 (rest I5 n5) st5 go
      subst hY
      refine thnF ti fun r s6 ⟨u, hr, h6⟩ => ?_
      subst hr
      refine thnF h6 fun _ s7 ⟨x, H7, I7, r7, y7, st7, n7⟩ => ?_
      refine thnF (pg.run _ s7 _ H7 x u _ (I7.pinned (rest I7 n7) (T.obj _ _ st7)) r7 (step x H7 y7)) fun _ s8 ⟨σ8, H8, I8, hw8, q8⟩ => ?_
      refine thnF (pt.run _ s8 σ8 H8 _ I8 q8) fun b s9 ⟨H9, I9, q9⟩ => ?_
      have turned : ∀ {s' : Shared} {H' : Hp}, Inv (X.blk { s2 with heap := s2.heap.push (emptySet X.w) } H3 scope ce fp) ([] ++ pinsAt fp s7.heap) σ8 H' s' → Nx H' → ∃ m, m < n ∧ ∃ i H', Inv (X.blk { s2 with heap := s2.heap.push (emptySet X.w) } H3 scope ce fp) [] (wipe σ (own.map (·.2))) H' s' ∧ tn i s'.heap ∧ (∀ b ∈ fp, H' b = none) ∧ W i m H' := by
        intro s' H' I' nx
        obtain ⟨m', hm, w'⟩ := hNx H' nx
        have pin : ∀ b ∈ fp, ∀ o, s7.heap.get? b = some o → s'.heap.get? b = some o ∧ H' b = none := fun b hb o e =>
          let z := I'.pin (b, o) (List.mem_append_right _ (List.mem_append_right _ (mem_pinsAt hb e))); ⟨z.1, z.2.1⟩
        refine ⟨m', hm, i + 1, H', (I'.unpinned (pins := [])).weak (by rw [← hw8, wipe_length]) (fun j v e => (wipe_some (by rw [hw8]; exact e)).1), T.keep _ _ _ st7 fun b hb o e => (pin b hb o e).1, fun b hb => ?_, w'⟩
        obtain ⟨o, e, _⟩ := T.obj _ _ st7 b hb
        exact (pin b hb o e).2
      cases b with
      | false => simp only [Bool.false_eq_true, if_false] at q9 ⊢; exact turned I9 q9
      | true =>
        simp only [if_true] at q9 ⊢
        refine thnF (pe.run _ s9 σ8 H9 _ I9 q9) fun z s10 ⟨yv, H10, I10, r10, k, S0, n0, ey, hD10, few, nx⟩ => ?_
        subst ey
        obtain ⟨t, rfl⟩ := r10
        exact putInt (X := X.blk _ H3 scope ce fp) I10 hD10 few fun s11 I11 => turned I11 nx
  exact codeAny_compStart_set round (T.self X.A 0 _ _ _ st4 round)

/-- the walk over a list that the block leaves as it is -/
theorem scI_list {w : World} {K : PySem.W.Frag} {a : Addr} {xs : List V} {g : TG} {tt : TT} {te : TE} {vs : List Nat} {σ : L2.St} {H1 : Hp} {D : Addr} {Qd : Hp → Prop}
    (Pv : Nat → Hp → Prop) (h0 : Pv 0 (upd H1 D (SetO w D (fun _ => false) 0))) (hl : ∀ i H, i ≤ xs.length → Pv i H → SqL K H a xs)
    (hs : ∀ i x H, xs[i]? = some x → Pv i H → g x (wipe σ vs) H fun σ2 H2 => wipe σ2 vs = wipe σ vs ∧ tt σ2 H2 fun b H3 => if b = true then te σ2 H3 fun y H4 =>
      ∃ (k : Int) (S : Int → Bool) (n : Nat), y = .int k ∧ H4 D = some (SetO w D S n) ∧ n + 1 < scanBound ∧ Pv (i + 1) (upd H4 D (SetO w D (fun j => S j || decide (j = k)) (if S k = true then n else n + 1))) else Pv (i + 1) H3)
    (hd : ∀ H, Pv xs.length H → Qd H) :
    ∃ W : Nat → Nat → Hp → Prop, (∃ m, W 0 m (upd H1 D (SetO w D (fun _ => false) 0))) ∧ ∀ i m H, W i m H → ((Itl K a).stop i H ∧ Qd H) ∨
      ((Itl K a).go i H ∧ ∃ Nx : Hp → Prop, (∀ H', Nx H' → ∃ m', m' < m ∧ W (i + 1) m' H') ∧ ∀ x H', (Itl K a).yld i H x H' → g x (wipe σ vs) H' fun σ2 H2 => wipe σ2 vs = wipe σ vs ∧
        tt σ2 H2 fun b H3 => if b = true then te σ2 H3 fun y H4 => ∃ (k : Int) (S : Int → Bool) (n : Nat), y = .int k ∧ H4 D = some (SetO w D S n) ∧ n + 1 < scanBound ∧
          Nx (upd H4 D (SetO w D (fun j => S j || decide (j = k)) (if S k = true then n else n + 1))) else Nx H3) := by
  refine ⟨fun i m H => m + i = xs.length ∧ Pv i H, ⟨xs.length, by simp, h0⟩, ?_⟩
  rintro i m H ⟨em, p⟩
  have here := hl i H (by omega) p
  rcases Nat.lt_or_ge i xs.length with lt | ge
  · refine .inr ⟨⟨xs, xs[i], here, by simp [lt]⟩, Pv (i + 1), fun H' p' => ⟨m - 1, by omega, by omega, p'⟩, fun x H' ⟨e, y⟩ => ?_⟩
    subst e
    exact hs i x _ (y xs here) p
  · have e : i = xs.length := by omega
    subst e
    exact .inl ⟨⟨xs, here, Nat.le_refl _⟩, hd H p⟩
end addi
end Rp

namespace Rp
open PySem PySem.Spec PyProof.Rows L2 PpSet
section
variable {P : Program} {w : World} {A : Around} {E : Value → Shared → Prop} {s : Shared}
set_option maxHeartbeats 6400000 in
theorem set_of_list {l : Addr} {items : Array Value} (ns : List Int) {Q : Value → Shared → Prop} (calm : A.handled = none) (hl : s.heap.IsList l items) (hi : IntsAre items.toList ns) (few : ns.length + 1 < scanBound)
    (go : ∀ (h' : Heap) (tk c : Nat), SetR w h' s.heap.objs.size (fun j => decide (j ∈ ns)) c → c ≤ ns.length → (∀ b o, s.heap.get? b = some o → h'.get? b = some o) → Q (.ref s.heap.objs.size) { s with heap := h', toks := tk }) :
    wpAny (model P w) A (call (.type "set") [.ref l]) Q E s := by
  have cnt : items.size = ns.length := by have q := IntsAre.length hi; rwa [Array.length_toList] at q
  obtain ⟨c, tl, hmro⟩ := F.called_set.mro
  have hmade := F.called_set.made
  have hsub := F.called_set.sub
  refine wpAny_call (codeAny_of_tree ?_)
  show wpAny _ _ (callAny (.type "set") _) _ _ _
  refine wpAny_pure ⟨Code.quiet_builtin _ (by decide +kernel), codeAny_builtin F.entry_type_call ?_⟩
  rw [Around.under_plain (weight_type_call_type "set" [.ref l] []) rfl]
  have h1 := F.called_set.notType
  have h2 := F.called_set.canCreate
  have hct := F.typeCall_set_1 (.ref l)
  repeat (any_goals (first | assumption | wp_step))
  refine codeAny_mono (code_set_led1 (.ref l) (E := E) (Q₁ := fun obj z => obj = .ref s.heap.objs.size ∧ z = { s with heap := s.heap.push (emptySet w) }) ⟨rfl, rfl⟩) fun r s₁ hr => ?_
  cases r with
  | error e => exact hr
  | ok fl =>
    cases fl with
    | ret obj =>
      obtain ⟨rfl, rfl⟩ := hr
      have atNew : (s.heap.push (emptySet w)).get? s.heap.objs.size = some (emptySet w) := Heap.get?_push_size _ rfl
      have hT : Shared.TypeIs { s with heap := s.heap.push (emptySet w) } (.ref s.heap.objs.size) "set" := ⟨_, atNew, rfl⟩
      have hli := F.called_set.init.lookup
      have hbi := F.called_set.init.bind (.ref s.heap.objs.size)
      repeat (any_goals (first | assumption | wp_step))
      refine codeAny_mono (codeAny_call_builtin (R := wants (fun r z => r = .none ∧ ∃ h' tk c, z = { s with heap := h', toks := tk } ∧ SetR w h' s.heap.objs.size (fun j => decide (j ∈ ns)) c ∧ c ≤ ns.length ∧
        (∀ b o, s.heap.get? b = some o → h'.get? b = some o)) E) F.called_set.init.plain F.entry_set_init (check_set_init_1 hT ?_)) fun r₂ s₂ hr₂ => ?_
      · obtain ⟨⟨ocls, odict, odata, oslots⟩, hol, hcl, nl, hdl⟩ := hl
        simp only at hcl hdl
        subst hcl hdl
        have hol' : (s.heap.push (emptySet w)).get? l = some { cls := .type "list", dict := odict, data := .seq items nl, slots := oslots } := Heap.get?_push_of_some _ hol
        have hsls := F.sub_list_set
        have hslf := F.sub_list_frozenset
        have hne : (Value.type "list" == Value.type "dict") = false := by decide
        have here : (s.heap.push (emptySet w)).IsList l items := ⟨_, hol', rfl, nl, rfl⟩
        unfold Builtin.«set.__init__» noKeywords Builtin.Frozenset.updateFrom
        generalize hPI : pyIter = PI
        wp_walk
        subst hPI
        refine wpAny_pyIter_list here (wpAny_bind (wpAny_runValue ?_))
        have below : l < s.heap.objs.size := Heap.lt_size hol
        have top : (s.heap.push (emptySet w)).objs.size = s.heap.objs.size + 1 := Heap.size_push ..
        have apart : l ≠ (s.heap.push (emptySet w)).objs.size := by rw [top]; exact Nat.ne_of_lt (Nat.lt_succ_of_lt below)
        have out : s.heap.objs.size ∉ [(s.heap.push (emptySet w)).objs.size, l] := by
          simp only [List.mem_cons, List.not_mem_nil, or_false, not_or, top]
          exact ⟨Nat.ne_of_lt (Nat.lt_succ_self _), Nat.ne_of_gt below⟩
        have each : ∀ (i : Nat) (v : Value), items[i]? = some v → ∃ k t, ns[i]? = some k ∧ v = .int k t := by
          intro i v hv
          have lt : i < ns.length := by rw [← cnt]; exact (Array.getElem?_eq_some_iff.mp hv).1
          obtain ⟨t, e⟩ := PyProof.Rows.IntsAre.int_at hi i v (by rw [Array.getElem?_toList]; exact hv)
          exact ⟨ns[i], t, List.getElem?_eq_getElem lt, by rw [e, List.getD_eq_getElem?_getD, List.getElem?_eq_getElem lt]; rfl⟩
        refine set_update_ints ((Walks.list (by simp [calm]) _ l apart items).toS) s.heap.objs.size out ns cnt few each (items.size - 0) 0 _ (by omega) (Nat.zero_le _)
          ⟨⟨_, Heap.get?_push_size _ rfl, rfl, rfl⟩, here.push _⟩ ⟨0, Nat.le_refl 0, setR_new_at (Heap.get?_push_of_some _ atNew)⟩ fun s' c' hm hc' hS' => ?_
        obtain ⟨h', g2, d', tk', os'⟩ := s'
        have eg : g2 = s.gens := hm.gens
        have ed : d' = s.drawn := hm.drawn
        have eo : os' = s.os := hm.os
        subst eg ed eo
        show wpAny _ _ _ _ _ _
        refine wpAny_pure ?_
        show wpAny _ _ (ret Value.none) _ _ _
        refine wpAny_pure ⟨rfl, h', tk', c', rfl, hS', by omega, fun b o e => ?_⟩
        have lt := Heap.lt_size e
        exact hm.heap b o (by simp only [List.mem_cons, List.not_mem_nil, or_false, not_or, top]; exact ⟨Nat.ne_of_lt lt, Nat.ne_of_lt (Nat.lt_succ_of_lt lt)⟩) (Heap.get?_push_of_some _ (Heap.get?_push_of_some _ e))
      · cases r₂ with
        | error e => exact hr₂
        | ok fl₂ =>
          cases fl₂ with
          | ret r =>
            obtain ⟨rfl, h', tk, c', rfl, hS', hc', hk'⟩ := hr₂
            repeat (any_goals (first | assumption | wp_step))
            exact go _ _ _ hS' hc' hk'
          | _ => exact hr₂.elim
    | _ => exact hr.elim
end
section
variable {X : Cx}
theorem intsOf : ∀ {ns : List Int} {us : List Value}, Vals (ns.map V.int) us → PyProof.Rows.IntsAre us ns
  | [], _, .nil => .nil
  | n :: ns, _, .cons ⟨k, e⟩ t => by subst e; exact .cons n k (intsOf t)
/-- set(xs), xs a list of ints -/
def rSetI (K : PySem.W.Frag) (w : World) : List V → Hp → VK → Prop := fun vs H Q => ∃ (a : Addr) (ns : List Int), vs = [V.ref a] ∧ SqL K H a (ns.map V.int) ∧ ns.length < 1000 ∧
  ∀ (p : Addr) (c : Nat), H p = none → c ≤ ns.length → Q (.ref p) (upd H p (SetO w p (fun j => decide (j ∈ ns)) c))
theorem cr_setI (hc : X.calm = true) : CallR X (.type "set") (rSetI X.K X.w) := by
  intro pins s σ H vs us Q I r h
  obtain ⟨a, ns, rfl, hs, hn, q⟩ := h
  rw [Vals.ref1 r]
  obtain ⟨its, rv, pl, hz⟩ := I.list hs
  refine set_of_list ns (I.ok.hd hc) pl.isList (by simpa using intsOf rv) (by unfold scanBound; omega) fun h' tk c R hc' k => ?_
  have hn : H s.heap.objs.size = none := I.hok.fresh (Nat.le_refl _)
  exact ⟨.ref _, upd H s.heap.objs.size (SetO X.w s.heap.objs.size (fun j => decide (j ∈ ns)) c), I.laid (t' := tk) k (Nat.le_refl _) (setO_new R), rfl, q _ c hn hc'⟩
end
end Rp

namespace Rp
open PySem L2
/-! ### TERMs -/
inductive Tm where
  | v (n : Int) | z | s (t : Tm) | f (l r : Tm)
  deriving DecidableEq
namespace Tm
def size : Tm → Nat
  | v _ => 1 | z => 1 | s t => t.size + 1 | f l r => l.size + r.size + 1
def deep : Tm → Nat
  | v _ => 0 | z => 0 | s t => t.deep + 1 | f l r => max l.deep r.deep + 1
def nums : Tm → List Int
  | v n => [n] | z => [] | s t => t.nums | f l r => l.nums ++ r.nums
/-- all parts, the whole first, the right-hand ones ahead of the left-hand ones -/
def rpost : Tm → List Tm
  | v n => [v n] | z => [z] | s t => s t :: t.rpost | f l r => f l r :: (r.rpost ++ l.rpost)
def kids : Tm → List Tm
  | v _ => [] | z => [] | s t => [t] | f l r => [l, r]
theorem size_pos : ∀ t : Tm, 1 ≤ t.size
  | v _ => Nat.le_refl _ | z => Nat.le_refl _ | s _ => by unfold size; omega | f _ _ => by unfold size; omega
theorem deep_lt : ∀ t : Tm, t.deep < t.size
  | v _ => Nat.zero_lt_one | z => Nat.zero_lt_one | s t => by have := deep_lt t; unfold deep size; omega
  | f l r => by have := deep_lt l; have := deep_lt r; unfold deep size; omega
theorem rpost_len : ∀ t : Tm, t.rpost.length = t.size
  | v _ => rfl | z => rfl | s t => by unfold rpost size; rw [List.length_cons, rpost_len t]
  | f l r => by unfold rpost size; rw [List.length_cons, List.length_append, rpost_len l, rpost_len r]; omega
/-- an int among the parts -/
theorem mem_rpost (n : Int) : ∀ t : Tm, v n ∈ t.rpost ↔ n ∈ t.nums
  | v m => by unfold rpost nums; simp
  | z => by unfold rpost nums; simp
  | s t => by unfold rpost nums; have := mem_rpost n t; simp [this]
  | f l r => by unfold rpost nums; have := mem_rpost n l; have := mem_rpost n r; simp [*]; exact Or.comm
theorem rpost_kids (t : Tm) : t.rpost = t :: (t.kids.reverse.flatMap rpost) := by
  cases t <;> simp [rpost, kids]
theorem kids_size (t : Tm) : (t.kids.map size).sum + 1 = t.size := by
  cases t <;> simp [kids, size] <;> omega
theorem nums_len : ∀ t : Tm, t.nums.length ≤ t.size
  | v _ => Nat.le_refl _ | z => Nat.zero_le _ | s t => by have := nums_len t; unfold nums size; omega
  | f l r => by have := nums_len l; have := nums_len r; unfold nums size; rw [List.length_append]; omega
/-- all signs, as law's leaves has them -/
def signs : Tm → List V
  | v n => [.int n] | z => [.str "0"] | s t => .str "s" :: t.signs | f l r => .str "f" :: (l.signs ++ r.signs)
theorem signs_len : ∀ t : Tm, t.signs.length = t.size
  | v _ => rfl | z => rfl | s t => by unfold signs size; rw [List.length_cons, signs_len t]
  | f l r => by unfold signs size; rw [List.length_cons, List.length_append, signs_len l, signs_len r]
end Tm
/-- the ints of a row of ints and texts -/
def rowInts : List V → List Int
  | [] => []
  | .int n :: r => n :: rowInts r
  | _ :: r => rowInts r
theorem rowInts_append : ∀ a b : List V, rowInts (a ++ b) = rowInts a ++ rowInts b
  | [], b => rfl
  | x :: r, b => by cases x <;> simp [rowInts, rowInts_append r b]
theorem signs_nums : ∀ t : Tm, rowInts t.signs = t.nums
  | .v _ => rfl | .z => rfl | .s t => by simp [Tm.signs, Tm.nums, rowInts, signs_nums t]
  | .f l r => by simp [Tm.signs, Tm.nums, rowInts, rowInts_append, signs_nums l, signs_nums r]
/-- a row of ints and texts -/
def Flat2 : V → Prop
  | .int _ => True
  | .str _ => True
  | _ => False
theorem signs_flat : ∀ t : Tm, ∀ x ∈ t.signs, Flat2 x
  | .v _, x, h => by simp [Tm.signs] at h; subst h; trivial
  | .z, x, h => by simp [Tm.signs] at h; subst h; trivial
  | .s t, x, h => by
    simp only [Tm.signs, List.mem_cons] at h
    rcases h with h | h
    · subst h; trivial
    · exact signs_flat t x h
  | .f l r, x, h => by
    simp only [Tm.signs, List.mem_cons, List.mem_append] at h
    rcases h with h | h | h
    · subst h; trivial
    · exact signs_flat l x h
    · exact signs_flat r x h
/-! ### two rising rows of the same ints are one -/
theorem rising_one : ∀ {a b : List Int}, a.Pairwise (· < ·) → b.Pairwise (· < ·) → (∀ k, k ∈ a ↔ k ∈ b) → a = b
  | [], [], _, _, _ => rfl
  | [], y :: b, _, _, h => by have := (h y).2 (by simp); simp at this
  | x :: a, [], _, _, h => by have := (h x).1 (by simp); simp at this
  | x :: a, y :: b, ha, hb, h => by
    rw [List.pairwise_cons] at ha hb
    have exy : x = y := by
      rcases List.mem_cons.mp ((h x).1 (by simp)) with e | e
      · exact e
      · rcases List.mem_cons.mp ((h y).2 (by simp)) with e' | e'
        · exact e'.symm
        · have := hb.1 x e
          have := ha.1 y e'
          omega
    subst exy
    rw [rising_one ha.2 hb.2 fun k => ?_]
    constructor
    · intro hk
      rcases List.mem_cons.mp ((h k).1 (List.mem_cons_of_mem _ hk)) with e | e
      · have := ha.1 k hk; omega
      · exact e
    · intro hk
      rcases List.mem_cons.mp ((h k).2 (List.mem_cons_of_mem _ hk)) with e | e
      · have := hb.1 k hk; omega
      · exact e
/-! ### heaps -/
/-- all but b stays -/
def But (b : Addr) (H H' : Hp) : Prop := ∀ c o, H c = some o → c ≠ b → H' c = some o
theorem But.refl (b : Addr) (H : Hp) : But b H H := fun _ _ h _ => h
theorem But.trans {b : Addr} {H H1 H2 : Hp} (x : But b H H1) (y : But b H1 H2) : But b H H2 := fun c o h n => y c o (x c o h n) n
theorem but_of {b : Addr} {H H' : Hp} (x : Same H H') : But b H H' := fun c o h _ => x c o h
theorem same_new {H : Hp} {p : Addr} (h : H p = none) (o : HO) : Same H (upd H p o) := fun b u q => by rw [upd_ne (ne_of_none q h)]; exact q
theorem but_upd {H : Hp} {b : Addr} (o : HO) : But b H (upd H b o) := fun c u h n => by rw [upd_ne n]; exact h
/-- the box of draws: j bounds how often it was drawn from -/
structure BoxAt (H : Hp) (b : Addr) (j : Nat) : Prop where
  ex : ∃ x y z : Int, H b = some (.lst [.int x, .int y, .int z]) ∧ 0 ≤ x ∧ 0 ≤ y ∧ y < 10000000000 ∧ 0 ≤ z ∧ z ≤ (j : Int)
theorem BoxAt.same {H H' : Hp} {b : Addr} {j : Nat} (B : BoxAt H b j) (e : Same H H') : BoxAt H' b j := by
  obtain ⟨x, y, z, h, r⟩ := B.ex
  exact ⟨x, y, z, e _ _ h, r⟩
theorem BoxAt.more {H : Hp} {b : Addr} {j k : Nat} (B : BoxAt H b j) (h : j ≤ k) : BoxAt H b k := by
  obtain ⟨x, y, z, e, h1, h2, h3, h4, h5⟩ := B.ex
  exact ⟨x, y, z, e, h1, h2, h3, h4, by omega⟩
theorem BoxAt.some {H : Hp} {b : Addr} {j : Nat} (B : BoxAt H b j) : ∃ xs, H b = some (.lst xs) := by
  obtain ⟨x, y, z, e, _⟩ := B.ex
  exact ⟨_, e⟩
/-- a TERM stands as the value v -/
inductive TmAt (H : Hp) : V → Tm → Prop where
  | v (n : Int) : TmAt H (.int n) (.v n)
  | z {a : Addr} (h : H a = some (.tup [.str "0"])) : TmAt H (.ref a) .z
  | s {a : Addr} {x : V} {t : Tm} (h : H a = some (.tup [.str "s", x])) (q : TmAt H x t) : TmAt H (.ref a) (.s t)
  | f {a : Addr} {x y : V} {l r : Tm} (h : H a = some (.tup [.str "f", x, y])) (q : TmAt H x l) (q' : TmAt H y r) : TmAt H (.ref a) (.f l r)
theorem TmAt.mono {H H' : Hp} (e : ∀ a xs, H a = some (.tup xs) → H' a = some (.tup xs)) {v : V} {t : Tm} (h : TmAt H v t) : TmAt H' v t := by
  induction h with
  | v n => exact .v n
  | z h => exact .z (e _ _ h)
  | s h _ ih => exact .s (e _ _ h) ih
  | f h _ _ ih ih' => exact .f (e _ _ h) ih ih'
theorem TmAt.same {H H' : Hp} (e : Same H H') {v : V} {t : Tm} (h : TmAt H v t) : TmAt H' v t := h.mono fun a xs q => e a _ q
theorem TmAt.but {H H' : Hp} {b : Addr} {ys : List V} (e : But b H H') (hb : H b = some (.lst ys)) {v : V} {t : Tm} (h : TmAt H v t) : TmAt H' v t :=
  h.mono fun a xs q => e a _ q (ne_of q hb (by intro z; cases z))
/-! ### what is alike, kind by kind (to a depth) -/
def Plain : V → Prop
  | .non => True
  | .bl _ => True
  | .int _ => True
  | .str _ => True
  | _ => False
def Alike (H : Hp) : Nat → V → V → Prop
  | 0, x, y => Plain x ∧ x = y
  | n + 1, x, y => (Plain x ∧ x = y) ∨ ∃ a b xs ys, x = .ref a ∧ y = .ref b ∧ ((H a = some (.lst xs) ∧ H b = some (.lst ys)) ∨ (H a = some (.tup xs) ∧ H b = some (.tup ys))) ∧
      xs.length = ys.length ∧ xs.length ≤ 1000000 ∧ ∀ (i : Nat) (u v : V), xs[i]? = some u → ys[i]? = some v → Alike H n u v
theorem Alike.mono {H H' : Hp} (e : Same H H') : ∀ (n : Nat) {x y : V}, Alike H n x y → Alike H' n x y
  | 0, _, _, h => by unfold Alike at h ⊢; exact h
  | n + 1, x, y, h => by
    unfold Alike at h ⊢
    rcases h with h | ⟨a, b, xs, ys, h1, h2, h3, h4, h5, h6⟩
    · exact .inl h
    · exact .inr ⟨a, b, xs, ys, h1, h2, h3.imp (fun q => ⟨e _ _ q.1, e _ _ q.2⟩) (fun q => ⟨e _ _ q.1, e _ _ q.2⟩), h4, h5, fun i u v p q => Alike.mono e n (h6 i u v p q)⟩
theorem alike_ints {H : Hp} {n : Nat} {a b : Addr} {ns : List Int} (ha : H a = some (.lst (ns.map V.int))) (hb : H b = some (.lst (ns.map V.int))) (hl : ns.length ≤ 1000000) : Alike H (n + 1) (.ref a) (.ref b) := by
  unfold Alike
  refine .inr ⟨a, b, _, _, rfl, rfl, .inl ⟨ha, hb⟩, rfl, by rw [List.length_map]; exact hl, fun i u v h1 h2 => ?_⟩
  have e : u = v := Option.some.inj (h1.symm.trans h2)
  subst e
  rw [List.getElem?_map] at h1
  cases q : ns[i]? with
  | none => rw [q] at h1; cases h1
  | some k =>
    rw [q] at h1
    cases h1
    cases n with
    | zero => unfold Alike; exact ⟨trivial, rfl⟩
    | succ n => unfold Alike; exact .inl ⟨trivial, rfl⟩
end Rp

/-! Defs whose body asks for the repr of lists and tuples: their promise is kept where no repr is at work (the around's guards are told to be none), and so where the law itself is called. -/
namespace Rp
open PySem PySem.Spec PyProof.Rows L2
structure GnOk (P : Program) (w : World) (K : PySem.W.Frag) (mg : Str → Option Value) (base : Heap) (k : Nat) (f : Addr) (fd : FuncData) (ps : List Str) (sp : Sp) : Prop where
  len : ∀ vs H Q E, sp vs H Q E → vs.length = ps.length
  run : ∀ (A : Around) (outer : List Env) (s : Shared) (H : Hp) (args : Args) (us : List Value) (vs : List V) (Q : VK) (E : XK), A.guards = some [] → Room k A → Env0 P w K mg base A outer s H → BindsTo s fd args (ps.zip us) → Vals vs us → sp vs H Q E →
    codeAny (model P w) A (.call (.ref f) args) (CR CX0 outer P w H s Q E) s
section
variable {P : Program} {w : World} {K : PySem.W.Frag} {mg : Str → Option Value} {base : Heap}
/-- a def by its body, the guards told -/
theorem gok {x qual : Str} {st : Stmt} {f : Addr} {fd : FuncData} {N ps : List Str} {k : Nat} {sp : Sp} (F : Fun K x qual st f fd) (S : FnScope N ps (defScope st)) (len : ∀ vs H Q E, sp vs H Q E → vs.length = ps.length)
    (walk : ∀ (cdv : Value) (A : Around) (outer : List Env) (s : Shared) (H : Hp) (vs : List V) (Q : VK) (E : XK), A.guards = some [] → Room k (A.deeper (envOfC qual (defScope st) s.heap.objs.size f cdv)) → sp vs H Q E →
      ∃ t, PSs (cxOf CX0 P w K mg base N qual (defScope st) f cdv A outer s H E).nox (defBody st) t ∧ t { nx := fun _ H' => Q .non H', rt := Q } (start N vs) H) : GnOk P w K mg base (k + 1) f fd ps sp := by
  obtain ⟨oc, od, kV, doc, pm, an, cdv, ct, osl, rfl, lk, hcd⟩ := F.ex
  refine ⟨len, fun A outer s H args us vs Q E hg hr e0 hb r hsp => ?_⟩
  have K0 : K.In s.heap := e0.mod.kin.keeps fun b o e => (e0.bs b o e).1
  have L0 : s.heap.NoLimit := e0.mod.nolimit.keeps fun b o e => (e0.bs b o e).1
  have each : ∀ y ∈ ps.zip us, (defScope st).names.lookup y.1 = some .local ∨ ((defScope st).names.lookup y.1 = some .cell ∧ ((cellsFrom (s.heap.objs.size + 1) (defScope st).names []).lookup y.1).isSome = true) := by
    rintro ⟨n, v⟩ hy
    exact (S.par n (List.of_mem_zip hy).1).imp id fun q => ⟨q, PySem.W.cellsFrom_some _ _ _ (.inl q)⟩
  refine codeAny_call_function hr.depth (K0 _ _ lk) rfl S.co S.gen rfl (PySem.W.codeRec_of K0 hcd) (hb _ _ _ _ (wpAny_newFunctionEnv_cells S.kind each fun env he s1 z => ?_))
  subst he
  refine ⟨L0.keeps z.toInCall.keep, codeAny_func ?_⟩
  obtain ⟨t, ht, hq⟩ := walk cdv A outer s H vs Q E hg (hr.deeper _) hsp
  have I : L2.Inv (cxOf CX0 P w K mg base N qual (defScope st) f cdv A outer s H E) [] (start N vs) H s1 := inv_start S hr.hd e0 (len _ _ _ _ hsp) r z
  refine wpAny_mono (ht.nox.run [] s1 (start N vs) H _ I hq) (fun fl s' hs => ?_) fun e s' hs => hs
  rcases fl with _ | _ | _ | u
  · obtain ⟨_, H', J, q⟩ := hs
    exact ⟨V.non, H', J.os, J.bare, J.base, J.hok, rfl, q⟩
  · exact hs.choose_spec.choose_spec.2.elim
  · exact hs.choose_spec.choose_spec.2.elim
  · obtain ⟨v, _, H', J, rv, q⟩ := hs
    exact ⟨v, H', J.os, J.bare, J.base, J.hok, rv, q⟩
end
section
variable {X : Cx} {k : Nat} {f : Addr} {fd : FuncData} {ps : List Str} {sp : Sp} {E : XK} {x : Str} {p pos : Pos} {e : Expr} {es : List Expr} {t : TA}
theorem pe_callG (F : GnOk X.prog X.w X.K X.mg X.base k f fd ps sp) (hgd : X.A.guards = some []) (hr : Room k X.A) (hg : Gl X x) (hm : X.mg x = some (.ref f)) (hk : PySem.W.keepIn X.K (.ref f) = true) (hb : Binds X.K fd ps []) (ha : PA X (e :: es) t)
    (hdb : (x == ("__debug__" : Str)) = false := by decide) (he : starEach (e :: es) X.env = (false, eval e X.env) :: starEach es X.env := by rfl) (hpl : (backTo pos (starEach es X.env)).any (·.1) = false := by rfl) :
    PE X (.Call (.Name x p) (e :: es) [] pos) (tCall sp [] E0 t) := by
  refine ⟨fun pins s σ H Q I h => wpAny_Call_Name_kw (ld_glob I hg hm ?_ hdb)⟩
  refine PySem.W.callWith_K (h₀ := X.base) I.ok.mod.kin hk (thn (ha.run pos pins s σ H _ I h) fun us s1 ⟨vs, H1, I1, r, q⟩ => ⟨I1.kIn, ?_⟩) he hpl
  have q : sp vs H1 Q E0 := by
    have z : sp (vs ++ []) H1 Q E0 := q
    rwa [List.append_nil] at z
  have hl : us.length = ps.length := r.length.symm.trans (F.len _ _ _ _ q)
  have hb' := hb s1 us I1.kIn (by rw [List.append_nil]; exact hl)
  rw [List.append_nil] at hb'
  refine wpAny_call (codeAny_mono (F.run X.A X.stack s1 H1 ⟨us, []⟩ us vs Q E0 hgd hr I1.env0 hb' r q) fun r' s' hq => ?_)
  rcases r' with e' | fl
  · exact hq.elim
  · rcases fl with _ | _ | _ | u
    · exact hq.elim
    · exact hq.elim
    · exact hq.elim
    · exact I1.after hq
/-- repr(v), v data at any depth -/
def rReprD (K : PySem.W.Frag) : List V → Hp → VK → Prop := fun vs H Q => ∃ (v : V) (d : PyData), vs = [v] ∧ Dp K H v d ∧ d.showable = true ∧ d.hasDict = false ∧ d.depth ≤ 64 ∧ d.shown.length ≤ sizeLine ∧ Q (.str d.shown) H
theorem cr_reprD (hgd : X.A.guards = some []) (hu : X.A.units + 66 < cLine) : CallR X (.builtin "repr") (rReprD X.K) := by
  intro pins s σ H vs us Q I r h
  obtain ⟨v, d, rfl, hd, sh, nd, dp, sz, q⟩ := h
  obtain ⟨u, rfl, ru⟩ := vals1 r
  obtain ⟨as, rd⟩ := Dp.reads I d v u hd ru
  cases hd with
  | non => cases ru; exact PySem.P.repr_of_none ⟨.str "None", H, I.tok _, ⟨_, rfl⟩, by simpa [PyData.shown] using q⟩
  | bl b => cases ru; exact PySem.P.repr_of_bool ⟨.str (if b then "True" else "False"), H, I.tok _, ⟨_, rfl⟩, by simpa [PyData.shown] using q⟩
  | int i =>
    obtain ⟨t, rfl⟩ := ru
    exact PySem.P.repr_of_int (by simpa [PyData.showable] using sh) ⟨.str (toString i), H, I.tok _, ⟨_, rfl⟩, by simpa [PyData.shown] using q⟩
  | str x =>
    obtain ⟨t, rfl⟩ := ru
    exact PySem.P.repr_of_str ⟨.str (reprText x), H, I.tok _, ⟨_, rfl⟩, by simpa [PyData.shown] using q⟩ (by simpa [PyData.shown] using sz)
  | lst a b =>
    cases ru
    exact PySem.repr_of_reads' rd sh (fun e => by rw [nd] at e; cases e) hgd (by omega) (fun _ _ e => e) (fun h' u tk k => ⟨.str _, H, I.kept (t' := tk) k, ⟨u, rfl⟩, q⟩) sz
  | tup a b =>
    cases ru
    exact PySem.repr_of_reads' rd sh (fun e => by rw [nd] at e; cases e) hgd (by omega) (fun _ _ e => e) (fun h' u tk k => ⟨.str _, H, I.kept (t' := tk) k, ⟨u, rfl⟩, q⟩) sz
end
/-- the law's own call, its promise with the guards told -/
theorem law_callG {P : Program} {w : World} {K : PySem.W.Frag} {mg mb : Str → Option Value} {k : Nat} {fa a : Addr} {fd : FuncData} {x : Str} {sp : Sp} {s₁ : Shared} {vs : List Value} {ns : List Int}
    (KX : K.In s₁.heap) (hns : s₁.heap.Ns mainGlobals mg) (hb : s₁.heap.Ns builtinsNs mb) (hbb : ∀ x : Str, x ≠ "__name__" → mb x = bootBuiltins x) (hlim : s₁.heap.NoLimit) (hg : s₁.gens = #[])
    (ha : s₁.heap.get? a = some { cls := .type "list", data := .seq vs.toArray }) (hi : IntsAre vs ns) (hl : ns.length ≤ sizeLine) (hr : Room k callerA)
    (F : ∀ base : Heap, K.In base → base.Ns mainGlobals mg → GnOk P w K mg base k fa fd [x] sp) (bind : ∀ (s : Shared) (u : Value), BindsTo s fd ⟨[u], []⟩ [(x, u)])
    (ask : ∀ H : Hp, Only H → SqL K H a (ns.map V.int) → sp [.ref a] H (fun v _ => v = .bl true) E0) :
    codeAny (model P w) callerA (.call (.ref fa) ⟨[.ref a], []⟩) (fun r s' => r = .ok (.ret (.bool true)) ∧ OldK s₁.heap s'.heap ∧ s'.os = s₁.os ∧ AllBare s'.gens) s₁ := by
  have rv := vals_ints hi
  have lenV := hi.length
  have from_ : ∀ H : Hp, Only H → SqL K H a (ns.map V.int) → HOk P w H s₁.heap → (∀ b, H b ≠ none → b = a ∧ K.lookup a = none) →
      codeAny (model P w) callerA (.call (.ref fa) ⟨[.ref a], []⟩) (fun r s' => r = .ok (.ret (.bool true)) ∧ OldK s₁.heap s'.heap ∧ s'.os = s₁.os ∧ AllBare s'.gens) s₁ := by
    intro H only hS hok hA
    have free : ∀ {b : Addr} {o : Obj}, s₁.heap.get? b = some o → (b = a → False) → H b = none := fun {b o} _ n => by
      cases q : H b with
      | none => rfl
      | some u => exact (n (hA b (by rw [q]; simp)).1).elim
    have low : ∀ {b : Addr} {o : Obj}, s₁.heap.get? b = some o → H b = none → (hidT s₁.heap H).get? b = some o := fun e n => hidT_get e n
    have names : ∀ {b : Addr} {m : Str → Option Value}, s₁.heap.Ns b m → (hidT s₁.heap H).Ns b m := fun {b m} ⟨o, es, ep, e, d, r⟩ =>
      ⟨o, es, ep, low e (free e fun z => by subst z; rw [ha] at e; cases e; cases d), d, r⟩
    have hK : K.In (hidT s₁.heap H) := fun b o e => low (KX b o e) (by
      cases q : H b with
      | none => rfl
      | some u =>
        obtain ⟨z, zk⟩ := hA b (by rw [q]; simp)
        subst z
        rw [zk] at e; cases e)
    have M : Mod K mg (hidT s₁.heap H) := ⟨hK, names hns, ⟨mb, names hb, hbb⟩, let ⟨mc, h1, h2⟩ := hlim; ⟨mc, names h1, h2⟩⟩
    have e0 : Env0 P w K mg (hidT s₁.heap H) callerA [] s₁ H := ⟨rfl, M, fun b o e => of_hidT e, Nat.le_of_eq (hidT_size _ _), trivial, fun b z => absurd (show b ∈ ([] : List Addr) from z) (by simp), hok, .of_eq hg⟩
    refine codeAny_mono ((F _ hK (names hns)).run callerA [] s₁ H ⟨[.ref a], []⟩ [.ref a] [.ref a] _ _ rfl hr e0 (bind s₁ (.ref a)) (.cons rfl .nil) (ask H only hS)) fun r s' h => ?_
    rcases r with e | fl
    · exact h.elim
    · rcases fl with _ | _ | _ | u
      · exact h.elim
      · exact h.elim
      · exact h.elim
      · obtain ⟨v, H', os, bare, un, hok', r', q⟩ := h
        obtain rfl : v = .bl true := q
        obtain rfl : u = Value.bool true := r'
        refine ⟨rfl, OldK.of_keep fun b o e => ?_, os, bare⟩
        cases q : H b with
        | none => exact un.keep b o e q (by intro z; exact absurd (show b ∈ ([] : List Addr) from z) (by simp)) (by simp)
        | some u =>
          rcases only b with z | ⟨ob, xs, z⟩
          · rw [q] at z; cases z
          · obtain ⟨e1, _⟩ := hok b _ z
            obtain ⟨e2, _⟩ := hok' b _ (un.frzs b ob _ z)
            rw [e] at e1; cases e1
            exact e2
  cases hk : K.lookup a with
  | some o =>
    have e := KX a o hk
    rw [ha] at e
    cases e
    exact from_ (fun _ => none) (fun _ => .inl rfl) (.inr ⟨_, vs.toArray, _, hk, rfl, rfl, rfl, by rw [List.size_toArray, lenV]; exact hl, by simpa using rv⟩) (fun b u z => nomatch (show (none : Option HO) = some u from z)) fun b z => absurd rfl z
  | none =>
    have at_ : ∀ b, (fun b => if b = a then some (HO.frz { cls := .type "list", data := .seq vs.toArray } (.lst (ns.map V.int))) else none) b ≠ none → b = a := fun b z => by
      by_cases hb : b = a
      · exact hb
      · exact absurd (if_neg hb) z
    refine from_ _ (fun b => ?_) (.inl (.inr ⟨_, if_pos rfl⟩)) (fun b u z => ?_) fun b z => ⟨at_ b z, hk⟩
    · by_cases hb : b = a
      · exact .inr ⟨_, _, if_pos hb⟩
      · exact .inl (if_neg hb)
    · have hb := at_ b (fun e => by have y := z.symm.trans e; cases y)
      subst hb
      have z' := (if_pos rfl).symm.trans z
      cases z'
      exact ⟨ha, by rw [List.length_map]; exact hl, vs, _, rv, ha⟩
theorem walk_ofG {l : PySem.W.OpenLaw} {n k : Nat} {q : Program} {loose : List Str} {XP : (Str → Option Value) → Heap → Prop} {YP : World → Heap → Prop} {d : DefRec} {K : Params → PySem.W.Frag} {sp : PySem.W.Frag → Sp} {x : Str}
    (hn : l.most = some n) (hn2 : n ≤ sizeLine) (hdf : d.params.defaults = []) (hr : Room k callerA) (hY : ∀ (w : World) (h : Heap), YP w h → (K w.params).In h)
    (F : ∀ (w : World) (mg : Str → Option Value) (fa : Addr) (h : Heap), (K w.params).In h → h.Ns mainGlobals mg → mg d.name = some (.ref fa) →
      ∃ fd : FuncData, (∀ (s : Shared) (u : Value), BindsTo s fd ⟨[u], []⟩ [(x, u)]) ∧ ∀ base : Heap, (K w.params).In base → base.Ns mainGlobals mg → GnOk l.prog w (K w.params) mg base k fa fd [x] (sp (K w.params)))
    (ask : ∀ (K : PySem.W.Frag) (H : Hp) (a : Addr) (ns : List Int), ns.length ≤ n → Only H → SqL K H a (ns.map V.int) → sp K [.ref a] H (fun v _ => v = .bl true) E0) :
    PySem.W.WalkO q loose XP YP l.row.toRowW d [] (fun f vs => PySem.call f vs) := by
  refine Att.attach_call hn hdf fun w s₀ s₁ mg mb fa o pm cd doc a vs ns G Y ho hd hcd hmg hobj hints hlen hg => ?_
  obtain ⟨fd, hb, hF⟩ := F w mg fa _ (hY w _ Y) G.T.g hmg
  exact law_callG (hY w _ Y) G.T.g G.T.b G.T.builtins G.T.nolimit hg hobj hints (Nat.le_trans hlen hn2) hr hF hb fun H hO hS => ask _ H a ns hlen hO hS
end Rp

namespace Rp
open PySem L2
def top (i : Nat) : Stmt := PySem.Challenge.pw_ringproofs_k24_sayings_that_come_of_anot.main.body.getD i (.Pass ⟨0, 0, 0, 0⟩)
abbrev sParts : Stmt := top 1
abbrev sInside : Stmt := top 2
abbrev sFold : Stmt := top 3
abbrev sVars : Stmt := top 4
abbrev sPut : Stmt := top 5
abbrev sAtomVars : Stmt := top 7
abbrev sAtomPut : Stmt := top 8
abbrev sUnlike : Stmt := top 10
abbrev sSayVars : Stmt := top 11
abbrev sSayPut : Stmt := top 12
abbrev sComes : Stmt := top 13
abbrev sBox : Stmt := top 15
abbrev sTake : Stmt := top 16
abbrev sPick : Stmt := top 17
abbrev sSame : Stmt := top 18
abbrev sNames : Stmt := top 19
abbrev sTermL : Stmt := top 20
abbrev sPutL : Stmt := top 21
abbrev sUnlikeL : Stmt := top 22
abbrev sShapes : Stmt := top 23
abbrev sRuleL : Stmt := top 24
abbrev sBaseL : Stmt := top 25
abbrev sRulesL : Stmt := top 26
abbrev sAtomL : Stmt := top 27
abbrev sSayingL : Stmt := top 28
abbrev sComesL : Stmt := top 29
abbrev sItself : Stmt := top 30
abbrev sBegin : Stmt := top 31
abbrev sSpots : Stmt := top 32
abbrev sGrown : Stmt := top 33
abbrev sBentB : Stmt := top 34
abbrev sLaw : Stmt := top 35
end Rp

namespace Rp
open PySem L2
/-! ### promises -/
def spBox (K : PySem.W.Frag) : Sp := fun vs H Q _ => ∃ (a : Addr) (ns : List Int) (k : Int), vs = [.ref a, .int k] ∧ SqL K H a (ns.map V.int) ∧ ns.length ≤ 63 ∧ 0 ≤ k ∧ k ≤ 63 ∧
  ∀ (b : Addr) (H' : Hp), H b = none → BoxAt H' b 0 → Same H H' → Q (.ref b) H'
def spTake : Sp := fun vs H Q _ => ∃ (b : Addr) (c : Int) (j : Nat), vs = [.ref b, .int c] ∧ BoxAt H b j ∧ j ≤ 1000000 ∧ 1 ≤ c ∧ c ≤ 1000000000 ∧
  ∀ (r : Int) (H' : Hp), 0 ≤ r → r < c → BoxAt H' b (j + 1) → But b H H' → Q (.int r) H'
def spPick : Sp := fun vs H Q _ => ∃ (b p : Addr) (xs : List V) (j : Nat), vs = [.ref b, .ref p] ∧ BoxAt H b j ∧ j ≤ 1000000 ∧ H p = some (.lst xs) ∧ p ≠ b ∧ 1 ≤ xs.length ∧ xs.length ≤ 1000000 ∧
  ∀ (v : V) (H' : Hp), v ∈ xs → BoxAt H' b (j + 1) → But b H H' → Q v H'
section
variable {P : Program} {w : World} {K : PySem.W.Frag} {mg : Str → Option Value} {base : Heap}
theorem fmod_pos {a c : Int} (h : 0 < c) : 0 ≤ a.fmod c ∧ a.fmod c < c := by
  rw [Int.fmod_eq_emod_of_nonneg a (Int.le_of_lt h)]
  exact ⟨Int.emod_nonneg a (by omega), Int.emod_lt_of_pos a h⟩
theorem fdiv_pos {a c : Int} (h : 0 < c) (ha : 0 ≤ a) : 0 ≤ a.fdiv c := by
  rw [Int.fdiv_eq_ediv_of_nonneg a (Int.le_of_lt h)]
  exact Int.ediv_nonneg ha (Int.le_of_lt h)
theorem scBox : FnScope ["_law_script", "_law_k", "_law_cell"] ["_law_script", "_law_k"] (defScope sBox) := ⟨rfl, rfl, rfl, by decide +kernel, rfl, by decide +kernel, by decide +kernel⟩
theorem ok_box {f : Addr} {fd : FuncData} (F : Fun K "_law_box" "_law_box" sBox f fd) (mLen : mg "len" = none) (mAbs : mg "abs" = none) (mInt : mg "int" = none) :
    FnOk P w K mg base CX0 1 f fd ["_law_script", "_law_k"] (spBox K) := by
  refine F.ok scBox (fun vs H Q E h => ?_) (fun cdv A outer s H vs Q E hr h => ?_)
  · obtain ⟨a, ns, k, rfl, _⟩ := h
    rfl
  obtain ⟨a, ns, k, rfl, hS, hl, h0, h1, q⟩ := h
  refine ⟨_, pss_cons (ps_set (i := 2) scBox.nd rfl (Or.inl rfl) pe_int)
    (pss_cons (ps_if (pt_cmpR op_lt (pv 1) (pe_callB call_len_seq (by rfl) mLen PySem.boot_len (pa_cons (pv 0) pa_nil)) (nomark _))
      (pss_one (ps_set (i := 2) scBox.nd rfl (Or.inl rfl) (pe_ix ix_list (pv 0) (pv 1) (fun _ _ => rfl)))) pss_nil)
    (pss_one (ps_ret (pe_lst (pa_cons
      (pe_op op_mul (pe_callB call_abs (by rfl) mAbs (by decide +kernel) (pa_cons (pv 2) pa_nil))
        (pe_callTy call_int1 (by rfl) mInt (by decide +kernel) (pa_cons (pe_cmpR op_ge (pe_callB call_abs (by rfl) mAbs (by decide +kernel) (pa_cons (pv 2) pa_nil)) (pe_op op_pow pe_int pe_int) (nomark _)) pa_nil)))
      (pa_cons (pe_op op_add (pe_op op_add (pe_op op_modN (pv 2) pe_int) (pe_op op_mul pe_int (pv 1))) pe_int) (pa_cons pe_int pa_nil))))))), ?_⟩
  refine ⟨_, rfl, _, rfl, a, _, rfl, .inl hS, _, _, rfl, rfl, _, rfl, ?_⟩
  have two : ∀ (b : Bool), -(2 ^ 64) < (if b = true then (1 : Int) else 0) ∧ (if b = true then (1 : Int) else 0) < 2 ^ 64 ∧ 0 ≤ (if b = true then (1 : Int) else 0) := by decide
  have pos : ∀ c : Int, 0 ≤ if c < 0 then -c else c := fun c => by split <;> omega
  have m := fun c : Int => fmod_pos (a := c) (c := 2147483629) (by decide)
  refine ite2 (fun c => ?_) (fun c => ?_)
  · have hk : k.toNat < ns.length := by
      have z : k < (((ns.map V.int).length : Nat) : Int) := of_decide_eq_true c
      rw [List.length_map] at z
      omega
    have it : atI (ns.map V.int) k = some (.int ns[k.toNat]) := at_of (j := k.toNat) (by omega) (by rw [List.getElem?_map, List.getElem?_eq_getElem hk]; rfl)
    refine ⟨_, rfl, _, rfl, a, _, _, _, rfl, rfl, hS, it, ?_⟩
    refine ⟨_, rfl, _, rfl, _, rfl, _, rfl, _, _, rfl, rfl, ⟨by decide, by decide, by decide⟩, _, _, rfl, rfl, .inr ⟨_, rfl, ?_⟩⟩
    refine ⟨_, _, rfl, rfl, .inr ⟨(two _).1, (two _).2.1⟩, _, rfl, _, _, rfl, rfl, (fun h => absurd h (by decide)), _, rfl, _, _, rfl, rfl, .inl ⟨by decide, by decide⟩, _, _, rfl, rfl, _, _, rfl, rfl, (by show 3 ≤ sizeLine; decide), fun b hb => ?_⟩
    have mm := m ns[k.toNat]
    exact q b _ hb ⟨_, _, _, upd_same, Int.mul_nonneg (pos _) (two _).2.2, by omega, by omega, by decide, by decide⟩ (same_new hb _)
  · refine ⟨_, rfl, _, rfl, _, rfl, _, rfl, _, _, rfl, rfl, ⟨by decide, by decide, by decide⟩, _, _, rfl, rfl, .inr ⟨_, rfl, ?_⟩⟩
    refine ⟨_, _, rfl, rfl, .inr ⟨(two _).1, (two _).2.1⟩, _, rfl, _, _, rfl, rfl, (fun h => absurd h (by decide)), _, rfl, _, _, rfl, rfl, .inl ⟨by decide, by decide⟩, _, _, rfl, rfl, _, _, rfl, rfl, (by show 3 ≤ sizeLine; decide), fun b hb => ?_⟩
    have mm := m 0
    exact q b _ hb ⟨_, _, _, upd_same, Int.mul_nonneg (pos _) (two _).2.2, by omega, by omega, by decide, by decide⟩ (same_new hb _)
theorem scTake : FnScope ["_law_box_here", "_law_reach", "_law_found", "_law_once"] ["_law_box_here", "_law_reach"] (defScope sTake) := ⟨rfl, rfl, rfl, by decide +kernel, rfl, by decide +kernel, by decide +kernel⟩
theorem ok_take {f : Addr} {fd : FuncData} (F : Fun K "_law_take" "_law_take" sTake f fd) : FnOk P w K mg base CX0 1 f fd ["_law_box_here", "_law_reach"] spTake := by
  refine F.ok scTake (fun vs H Q E h => ?_) (fun cdv A outer s H vs Q E hr h => ?_)
  · obtain ⟨b, c, j, rfl, _⟩ := h
    rfl
  obtain ⟨b, c, j, rfl, B, hj, h1, h2, q⟩ := h
  obtain ⟨x, y, z, hb, x0, y0, y1, z0, z1⟩ := id B
  have s0 : SqL K H b [.int x, .int y, .int z] := .inl (.inl hb)
  have a0 : ∀ u v t : Int, atI [V.int u, .int v, .int t] 0 = some (.int u) := fun u v t => at_of (j := 0) rfl rfl
  have a1 : ∀ u v t : Int, atI [V.int u, .int v, .int t] 1 = some (.int v) := fun u v t => at_of (j := 1) rfl rfl
  have a2 : ∀ u v t : Int, atI [V.int u, .int v, .int t] 2 = some (.int t) := fun u v t => at_of (j := 2) rfl rfl
  refine ⟨_, pss_cons (ps_if (pt_cmpR op_gt (pe_ix ix_list (pv 0) pe_int (fun _ _ => rfl)) pe_int (nomark _))
      (pss_cons (ps_set (i := 2) scTake.nd rfl (Or.inl rfl) (pe_op op_modN (pe_ix ix_list (pv 0) pe_int (fun _ _ => rfl)) (pv 1)))
      (pss_cons (ps_asg (pe_op op_fdivN (pe_ix ix_list (pv 0) pe_int (fun _ _ => rfl)) (pv 1)) (pg_sub (pv 0) pe_int set_list))
      (pss_one (ps_ret (pv 2))))) pss_nil)
    (pss_cons (ps_asg (pe_op op_add (pe_ix ix_list (pv 0) pe_int (fun _ _ => rfl)) pe_int) (pg_sub (pv 0) pe_int set_list))
    (pss_cons (ps_set (i := 3) scTake.nd rfl (Or.inl rfl) (pe_op op_modN (pe_op op_pow (pe_op op_add (pe_ix ix_list (pv 0) pe_int (fun _ _ => rfl)) (pe_op op_mul pe_int (pe_ix ix_list (pv 0) pe_int (fun _ _ => rfl)))) pe_int) pe_int))
    (pss_one (ps_ret (pe_op op_modN (pe_op op_fdivN (pe_op op_modN (pe_op op_add (pe_op op_mul (pv 3) (pe_op op_add (pe_op op_modN (pv 3) pe_int) pe_int)) (pe_op op_mul (pe_ix ix_list (pv 0) pe_int (fun _ _ => rfl)) pe_int)) pe_int) pe_int) (pv 1)))))), ?_⟩
  refine ⟨_, rfl, b, _, _, _, rfl, rfl, s0, a0 _ _ _, _, _, rfl, rfl, _, rfl, ?_⟩
  refine ite2 (fun d => ?_) (fun d => ?_)
  · refine ⟨_, rfl, b, _, _, _, rfl, rfl, s0, a0 _ _ _, _, rfl, _, _, rfl, rfl, (by omega), ?_⟩
    refine ⟨_, rfl, b, _, _, _, rfl, rfl, s0, a0 _ _ _, _, rfl, _, _, rfl, rfl, ⟨by omega, by omega⟩, ?_⟩
    refine ⟨_, rfl, b, _, _, 0, rfl, rfl, hb, rfl, ?_⟩
    have m := fmod_pos (a := x) (c := c) (by omega)
    exact ⟨_, rfl, q _ _ m.1 m.2 ⟨_, _, _, upd_same, fdiv_pos (by omega) x0, y0, y1, z0, by omega⟩ (but_upd _)⟩
  · refine ⟨_, rfl, b, _, _, _, rfl, rfl, s0, a2 _ _ _, _, _, rfl, rfl, ?_⟩
    refine ⟨_, rfl, b, _, _, 2, rfl, rfl, hb, rfl, ?_⟩
    have hb' : (upd H b (.lst [.int x, .int y, .int (z + 1)])) b = some (.lst [.int x, .int y, .int (z + 1)]) := upd_same
    have s1 : SqL K (upd H b (.lst [.int x, .int y, .int (z + 1)])) b [.int x, .int y, .int (z + 1)] := .inl (.inl hb')
    refine ⟨_, rfl, b, _, _, _, rfl, rfl, s1, a1 _ _ _, _, rfl, b, _, _, _, rfl, rfl, s1, a2 _ _ _, _, _, rfl, rfl, .inl ⟨by decide, by decide⟩, _, _, rfl, rfl, _, _, rfl, rfl, ⟨by decide, by decide, by omega⟩, _, _, rfl, rfl, (fun h => absurd h (by decide)), ?_⟩
    generalize (y + 39373 * (z + 1)) ^ Int.toNat 5 = g
    have m := fmod_pos (a := g) (c := 2147483647) (by decide)
    refine ⟨_, rfl, _, rfl, _, _, rfl, rfl, (fun h => absurd h (by decide)), _, _, rfl, rfl, _, _, rfl, rfl, .inl ⟨by omega, by omega⟩, _, rfl, b, _, _, _, rfl, rfl, s1, a2 _ _ _, _, _, rfl, rfl, .inl ⟨by omega, by omega⟩, _, _, rfl, rfl, _, _, rfl, rfl, (fun h => absurd h (by decide)), _, _, rfl, rfl, ⟨by decide, by decide⟩, _, rfl, _, _, rfl, rfl, (by omega), ?_⟩
    generalize Int.fdiv _ _ = e
    have m2 := fmod_pos (a := e) (c := c) (by omega)
    exact q _ _ m2.1 m2.2 ⟨_, _, _, upd_same, x0, y0, y1, by omega, by omega⟩ (but_upd _)
theorem scPick : FnScope ["_law_box_here", "_law_things"] ["_law_box_here", "_law_things"] (defScope sPick) := ⟨rfl, rfl, rfl, by decide +kernel, rfl, by decide +kernel, by decide +kernel⟩
theorem ok_pick {f fT : Addr} {fd fdT : FuncData} (F : Fun K "_law_pick" "_law_pick" sPick f fd) (FT : Fun K "_law_take" "_law_take" sTake fT fdT) (bT : Binds K fdT ["_law_box_here", "_law_reach"] []) (mT : mg "_law_take" = some (.ref fT)) (mLen : mg "len" = none) :
    FnOk P w K mg base CX0 2 f fd ["_law_box_here", "_law_things"] spPick := by
  have GT : FnOk P w K mg base CX0 1 fT fdT ["_law_box_here", "_law_reach"] spTake := ok_take FT
  refine F.ok scPick (fun vs H Q E h => ?_) (fun cdv A outer s H vs Q E hr h => ?_)
  · obtain ⟨b, p, xs, j, rfl, _⟩ := h
    rfl
  obtain ⟨b, p, xs, j, rfl, B, hj, hp, ne, l1, l2, q⟩ := h
  refine ⟨_, pss_one (ps_ret (pe_ix ix_list (pv 1) (pe_call GT hr rfl mT FT.kp bT .nil pass0 (pa_cons (pv 0) (pa_cons (pe_callB call_len_seq (by rfl) mLen PySem.boot_len (pa_cons (pv 1) pa_nil)) pa_nil))) (fun _ _ => rfl))), ?_⟩
  refine ⟨_, rfl, _, rfl, _, rfl, p, _, rfl, .inl (.inl (.inl hp)), b, _, j, rfl, B, hj, by omega, by omega, fun r H' r0 r1 B' o => ?_⟩
  have hr' : r.toNat < xs.length := by omega
  refine ⟨p, _, _, _, rfl, rfl, .inl (.inl (o _ _ hp ne)), at_of (j := r.toNat) (v := xs[r.toNat]) (by omega) (List.getElem?_eq_getElem hr'), ?_⟩
  exact q _ _ (List.getElem_mem hr') B' o
end
end Rp

namespace Rp
open PySem L2
section
variable {P : Program} {w : World} {K : PySem.W.Frag} {mg : Str → Option Value} {base : Heap}
theorem none_left {k : Nat} {f : Addr} {fd : FuncData} {ps : List Str} {sp : Sp} (no : ∀ vs H Q E, ¬ sp vs H Q E) : FnOk P w K mg base CX0 k f fd ps sp :=
  ⟨fun vs H Q E h => absurd h (no vs H Q E), fun A outer s H args us vs Q E _ _ _ _ h => absurd h (no vs H Q E)⟩
theorem v1_ne {x y : Int} (c : ¬ decide (V.int x = V.int y) = true) : x ≠ y := fun e => c (by rw [e]; simp)
theorem v1_eq {x y : Int} (c : decide (V.int x = V.int y) = true) : x = y := V.int.inj (of_decide_eq_true c)
theorem big1000 : (1000 : Nat) ≤ sizeLine := by decide
end
end Rp

namespace Rp
open PySem L2
/-- the value of a TERM is an int or a tuple that stands -/
theorem TmAt.ty {K : PySem.W.Frag} {H : Hp} {v : V} {t : Tm} (h : TmAt H v t) : (∃ n, v = .int n ∧ t = .v n) ∨ (∃ a xs, v = .ref a ∧ H a = some (.tup xs) ∧ TyX K H v (.type "tuple") ∧ (∀ n, t ≠ .v n)) := by
  cases h with
  | v n => exact .inl ⟨n, rfl, rfl⟩
  | z h => exact .inr ⟨_, _, rfl, h, .base (.tup h), fun n e => by cases e⟩
  | s h _ => exact .inr ⟨_, _, rfl, h, .base (.tup h), fun n e => by cases e⟩
  | f h _ _ => exact .inr ⟨_, _, rfl, h, .base (.tup h), fun n e => by cases e⟩
def signHead : Tm → Str
  | .v _ => "" | .z => "0" | .s _ => "s" | .f _ _ => "f"
/-- a TERM that is no variable: its tuple, its parts -/
theorem TmAt.tupled {H : Hp} {v : V} {t : Tm} (h : TmAt H v t) (no : ∀ n, t ≠ .v n) : ∃ a ks, v = .ref a ∧ H a = some (.tup (.str (signHead t) :: ks)) ∧ ks.length = t.kids.length ∧ ∀ (i : Nat) (x : V) (k : Tm), ks[i]? = some x → t.kids[i]? = some k → TmAt H x k := by
  cases h with
  | v n => exact absurd rfl (no n)
  | z h => exact ⟨_, [], rfl, h, rfl, fun i x k h => by simp at h⟩
  | @s a x t h q =>
    refine ⟨_, [x], rfl, h, rfl, fun i y k h1 h2 => ?_⟩
    cases i with
    | zero => simp [Tm.kids] at h1 h2; subst h1 h2; exact q
    | succ i => simp at h1
  | @f a x y l r h q q' =>
    refine ⟨_, [x, y], rfl, h, rfl, fun i u k h1 h2 => ?_⟩
    match i with
    | 0 => simp [Tm.kids] at h1 h2; subst h1 h2; exact q
    | 1 => simp [Tm.kids] at h1 h2; subst h1 h2; exact q'
    | i + 2 => simp at h1
theorem signs_kids : ∀ {t : Tm}, (∀ n, t ≠ .v n) → t.signs = .str (signHead t) :: t.kids.flatMap Tm.signs
  | .v n, h => absurd rfl (h n)
  | .z, _ => rfl
  | .s t, _ => by simp [Tm.signs, Tm.kids, signHead]
  | .f l r, _ => by simp [Tm.signs, Tm.kids, signHead]
theorem kid_deep {t k : Tm} (h : k ∈ t.kids) : k.deep < t.deep := by
  cases t with
  | v n => simp [Tm.kids] at h
  | z => simp [Tm.kids] at h
  | s t => simp [Tm.kids] at h; subst h; exact Nat.lt_succ_self _
  | f l r =>
    simp [Tm.kids] at h
    rcases h with h | h <;> subst h <;> (simp only [Tm.deep]; omega)
theorem kid_size {t k : Tm} (h : k ∈ t.kids) : k.size < t.size := by
  cases t with
  | v n => simp [Tm.kids] at h
  | z => simp [Tm.kids] at h
  | s t => simp [Tm.kids] at h; subst h; exact Nat.lt_succ_self _
  | f l r =>
    simp [Tm.kids] at h
    rcases h with h | h <;> subst h <;> (simp only [Tm.size]; omega)
theorem take_flat {t : Tm} (i : Nat) : ((t.kids.take i).flatMap Tm.signs).length ≤ t.size := by
  cases t with
  | v n => simp [Tm.kids]
  | z => simp [Tm.kids]
  | s t =>
    match i with
    | 0 => simp
    | i + 1 => simp [Tm.kids, Tm.signs_len, Tm.size]
  | f l r =>
    match i with
    | 0 => simp
    | 1 => simp [Tm.kids, Tm.signs_len, Tm.size]; try omega
    | i + 2 => simp [Tm.kids, Tm.signs_len, Tm.size]; try omega
theorem cut_tail (x : V) (ks : List V) : cutV (x :: ks) (some 1) none = ks := by
  have e : HT.sIx (x :: ks).length 0 (some 1) = 1 := by
    have := HT.sIx_nat (x :: ks).length 0 1
    rw [List.length_cons] at this ⊢
    rw [show (some 1 : Option Int) = some ((1 : Nat) : Int) from rfl, this]
    omega
  unfold cutV
  rw [e, HT.sIx_none, List.drop_one, List.tail_cons, List.take_of_length_le (by simp)]
theorem cut_part (x : V) (ks : List V) : ¬ (HT.sIx (x :: ks).length 0 (some 1) = 0 ∧ HT.sIx (x :: ks).length (x :: ks).length none = (x :: ks).length) := by
  have := HT.sIx_nat (x :: ks).length 0 1
  rw [List.length_cons] at this ⊢
  rw [show (some 1 : Option Int) = some ((1 : Nat) : Int) from rfl, this]
  omega
section
variable {P : Program} {w : World} {K : PySem.W.Frag} {mg : Str → Option Value} {base : Heap}
theorem kit_ii : PySem.W.kitOne K (.type "int") (.type "int") = some true := kit_ty (by decide +kernel)
theorem kit_ti : PySem.W.kitOne K (.type "tuple") (.type "int") = some false := kit_ty (by decide +kernel)
theorem kit_si : PySem.W.kitOne K (.type "str") (.type "int") = some false := kit_ty (by decide +kernel)
end
end Rp

namespace Rp
open PySem PySem.Spec PyProof.Rows L2
/-- list.extend by any tuple object -/
theorem extend_by (l : Addr) (xs : Array Value) (n : Nat) (b : Addr) (od : Option Addr) (ys : Array Value) (m : Nat) (sl : Array (Option Value)) (short : ¬(!xs.isEmpty && Builtin.List.listTooLong (xs.size + ys.size)) = true) (h1 : xs.size ≤ sizeLine) (h2 : xs.size + ys.size ≤ sizeLine + 1) :
    Meets (Builtin.«list.extend» ⟨[.ref l, .ref b], []⟩) (fun _ R s => s.heap.get? l = some { cls := .type "list", data := .seq xs n } ∧ s.heap.get? b = some ⟨.type "tuple", od, .seq ys m, sl⟩ ∧
      R (.ok (.ret Value.none)) { s with heap := s.heap.update l (Obj.mapSeq fun x => x ++ ys) }) :=
  .of_wp fun prog w A R s ⟨hl, hb, h⟩ => by
    obtain ⟨hp, g, d, tk, os⟩ := s
    have g1 := sub_list_list
    have g2 := sub_tuple_list
    have g3 := sub_tuple_tuple
    have g4 := sub_list_tuple
    have both : (xs ++ ys).size ≤ sizeLine + 1 := by rw [Array.size_append]; exact h2
    wp_walk using (wpAny_updateSeq hl rfl (hz := h1) (_hz' := both)), wpAny_loadPart' hl, wpAny_loadPart' hb
    exact ⟨_, rfl, h⟩
section
variable {X : Cx}
/-- xs.extend(t), t a tuple -/
def rExtT (K : PySem.W.Frag) : V → List V → Hp → VK → Prop := fun x vs H Q => ∃ (l b : Addr) (xs zs : List V), x = .ref l ∧ vs = [.ref b] ∧ H l = some (.lst xs) ∧ SqT K H b zs ∧ xs.length + zs.length ≤ sizeLine ∧ Q .non (upd H l (.lst (xs ++ zs)))
theorem mt_extendT : MtM X "list.extend" (rExtT X.K) := by
  intro pins s σ H x vs v us Q I rx rv h
  obtain ⟨l, b, xs, zs, rfl, rfl, hH, hB, few, q⟩ := h
  cases rx
  obtain ⟨u, rfl, ru⟩ := rv.one
  cases ru
  obtain ⟨z, its, n, r, hl, e⟩ := I.lstM hH
  obtain ⟨its2, r2, ⟨⟨c2, d2, dat2, sl2⟩, e2, hc2, n2, hd2⟩, hz2⟩ := I.tuple hB
  simp only at hc2 hd2
  subst hc2 hd2
  have l1 := r.length
  have l2 := r2.length
  have room : its.toArray.size + its2.toArray.size ≤ sizeLine := by rw [List.size_toArray, List.size_toArray]; omega
  have short : ¬ (!its.toArray.isEmpty && Builtin.List.listTooLong (its.toArray.size + its2.toArray.size)) = true := by
    rw [notLongL room, Bool.and_false]; exact Bool.false_ne_true
  refine call_meets PySem.F.slot_list_extend ⟨_, e, rfl⟩ PySem.F.entry_list_extend (PySem.F.args_list_extend_2 _ _) (extend_by l its.toArray n b d2 its2.toArray n2 sl2 short (by rw [List.size_toArray]; omega) (by omega)) ⟨e, e2, ?_⟩
  refine ⟨.non, _, I.lset (its' := its ++ its2) (t' := s.toks) hH e (by simp) (r.append r2) ?_, rfl, q⟩
  rw [List.length_append]; omega
end
end Rp

namespace Rp
open PySem L2
/-- values and TERMs side by side -/
def AllAt (H : Hp) : List V → List Tm → Prop
  | [], [] => True
  | x :: xs, t :: ts => TmAt H x t ∧ AllAt H xs ts
  | _, _ => False
theorem AllAt.len {H : Hp} : ∀ {xs : List V} {ts : List Tm}, AllAt H xs ts → xs.length = ts.length
  | [], [], _ => rfl
  | x :: xs, t :: ts, h => congrArg (· + 1) (AllAt.len h.2)
theorem AllAt.append {H : Hp} : ∀ {xs ys : List V} {ts us : List Tm}, AllAt H xs ts → AllAt H ys us → AllAt H (xs ++ ys) (ts ++ us)
  | [], _, [], _, _, h => h
  | x :: xs, _, t :: ts, _, h, h' => ⟨h.1, AllAt.append h.2 h'⟩
theorem AllAt.parted {H : Hp} : ∀ {xs ys : List V} {ts : List Tm}, AllAt H (xs ++ ys) ts → ∃ t1 t2, ts = t1 ++ t2 ∧ AllAt H xs t1 ∧ AllAt H ys t2
  | [], _, ts, h => ⟨[], ts, rfl, trivial, h⟩
  | x :: xs, ys, t :: ts, h => by
    obtain ⟨t1, t2, e, h1, h2⟩ := AllAt.parted (xs := xs) h.2
    exact ⟨t :: t1, t2, by rw [e]; rfl, ⟨h.1, h1⟩, h2⟩
theorem AllAt.mono {H H' : Hp} (e : ∀ a xs, H a = some (.tup xs) → H' a = some (.tup xs)) : ∀ {xs : List V} {ts : List Tm}, AllAt H xs ts → AllAt H' xs ts
  | [], [], _ => trivial
  | x :: xs, t :: ts, h => ⟨h.1.mono e, AllAt.mono e h.2⟩
theorem AllAt.back {H : Hp} : ∀ {xs : List V} {ts : List Tm}, AllAt H xs ts → AllAt H xs.reverse ts.reverse
  | [], [], _ => trivial
  | x :: xs, t :: ts, h => by
    rw [List.reverse_cons, List.reverse_cons]
    exact (AllAt.back h.2).append ⟨h.1, trivial⟩
theorem AllAt.get {H : Hp} : ∀ {xs : List V} {ts : List Tm} {i : Nat} {x : V}, AllAt H xs ts → xs[i]? = some x → ∃ t, ts[i]? = some t ∧ TmAt H x t
  | x :: xs, t :: ts, 0, y, h, e => by simp at e; subst e; exact ⟨t, rfl, h.1⟩
  | x :: xs, t :: ts, i + 1, y, h, e => by simpa using AllAt.get h.2 (by simpa using e)
theorem AllAt.of {H : Hp} : ∀ {xs : List V} {ts : List Tm}, xs.length = ts.length → (∀ (i : Nat) (x : V) (k : Tm), xs[i]? = some x → ts[i]? = some k → TmAt H x k) → AllAt H xs ts
  | [], [], _, _ => trivial
  | x :: xs, t :: ts, l, h => ⟨h 0 x t rfl rfl, AllAt.of (by simpa using l) fun i y k a b => h (i + 1) y k (by simpa using a) (by simpa using b)⟩
def spParts : Sp := fun vs H Q _ => ∃ (v : V) (t : Tm), vs = [v] ∧ TmAt H v t ∧ ∀ (p : Addr) (ks : List V) (H' : Hp), H p = none → H' p = some (.tup ks) → AllAt H' ks t.kids → Same H H' → Q (.ref p) H'
def spInside : Sp := fun vs H Q _ => ∃ (v : V) (t : Tm), vs = [v] ∧ TmAt H v t ∧ t.size ≤ 1000 ∧ ∀ (p : Addr) (xs : List V) (H' : Hp), H p = none → H' p = some (.lst xs) → AllAt H' xs t.rpost.reverse → Same H H' → Q (.ref p) H'
def spSize : Sp := fun vs H Q _ => ∃ (v : V) (t : Tm), vs = [v] ∧ TmAt H v t ∧ t.size ≤ 1000 ∧ ∀ H', Same H H' → Q (.int (t.size : Nat)) H'
def spVars : Sp := fun vs H Q _ => ∃ (v : V) (t : Tm), vs = [v] ∧ TmAt H v t ∧ t.size ≤ 60 ∧ ∀ (p : Addr) (ns : List Int) (H' : Hp), H p = none → H' p = some (.lst (ns.map V.int)) → ns.Pairwise (· < ·) → (∀ k, k ∈ ns ↔ k ∈ t.nums) → Same H H' → Q (.ref p) H'
section
variable {P : Program} {w : World} {K : PySem.W.Frag} {mg : Str → Option Value} {base : Heap}
theorem scParts : FnScope ["term"] ["term"] (defScope sParts) := ⟨rfl, rfl, rfl, by decide +kernel, rfl, by decide +kernel, by decide +kernel⟩
theorem ok_parts {f : Addr} {fd : FuncData} (F : Fun K "_parts" "_parts" sParts f fd) (mIsi : mg "isinstance" = none) (mInt : mg "int" = none) : FnOk P w K mg base CX0 1 f fd ["term"] spParts := by
  refine F.ok scParts (fun vs H Q E h => ?_) (fun cdv A outer s H vs Q E hr h => ?_)
  · obtain ⟨v, t, rfl, _⟩ := h
    rfl
  obtain ⟨v, t, rfl, T, q⟩ := h
  refine ⟨_, pss_one (ps_ret (pe_ifExp (pt_val (pe_callB call_isi (by rfl) mIsi (by decide +kernel) (pa_cons (pv 0) (pa_cons (pe_bltn (v := .ty "int") (by rfl) mInt (by decide +kernel) rfl) pa_nil)))) (pe_tup pa_nil) (pe_slice sl_tup (pv 0) (po_some pe_int) po_none))), ?_⟩
  rcases T.ty (K := K) with ⟨m, rfl, rfl⟩ | ⟨a, xs, rfl, ha, ty, no⟩
  · refine ⟨_, rfl, _, _, _, _, true, rfl, .ty "int", .base (.int m), kit_ii, true, rfl, iteT ?_⟩
    exact ⟨(by show 0 ≤ sizeLine; decide), fun p hp => q p [] _ hp upd_same trivial (same_new hp _)⟩
  · obtain ⟨a', ks, e, ha', hk, hks⟩ := T.tupled no
    cases e
    refine ⟨_, rfl, _, _, _, _, false, rfl, .ty "int", ty, kit_ti, false, rfl, iteF ?_⟩
    refine ⟨_, rfl, 1, rfl, a, _, rfl, .inl (.inl ha'), cut_part _ _, fun p hp => ?_⟩
    rw [cut_tail]
    have s1 := same_new hp (.tup ks)
    exact q p ks _ hp upd_same (AllAt.of hk fun i x k a b => (hks i x k a b).same s1) s1
theorem scInside : FnScope ["term", "found", "todo", "part"] ["term"] (defScope sInside) := ⟨rfl, rfl, rfl, by decide +kernel, rfl, by decide +kernel, by decide +kernel⟩
/-- how many parts are still to come -/
def leftOf (n : Nat) (σ : List (Option V)) (H : Hp) : Nat := match σ with
  | _ :: some (V.ref p) :: _ => (match H p with
    | some (HO.lst xs) => n - xs.length
    | _ => 0)
  | _ => 0
theorem leftOf_is {n : Nat} {v : Option V} {p : Addr} {r : List (Option V)} {H : Hp} {xs : List V} (h : H p = some (.lst xs)) : leftOf n (v :: some (.ref p) :: r) H = n - xs.length := by
  unfold leftOf
  simp [h]
theorem ok_inside {f fP : Addr} {fd fdP : FuncData} (F : Fun K "inside_out" "inside_out" sInside f fd) (FP : Fun K "_parts" "_parts" sParts fP fdP) (bP : Binds K fdP ["term"] []) (mP : mg "_parts" = some (.ref fP)) (mIsi : mg "isinstance" = none) (mInt : mg "int" = none) :
    FnOk P w K mg base CX0 2 f fd ["term"] spInside := by
  have GP : FnOk P w K mg base CX0 1 fP fdP ["term"] spParts := ok_parts FP mIsi mInt
  refine F.ok scInside (fun vs H Q E h => ?_) (fun cdv A outer s H vs Q E hr h => ?_)
  · obtain ⟨v, t, rfl, _⟩ := h
    rfl
  obtain ⟨v, t, rfl, T, hz, q⟩ := h
  refine ⟨_, pss_cons (ps_set (i := 1) scInside.nd rfl (Or.inl rfl) (pe_lst pa_nil))
    (pss_cons (ps_set (i := 2) scInside.nd rfl (Or.inl rfl) (pe_lst (pa_cons (pv 0) pa_nil)))
    (pss_cons (ps_while PassesOwn.never (pt_truth (pv 2) (by intro _; rfl))
      (pss_cons (ps_set (i := 3) scInside.nd rfl (Or.inl rfl) (pe_bm0 PySem.F.plainAttrs_list PySem.F.slot_list_pop PySem.F.type_list_pop mt_pop (pv 2)))
      (pss_cons (ps_expr (pe_bm PySem.F.plainAttrs_list PySem.F.slot_list_append PySem.F.type_list_append mt_append (pv 1) (pa_cons (pv 3) pa_nil)))
      (pss_one (ps_expr (pe_bm PySem.F.plainAttrs_list PySem.F.slot_list_extend PySem.F.type_list_extend mt_extendT (pv 2) (pa_cons (pe_call GP hr rfl mP FP.kp bP .nil pass0 (pa_cons (pv 3) pa_nil)) pa_nil)))))))
    (pss_one (ps_ret (pe_revL (pv 1)))))), ?_⟩
  refine ⟨(by show 0 ≤ sizeLine; decide), fun p hp => ?_⟩
  refine ⟨_, rfl, (by show 1 ≤ sizeLine; decide), fun d hd => ?_⟩
  have s1 := same_new hp (.lst [])
  have s2 := same_new hd (.lst [v])
  have s12 : Same H _ := s1.trans s2
  have pd : p ≠ d := ne_of_none upd_same hd
  dsimp only [gName, tSeq]
  refine while_by (fun σ H2 => ∃ (fxs txs : List V) (fs ts : List Tm) (x : Option V), σ = [some v, some (.ref p), some (.ref d), x] ∧ H2 p = some (.lst fxs) ∧ H2 d = some (.lst txs) ∧ AllAt H2 fxs fs ∧ AllAt H2 txs ts ∧ fs ++ ts.reverse.flatMap Tm.rpost = t.rpost ∧ Same H H2)
    (leftOf t.size) ⟨[], [v], [], [t], none, rfl, s2 _ _ upd_same, upd_same, trivial, ⟨T.same s12, trivial⟩, by simp, s12⟩ ?_ (fun σ H Q Q' m ⟨v, hv, k, hk, q⟩ => ⟨v, hv, k, hk, m _ _ q⟩)
  rintro σ H2 ⟨fxs, txs, fs, ts, x, rfl, h1, h2, A1, A2, eq, sH⟩
  refine ⟨_, rfl, !txs.isEmpty, .inl ⟨txs, .inl (.inl h2), rfl⟩, ?_⟩
  have tot := congrArg List.length eq
  rw [List.length_append, Tm.rpost_len, ← A1.len] at tot
  rcases List.eq_nil_or_concat txs with e | ⟨M, y, e⟩
  · subst e
    refine iteF ?_
    have e2 : ts = [] := by have := A2.len; cases ts with | nil => rfl | cons => simp at this
    subst e2
    have e3 : fs = t.rpost := by simpa using eq
    subst e3
    refine ⟨_, rfl, p, _, rfl, .inl (.inl h1), fun r hr2 => ?_⟩
    have s3 := same_new hr2 (.lst fxs.reverse)
    refine q r _ _ (sH.free hr2) upd_same (A1.back.mono fun a xs z => s3 _ _ z) (sH.trans s3)
  · rw [List.concat_eq_append] at e
    subst e
    have ne : (!(M ++ [y]).isEmpty) = true := by simp
    rw [ne]
    refine iteT ?_
    obtain ⟨L, k', e2, AM, Ay⟩ := A2.parted
    subst e2
    obtain ⟨k, rfl, Tk⟩ : ∃ k, k' = [k] ∧ TmAt H2 y k := by
      match k', Ay with
      | [k], Ay => exact ⟨k, rfl, Ay.1⟩
    have ek : fs ++ (k :: (k.kids.reverse.flatMap Tm.rpost ++ L.reverse.flatMap Tm.rpost)) = t.rpost := by
      rw [← eq]
      simp [Tm.rpost_kids k]
    have room : fxs.length < t.size := by
      have := congrArg List.length ek
      rw [List.length_append, Tm.rpost_len, ← A1.len, List.length_cons] at this
      omega
    have big := big1000
    -- part = todo.pop()
    refine ⟨_, rfl, .inl ⟨rfl, _, .inl (.inl h2)⟩, d, _, y, rfl, rfl, h2, by simp, ?_⟩
    rw [List.dropLast_concat]
    have dp : d ≠ p := fun z => pd z.symm
    have t3 : ∀ a xs, H2 a = some (.tup xs) → upd H2 d (.lst M) a = some (.tup xs) := fun a xs z => by rw [upd_ne (ne_of z h2 (by intro z; cases z))]; exact z
    -- found.append(part)
    refine ⟨_, rfl, .inl ⟨rfl, fxs, .inl (.inl (by rw [upd_ne pd]; exact h1))⟩, _, rfl, p, fxs, y, rfl, rfl, (by rw [upd_ne pd]; exact h1), by omega, ?_⟩
    have h1' : (upd (upd H2 d (.lst M)) p (.lst (fxs ++ [y]))) p = some (.lst (fxs ++ [y])) := upd_same
    have h2' : (upd (upd H2 d (.lst M)) p (.lst (fxs ++ [y]))) d = some (.lst M) := by rw [upd_ne dp]; exact upd_same
    have t4 : ∀ a xs, H2 a = some (.tup xs) → (upd (upd H2 d (.lst M)) p (.lst (fxs ++ [y]))) a = some (.tup xs) := fun a xs z => by
      rw [upd_ne (ne_of z h1 (by intro z; cases z))]; exact t3 a xs z
    have pn : H p = none := hp
    have dn : H d = none := s1.free hd
    have sH4 : Same H (upd (upd H2 d (.lst M)) p (.lst (fxs ++ [y]))) := fun b o z => by
      rw [upd_ne (ne_of_none z pn), upd_ne (ne_of_none z dn)]; exact sH b o z
    -- todo.extend(_parts(part))
    refine ⟨_, rfl, .inl ⟨rfl, M, .inl (.inl h2')⟩, _, rfl, y, k, rfl, Tk.mono t4, fun g ks H5 hg h5 A5 s5 => ?_⟩
    have kl := A5.len
    have lim : M.length + ks.length ≤ sizeLine := by
      have a1 := congrArg List.length ek
      have a2 : k.kids.length ≤ 2 := by cases k <;> simp [Tm.kids]
      have a3 : L.length ≤ (L.reverse.flatMap Tm.rpost).length := by
        have : ∀ l : List Tm, l.length ≤ (l.flatMap Tm.rpost).length := by
          intro l
          induction l with
          | nil => simp
          | cons z l ih => rw [List.flatMap_cons, List.length_append, Tm.rpost_len, List.length_cons]; have := Tm.size_pos z; omega
        have := this L.reverse
        rwa [List.length_reverse] at this
      have a4 := AM.len
      rw [List.length_append, List.length_cons, List.length_append, Tm.rpost_len] at a1
      have a5 : (1000 : Nat) + 1000 ≤ sizeLine := by decide
      omega
    refine ⟨d, g, M, ks, rfl, rfl, s5 _ _ h2', .inl (.inl h5), lim, ?_⟩
    have h1'' := s5 _ _ h1'
    have t6 : ∀ a xs, H5 a = some (.tup xs) → upd H5 d (.lst (M ++ ks)) a = some (.tup xs) := fun a xs z => by rw [upd_ne (ne_of z (s5 _ _ h2') (by intro z; cases z))]; exact z
    have t7 : ∀ a xs, H2 a = some (.tup xs) → upd H5 d (.lst (M ++ ks)) a = some (.tup xs) := fun a xs z => t6 a xs (s5 _ _ (t4 a xs z))
    have h1d : (upd H5 d (.lst (M ++ ks))) p = some (.lst (fxs ++ [y])) := by rw [upd_ne pd]; exact h1''
    refine ⟨⟨fxs ++ [y], M ++ ks, fs ++ [k], L ++ k.kids, some y, rfl, h1d, upd_same, (A1.mono t7).append ⟨Tk.mono t7, trivial⟩, (AM.mono t7).append (A5.mono t6), ?_, ?_⟩, ?_⟩
    · rw [← ek]; simp
    · intro b o z
      rw [upd_ne (ne_of_none z dn)]
      exact s5 _ _ (sH4 b o z)
    · show leftOf t.size (some v :: some (.ref p) :: _) _ < leftOf t.size (some v :: some (.ref p) :: _) H2
      rw [leftOf_is h1d, leftOf_is h1, List.length_append, List.length_singleton]
      omega
end
end Rp

namespace Rp
open PySem L2
section
variable {P : Program} {w : World} {K : PySem.W.Frag} {mg : Str → Option Value} {base : Heap}
theorem scVars : FnScope ["term", "part"] ["term"] (defScope sVars) := ⟨rfl, rfl, rfl, by decide +kernel, rfl, by decide +kernel, by decide +kernel⟩
theorem back_len (t : Tm) : t.rpost.reverse.length = t.size := by rw [List.length_reverse, Tm.rpost_len]
theorem ok_vars {f fI : Addr} {fd fdI : FuncData} (F : Fun K "variables" "variables" sVars f fd) (GI : FnOk P w K mg base CX0 2 fI fdI ["term"] spInside) (kI : PySem.W.keepIn K (.ref fI) = true) (bI : Binds K fdI ["term"] []) (mI : mg "inside_out" = some (.ref fI))
    (mSorted : mg "sorted" = none) (mIsi : mg "isinstance" = none) (mInt : mg "int" = none) : FnOk P w K mg base CX0 3 f fd ["term"] spVars := by
  refine F.ok scVars (fun vs H Q E h => ?_) (fun cdv A outer s H vs Q E hr h => ?_)
  · obtain ⟨v, t, rfl, _⟩ := h
    rfl
  obtain ⟨v, t, rfl, T, hz, q⟩ := h
  refine ⟨_, pss_one (ps_ret (pe_callB (cr_sortedSet rfl) (by rfl) mSorted (by decide +kernel) (pa_cons (pe_scI (own := [("part", 1)]) (g := gName 1) (tt := tB (tCB (rIsi K) (tCons (tVar 1) (tCons (tC (.ty "int")) tNil)))) (te := tVar 1) rfl scVars.nd
      (pi_list (pe_call GI hr rfl mI kI bI .nil pass0 (pa_cons (pv 0) pa_nil))) (blkOk_by (N := ["term", "part"]) (sc := defScope sVars) (by decide +kernel)) (fun _ _ _ _ _ => pg_name (i := 1) scVars.nd rfl (Or.inl rfl))
      (fun _ _ _ _ _ => pts_one (pt_val (pe_callB (id := "isinstance") call_isi (by rfl) mIsi (by decide +kernel) (pa_cons (pv 1) (pa_cons (pe_bltn (v := .ty "int") (by rfl) mInt (by decide +kernel) rfl) pa_nil)))))
      (fun _ _ _ _ _ => pv 1)) pa_nil))), ?_⟩
  refine ⟨_, rfl, v, t, rfl, T, by omega, fun p xs H1 hp h A s1 => ?_⟩
  refine ⟨p, rfl, ⟨xs, .inl (.inl h)⟩, fun D hD => scI_list (K := K) (a := p) (xs := xs) (fun i H2 => ∃ (S : Int → Bool) (n : Nat), H2 D = some (SetO w D S n) ∧ n ≤ i ∧ (∀ k, S k = true ↔ Tm.v k ∈ t.rpost.reverse.take i) ∧
    (∀ b o, H1 b = some o → H2 b = some o)) ⟨_, 0, upd_same, Nat.le_refl _, fun k => by simp, fun b o z => by rw [upd_ne (ne_of_none z hD)]; exact z⟩ (fun i H2 _ ⟨_, _, _, _, _, z⟩ => .inl (.inl (z _ _ h))) ?_ ?_⟩
  · rintro i x H2 hi ⟨S, n, hS, hn, hm, hk⟩
    obtain ⟨k, hk1, Tk⟩ := A.get hi
    have lt : i < t.size := by rw [← back_len t, ← A.len]; exact (List.getElem?_eq_some_iff.mp hi).1
    have tk : t.rpost.reverse.take (i + 1) = t.rpost.reverse.take i ++ [k] := by rw [List.take_add_one, hk1]; rfl
    have Tk2 := Tk.mono (H' := H2) fun a ys z => hk _ _ z
    rcases Tk2.ty (K := K) with ⟨m, rfl, rfl⟩ | ⟨a, ys, rfl, ha, ty, no⟩
    · refine ⟨rfl, _, rfl, _, _, _, _, true, rfl, .ty "int", .base (.int m), kit_ii, true, rfl, iteT ?_⟩
      refine ⟨_, rfl, m, S, n, rfl, hS, (Nat.lt_of_le_of_lt (by omega : n + 1 ≤ 100) (by decide : 100 < scanBound)), ?_⟩
      refine ⟨_, _, upd_same, ?_, fun k => ?_, fun b o z => ?_⟩
      · split <;> omega
      · rw [tk, List.mem_append, ← hm k]
        simp
      · have nb : b ≠ D := fun e => by subst e; rw [hD] at z; cases z
        rw [upd_ne nb]
        exact hk b o z
    · refine ⟨rfl, _, rfl, _, _, _, _, false, rfl, .ty "int", ty, kit_ti, false, rfl, iteF ?_⟩
      refine ⟨S, n, hS, by omega, fun k' => ?_, hk⟩
      rw [tk, List.mem_append, ← hm k']
      simp
      intro e
      exact absurd e.symm (no k')
  · rintro H2 ⟨S, n, hS, hn, hm, hk⟩
    refine ⟨D, S, n, rfl, hS, ?_, fun ns p2 up mem len hp2 => ?_⟩
    · have := A.len
      rw [back_len] at this
      omega
    · refine q p2 ns _ ?_ upd_same up (fun k => ?_) ?_
      · exact s1.free (Same.free (H := H1) hk hp2)
      · rw [mem k, hm k, List.take_of_length_le (by rw [A.len]; exact Nat.le_refl _), List.mem_reverse, Tm.mem_rpost]
      · exact s1.trans (Same.trans (H1 := H2) hk (same_new hp2 _))
end
end Rp

namespace Rp
open PySem L2 RZ
/-- [.. for a, b in zip(xs, ys)], both lists or both tuples, as long -/
theorem lc_pairs {J : It} {xs ys : List V} {g : TG} {tt : TT} {te : TE} {vs : List Nat} {σ : L2.St} {H1 : Hp} {D : Addr} {Qd : Hp → Prop} (same : xs.length = ys.length) (Pv : Nat → Hp → Prop)
    (stops : ∀ H, Pv xs.length H → J.stop xs.length H) (goes : ∀ i H, i < xs.length → Pv i H → J.go i H)
    (gives : ∀ i H v H', Pv i H → J.yld i H v H' → ∃ T x y, v = .ref T ∧ xs[i]? = some x ∧ ys[i]? = some y ∧ H T = none ∧ H' = upd H T (.tup [x, y]))
    (h0 : Pv 0 (upd H1 D (.lst [])))
    (hs : ∀ (i : Nat) (x y : V) (T : Addr) (H : Hp), xs[i]? = some x → ys[i]? = some y → Pv i H → H T = none → g (.ref T) (wipe σ vs) (upd H T (.tup [x, y])) fun σ2 H2 => wipe σ2 vs = wipe σ vs ∧
      tt σ2 H2 fun b H3 => if b = true then te σ2 H3 fun y H4 => ∃ acc, H4 D = some (.lst acc) ∧ acc.length < sizeLine ∧ Pv (i + 1) (upd H4 D (.lst (acc ++ [y]))) else Pv (i + 1) H3)
    (hd : ∀ H, Pv xs.length H → Qd H) :
    ∃ W : Nat → Nat → Hp → Prop, (∃ m, W 0 m (upd H1 D (.lst []))) ∧ ∀ i m H, W i m H → (J.stop i H ∧ Qd H) ∨
      (J.go i H ∧ ∃ Nx : Hp → Prop, (∀ H', Nx H' → ∃ m', m' < m ∧ W (i + 1) m' H') ∧ ∀ x H', J.yld i H x H' → g x (wipe σ vs) H' fun σ2 H2 => wipe σ2 vs = wipe σ vs ∧
        tt σ2 H2 fun b H3 => if b = true then te σ2 H3 fun y H4 => ∃ acc, H4 D = some (.lst acc) ∧ acc.length < sizeLine ∧ Nx (upd H4 D (.lst (acc ++ [y]))) else Nx H3) := by
  refine ⟨fun i m H => m + i = xs.length ∧ Pv i H, ⟨xs.length, by simp, h0⟩, ?_⟩
  rintro i m H ⟨em, p⟩
  rcases Nat.lt_or_ge i xs.length with lt | ge
  · refine .inr ⟨goes i H lt p, Pv (i + 1), fun H' p' => ⟨m - 1, by omega, by omega, p'⟩, fun v H' y => ?_⟩
    obtain ⟨T, x, y', rfl, hx, hy, hT, rfl⟩ := gives i H v H' p y
    exact hs i x y' T H hx hy p hT
  · have e : i = xs.length := by omega
    subst e
    exact .inl ⟨stops H p, hd H p⟩
def spSame (n : Nat) : Sp := fun vs H Q _ => ∃ (x y : V) (m : Nat), vs = [x, y] ∧ n = m + 1 ∧ Alike H m x y ∧ ∀ H', Same H H' → Q (.bl true) H'
section
variable {P : Program} {w : World} {K : PySem.W.Frag} {mg : Str → Option Value} {base : Heap}
structure SameG (mg : Str → Option Value) : Prop where
  isi : mg "isinstance" = none
  list : mg "list" = none
  tuple : mg "tuple" = none
  len : mg "len" = none
  all : mg "all" = none
  zip : mg "zip" = none
  str : mg "str" = none
  int : mg "int" = none
  bool : mg "bool" = none
theorem scSame : FnScope ["_law_found", "_law_due", "_law_one", "_law_two"] ["_law_found", "_law_due"] (defScope sSame) := ⟨rfl, rfl, rfl, by decide +kernel, rfl, by decide +kernel, by decide +kernel⟩
theorem kitB_of {K : PySem.W.Frag} {a b : String} {r : Bool} (h : kitB a b = some r) : PySem.W.kitOne K (.type a) (.type b) = some r := h
theorem kit_lt {K : PySem.W.Frag} {a : String} {p r : Bool} (h1 : kitB a "list" = some p) (h2 : kitB a "tuple" = some r) : PySem.W.kitAny K (.type a) [.type "list", .type "tuple"] = some (p || r) := by
  refine kitAny_cons (kitB_of h1) (fun e => ?_) (fun e => by rw [e]; rfl)
  refine kitAny_cons (kitB_of h2) (fun e2 => by rw [e, e2]; exact kitAny_nil) (fun e2 => by rw [e, e2]; rfl)
theorem ok_same {n : Nat} {f : Addr} {fd : FuncData} (F : Fun K "_law_same" "_law_same" sSame f fd) (b2 : Binds K fd ["_law_found", "_law_due"] []) (mF : mg "_law_same" = some (.ref f)) (G : FnOk P w K mg base CX0 n f fd ["_law_found", "_law_due"] (spSame n)) (M : SameG mg) :
    FnOk P w K mg base CX0 (n + 1) f fd ["_law_found", "_law_due"] (spSame (n + 1)) := by
  refine F.ok scSame (fun vs H Q E h => ?_) (fun cdv A outer s H vs Q E hr h => ?_)
  · obtain ⟨x, y, m, rfl, _⟩ := h
    rfl
  obtain ⟨x, y, m, rfl, em, hA, q⟩ := h
  have em : n = m := by omega
  subst em
  refine ⟨_, pss_cons (ps_if (pt_val (pe_callB (id := "isinstance") call_isiT (by rfl) M.isi (by decide +kernel) (pa_cons (pv 1) (pa_cons (pe_tup (pa_cons (pe_bltn (v := .ty "list") (by rfl) M.list (by decide +kernel) rfl) (pa_cons (pe_bltn (v := .ty "tuple") (by rfl) M.tuple (by decide +kernel) rfl) pa_nil))) pa_nil))))
      (pss_cons (ps_if (PW.pt (pw_or (pt_cmpR op_ne
            (pe_callB (id := "isinstance") call_isi (by rfl) M.isi (by decide +kernel) (pa_cons (pv 0) (pa_cons (pe_bltn (v := .ty "list") (by rfl) M.list (by decide +kernel) rfl) pa_nil)))
            (pe_callB (id := "isinstance") call_isi (by rfl) M.isi (by decide +kernel) (pa_cons (pv 1) (pa_cons (pe_bltn (v := .ty "list") (by rfl) M.list (by decide +kernel) rfl) pa_nil))) (nomark _))
          (pw_or1 (pt_cmpR op_ne
            (pe_callB (id := "isinstance") call_isi (by rfl) M.isi (by decide +kernel) (pa_cons (pv 0) (pa_cons (pe_bltn (v := .ty "tuple") (by rfl) M.tuple (by decide +kernel) rfl) pa_nil)))
            (pe_callB (id := "isinstance") call_isi (by rfl) M.isi (by decide +kernel) (pa_cons (pv 1) (pa_cons (pe_bltn (v := .ty "tuple") (by rfl) M.tuple (by decide +kernel) rfl) pa_nil))) (nomark _))))) (pss_one (ps_ret pe_bl)) pss_nil)
      (pss_cons (ps_if (pt_cmpR op_ne (pe_callB call_len_seq (by rfl) M.len PySem.boot_len (pa_cons (pv 0) pa_nil)) (pe_callB call_len_seq (by rfl) M.len PySem.boot_len (pa_cons (pv 1) pa_nil)) (nomark _)) (pss_one (ps_ret pe_bl)) pss_nil)
      (pss_one (ps_ret (pe_callB (cr_all rfl) (by rfl) M.all (by decide +kernel) (pa_cons (pe_lc (own := [("_law_one", 2), ("_law_two", 3)]) (g := gTup K 2 (gCons (gName 2) (gCons (gName 3) gNil))) (tt := tYes) (te := tCall (spSame n) [] E0 (tCons (tVar 2) (tCons (tVar 3) tNil))) rfl scSame.nd
        (pi_zipA (by rfl) M.zip (pa_cons (pv 0) (pa_cons (pv 1) pa_nil))) (blkOk_by (N := ["_law_found", "_law_due", "_law_one", "_law_two"]) (sc := defScope sSame) (by decide +kernel))
        (fun _ _ _ _ _ => pg_tup (by rfl) (pgs_cons (pg_name (i := 2) scSame.nd rfl (Or.inl rfl)) (pgs_cons (pg_name (i := 3) scSame.nd rfl (Or.inl rfl)) pgs_nil)))
        (fun _ _ _ _ _ => pts_nil) (fun _ _ _ _ _ => pe_call G hr (by rfl) mF F.kp b2 .nil pass0 (pa_cons (pv 2) (pa_cons (pv 3) pa_nil)))) pa_nil)))))) pss_nil)
    (pss_cons (ps_if (PW.pt (pw_or (pt_cmpR op_isN (pv 1) pe_non (nomark _)) (pw_or1 (pt_val (pe_callB (id := "isinstance") call_isi (by rfl) M.isi (by decide +kernel) (pa_cons (pv 1) (pa_cons (pe_bltn (v := .ty "str") (by rfl) M.str (by decide +kernel) rfl) pa_nil)))))))
      (pss_one (ps_ret (pe_and (pe_cmpR op_eq (pv 0) (pv 1) (nomark _)) (pe_one (pe_cmpR op_eq
            (pe_callB (id := "isinstance") call_isi (by rfl) M.isi (by decide +kernel) (pa_cons (pv 0) (pa_cons (pe_bltn (v := .ty "str") (by rfl) M.str (by decide +kernel) rfl) pa_nil)))
            (pe_callB (id := "isinstance") call_isi (by rfl) M.isi (by decide +kernel) (pa_cons (pv 1) (pa_cons (pe_bltn (v := .ty "str") (by rfl) M.str (by decide +kernel) rfl) pa_nil))) (nomark _)))))) pss_nil)
    (pss_one (ps_ret (pe_and (pe_callB (id := "isinstance") call_isi (by rfl) M.isi (by decide +kernel) (pa_cons (pv 0) (pa_cons (pe_bltn (v := .ty "int") (by rfl) M.int (by decide +kernel) rfl) pa_nil)))
      (pe_and (pe_cmpR op_eq
            (pe_callB (id := "isinstance") call_isi (by rfl) M.isi (by decide +kernel) (pa_cons (pv 0) (pa_cons (pe_bltn (v := .ty "bool") (by rfl) M.bool (by decide +kernel) rfl) pa_nil)))
            (pe_callB (id := "isinstance") call_isi (by rfl) M.isi (by decide +kernel) (pa_cons (pv 1) (pa_cons (pe_bltn (v := .ty "bool") (by rfl) M.bool (by decide +kernel) rfl) pa_nil))) (nomark _))
        (pe_one (pe_cmpR op_eq (pv 0) (pv 1) (nomark _)))))))), ?_⟩
  refine ⟨_, rfl, (by show 2 ≤ sizeLine; decide), fun p hp => ?_⟩
  have s1 := same_new hp (.tup [V.ty "list", V.ty "tuple"])
  have plain : Plain x ∧ x = y ∨ ∃ m a b xs ys, n = m + 1 ∧ x = .ref a ∧ y = .ref b ∧ ((H a = some (.lst xs) ∧ H b = some (.lst ys)) ∨ (H a = some (.tup xs) ∧ H b = some (.tup ys))) ∧
      xs.length = ys.length ∧ xs.length ≤ 1000000 ∧ ∀ (i : Nat) (u v : V), xs[i]? = some u → ys[i]? = some v → Alike H m u v := by
    cases n with
    | zero => unfold Alike at hA; exact .inl hA
    | succ m =>
      unfold Alike at hA
      rcases hA with h | ⟨a, b, xs, ys, h⟩
      · exact .inl h
      · exact .inr ⟨m, a, b, xs, ys, rfl, h⟩
  rcases plain with ⟨px, rfl⟩ | ⟨m, a, b, xs, ys, rfl, rfl, rfl, kinds, hl, hz, each⟩
  · cases x with
    | int i =>
      refine ⟨_, p, _, _, [.type "list", .type "tuple"], false, rfl, upd_same, .cons (.ty _) (.cons (.ty _) .nil), .base (.int i), kit_lt (p := false) (r := false) (by decide +kernel) (by decide +kernel), false, rfl, iteF ?_⟩
      refine ⟨_, rfl, rfl, false, congrArg V.bl (decide_eq_false (fun z => nomatch z)), iteF ?_⟩
      refine ⟨_, rfl, _, _, _, _, false, rfl, .ty "str", .base (.int i), kitB_of (by decide +kernel), false, rfl, iteF ?_⟩
      refine ⟨_, rfl, _, _, _, _, true, rfl, .ty "int", .base (.int i), kitB_of (by decide +kernel), true, rfl, iteT ?_⟩
      refine ⟨_, rfl, _, _, _, _, false, rfl, .ty "bool", .base (.int i), kitB_of (by decide +kernel), _, rfl, _, _, _, _, false, rfl, .ty "bool", .base (.int i), kitB_of (by decide +kernel), rfl, true, congrArg V.bl (decide_eq_true rfl), iteT ?_⟩
      refine ⟨_, rfl, _, rfl, rfl, ?_⟩
      have e : decide (V.int i = V.int i) = true := decide_eq_true rfl
      rw [e]
      exact q _ s1
    | bl i =>
      refine ⟨_, p, _, _, [.type "list", .type "tuple"], false, rfl, upd_same, .cons (.ty _) (.cons (.ty _) .nil), .base (.bl i), kit_lt (p := false) (r := false) (by decide +kernel) (by decide +kernel), false, rfl, iteF ?_⟩
      refine ⟨_, rfl, rfl, false, congrArg V.bl (decide_eq_false (fun z => nomatch z)), iteF ?_⟩
      refine ⟨_, rfl, _, _, _, _, false, rfl, .ty "str", .base (.bl i), kitB_of (by decide +kernel), false, rfl, iteF ?_⟩
      refine ⟨_, rfl, _, _, _, _, true, rfl, .ty "int", .base (.bl i), kitB_of (by decide +kernel), true, rfl, iteT ?_⟩
      refine ⟨_, rfl, _, _, _, _, true, rfl, .ty "bool", .base (.bl i), kitB_of (by decide +kernel), _, rfl, _, _, _, _, true, rfl, .ty "bool", .base (.bl i), kitB_of (by decide +kernel), rfl, true, congrArg V.bl (decide_eq_true rfl), iteT ?_⟩
      refine ⟨_, rfl, _, rfl, rfl, ?_⟩
      have e : decide (V.bl i = V.bl i) = true := decide_eq_true rfl
      rw [e]
      exact q _ s1
    | str i =>
      refine ⟨_, p, _, _, [.type "list", .type "tuple"], false, rfl, upd_same, .cons (.ty _) (.cons (.ty _) .nil), .base (.str i), kit_lt (p := false) (r := false) (by decide +kernel) (by decide +kernel), false, rfl, iteF ?_⟩
      refine ⟨_, rfl, rfl, false, congrArg V.bl (decide_eq_false (fun z => nomatch z)), iteF ?_⟩
      refine ⟨_, rfl, _, _, _, _, true, rfl, .ty "str", .base (.str i), kitB_of (by decide +kernel), true, rfl, iteT ?_⟩
      refine ⟨_, rfl, _, rfl, rfl, true, congrArg V.bl (decide_eq_true rfl), iteT ?_⟩
      refine ⟨_, rfl, _, _, _, _, true, rfl, .ty "str", .base (.str i), kitB_of (by decide +kernel), _, rfl, _, _, _, _, true, rfl, .ty "str", .base (.str i), kitB_of (by decide +kernel), rfl, ?_⟩
      have e : decide (V.bl true = V.bl true) = true := decide_eq_true rfl
      rw [e]
      exact q _ s1
    | non =>
      refine ⟨_, p, _, _, [.type "list", .type "tuple"], false, rfl, upd_same, .cons (.ty _) (.cons (.ty _) .nil), .base .non, kit_lt (p := false) (r := false) (by decide +kernel) (by decide +kernel), false, rfl, iteF ?_⟩
      refine ⟨_, rfl, rfl, true, congrArg V.bl (decide_eq_true rfl), iteT ?_⟩
      refine iteT ?_
      refine ⟨_, rfl, _, rfl, rfl, true, congrArg V.bl (decide_eq_true rfl), iteT ?_⟩
      refine ⟨_, rfl, _, _, _, _, false, rfl, .ty "str", .base .non, kitB_of (by decide +kernel), _, rfl, _, _, _, _, false, rfl, .ty "str", .base .non, kitB_of (by decide +kernel), rfl, ?_⟩
      have e : decide (V.bl false = V.bl false) = true := decide_eq_true rfl
      rw [e]
      exact q _ s1
    | _ => exact px.elim
  · rcases kinds with ⟨ha, hb⟩ | ⟨ha, hb⟩
    · have ha1 := s1 _ _ ha
      have hb1 := s1 _ _ hb
      refine ⟨_, p, _, _, [.type "list", .type "tuple"], true, rfl, upd_same, .cons (.ty _) (.cons (.ty _) .nil), .base (.lst hb1), kit_lt (p := true) (r := false) (by decide +kernel) (by decide +kernel), true, rfl, iteT ?_⟩
      refine ⟨_, rfl, _, _, _, _, true, rfl, .ty "list", .base (.lst ha1), kitB_of (by decide +kernel), _, rfl, _, _, _, _, true, rfl, .ty "list", .base (.lst hb1), kitB_of (by decide +kernel), rfl, false, congrArg (fun z => V.bl (!z)) (decide_eq_true rfl), iteF ?_⟩
      refine ⟨_, rfl, _, _, _, _, false, rfl, .ty "tuple", .base (.lst ha1), kitB_of (by decide +kernel), _, rfl, _, _, _, _, false, rfl, .ty "tuple", .base (.lst hb1), kitB_of (by decide +kernel), rfl, false, congrArg (fun z => V.bl (!z)) (decide_eq_true rfl), iteF ?_⟩
      refine ⟨_, rfl, a, _, rfl, .inl (.inl (.inl ha1)), _, rfl, b, _, rfl, .inl (.inl (.inl hb1)), rfl, false, congrArg (fun z => V.bl (!z)) (decide_eq_true (by rw [hl])), iteF ?_⟩
      refine ⟨_, rfl, _, rfl, a, b, xs, ys, rfl, .inl ⟨.inl (.inl ha1), .inl (.inl hb1), fun D hD => ?_⟩⟩
      refine lc_pairs (J := Itz K a b) (xs := xs) (ys := ys) hl (fun i H2 => H2 D = some (.lst (List.replicate i (V.bl true))) ∧ Same _ H2)
        (fun H2 h => ⟨xs, ys, .inl (.inl (h.2 _ _ ha1)), .inl (.inl (h.2 _ _ hb1)), .inl (Nat.le_refl _)⟩)
        (fun i H2 lt h => ⟨xs, ys, xs[i], ys[i]'(by omega), .inl (.inl (h.2 _ _ ha1)), .inl (.inl (h.2 _ _ hb1)), List.getElem?_eq_getElem lt, List.getElem?_eq_getElem (by omega)⟩)
        (fun i H2 v H3 h ⟨T, u, v', e1, hT, e2, f1, f2⟩ => ⟨T, u, v', e1, f1 xs (.inl (.inl (h.2 _ _ ha1))), f2 ys (.inl (.inl (h.2 _ _ hb1))), hT, e2⟩)
        ⟨upd_same, same_new hD _⟩ (fun i u v T H2 hu hv h hT => ?_) (fun H2 h => ⟨D, List.replicate xs.length true, rfl, .inl (.inl (by rw [List.map_replicate]; exact h.1)), ?_⟩)
      · have sT := same_new hT (.tup [u, v])
        refine ⟨T, _, rfl, .inl (.inl upd_same), rfl, _, _, rfl, _, _, rfl, rfl, rfl, ?_⟩
        have lt : i < xs.length := (List.getElem?_eq_some_iff.mp hu).1
        refine ⟨_, rfl, _, rfl, u, v, m, rfl, rfl, Alike.mono (s1.trans (h.2.trans sT)) m (each i u v hu hv), fun H4 s4 => ⟨_, s4 _ _ (sT _ _ h.1), ?_, ?_, ?_⟩⟩
        · rw [List.length_replicate]; exact Nat.lt_of_lt_of_le (by omega : i < 1000000) (by decide)
        · rw [upd_same, List.replicate_succ']
        · intro c o z
          have nD : c ≠ D := fun e => by subst e; rw [hD] at z; cases z
          rw [upd_ne nD]
          exact s4 _ _ (sT _ _ (h.2 _ _ z))
      · have e : (List.replicate xs.length true).all id = true := by rw [List.all_eq_true]; intro x hx; rw [List.eq_of_mem_replicate hx]; rfl
        rw [e]
        exact q _ (s1.trans h.2)
    · have ha1 := s1 _ _ ha
      have hb1 := s1 _ _ hb
      refine ⟨_, p, _, _, [.type "list", .type "tuple"], true, rfl, upd_same, .cons (.ty _) (.cons (.ty _) .nil), .base (.tup hb1), kit_lt (p := false) (r := true) (by decide +kernel) (by decide +kernel), true, rfl, iteT ?_⟩
      refine ⟨_, rfl, _, _, _, _, false, rfl, .ty "list", .base (.tup ha1), kitB_of (by decide +kernel), _, rfl, _, _, _, _, false, rfl, .ty "list", .base (.tup hb1), kitB_of (by decide +kernel), rfl, false, congrArg (fun z => V.bl (!z)) (decide_eq_true rfl), iteF ?_⟩
      refine ⟨_, rfl, _, _, _, _, true, rfl, .ty "tuple", .base (.tup ha1), kitB_of (by decide +kernel), _, rfl, _, _, _, _, true, rfl, .ty "tuple", .base (.tup hb1), kitB_of (by decide +kernel), rfl, false, congrArg (fun z => V.bl (!z)) (decide_eq_true rfl), iteF ?_⟩
      refine ⟨_, rfl, a, _, rfl, .inr (.inl (.inl ha1)), _, rfl, b, _, rfl, .inr (.inl (.inl hb1)), rfl, false, congrArg (fun z => V.bl (!z)) (decide_eq_true (by rw [hl])), iteF ?_⟩
      refine ⟨_, rfl, _, rfl, a, b, xs, ys, rfl, .inr ⟨.inl (.inl ha1), .inl (.inl hb1), fun D hD => ?_⟩⟩
      refine lc_pairs (J := ItzT K a b) (xs := xs) (ys := ys) hl (fun i H2 => H2 D = some (.lst (List.replicate i (V.bl true))) ∧ Same _ H2)
        (fun H2 h => ⟨xs, ys, .inl (.inl (h.2 _ _ ha1)), .inl (.inl (h.2 _ _ hb1)), .inl (Nat.le_refl _)⟩)
        (fun i H2 lt h => ⟨xs, ys, xs[i], ys[i]'(by omega), .inl (.inl (h.2 _ _ ha1)), .inl (.inl (h.2 _ _ hb1)), List.getElem?_eq_getElem lt, List.getElem?_eq_getElem (by omega)⟩)
        (fun i H2 v H3 h ⟨T, u, v', e1, hT, e2, f1, f2⟩ => ⟨T, u, v', e1, f1 xs (.inl (.inl (h.2 _ _ ha1))), f2 ys (.inl (.inl (h.2 _ _ hb1))), hT, e2⟩)
        ⟨upd_same, same_new hD _⟩ (fun i u v T H2 hu hv h hT => ?_) (fun H2 h => ⟨D, List.replicate xs.length true, rfl, .inl (.inl (by rw [List.map_replicate]; exact h.1)), ?_⟩)
      · have sT := same_new hT (.tup [u, v])
        refine ⟨T, _, rfl, .inl (.inl upd_same), rfl, _, _, rfl, _, _, rfl, rfl, rfl, ?_⟩
        have lt : i < xs.length := (List.getElem?_eq_some_iff.mp hu).1
        refine ⟨_, rfl, _, rfl, u, v, m, rfl, rfl, Alike.mono (s1.trans (h.2.trans sT)) m (each i u v hu hv), fun H4 s4 => ⟨_, s4 _ _ (sT _ _ h.1), ?_, ?_, ?_⟩⟩
        · rw [List.length_replicate]; exact Nat.lt_of_lt_of_le (by omega : i < 1000000) (by decide)
        · rw [upd_same, List.replicate_succ']
        · intro c o z
          have nD : c ≠ D := fun e => by subst e; rw [hD] at z; cases z
          rw [upd_ne nD]
          exact s4 _ _ (sT _ _ (h.2 _ _ z))
      · have e : (List.replicate xs.length true).all id = true := by rw [List.all_eq_true]; intro x hx; rw [List.eq_of_mem_replicate hx]; rfl
        rw [e]
        exact q _ (s1.trans h.2)
theorem same_ok {f : Addr} {fd : FuncData} (F : Fun K "_law_same" "_law_same" sSame f fd) (b2 : Binds K fd ["_law_found", "_law_due"] []) (mF : mg "_law_same" = some (.ref f)) (M : SameG mg) :
    ∀ n : Nat, FnOk P w K mg base CX0 n f fd ["_law_found", "_law_due"] (spSame n)
  | 0 => none_left fun vs H Q E h => by
    obtain ⟨x, y, m, _, e, _⟩ := h
    omega
  | n + 1 => ok_same F b2 mF (same_ok F b2 mF M n) M
end
end Rp

/-! Data of any depth: what stands as which, and which data are TERMs. -/
namespace Rp
open PySem L2
/-- a tuple stands at a, plain or not -/
def TupAt (H : Hp) (a : Addr) (xs : List V) : Prop := H a = some (.tup xs) ∨ ∃ o, H a = some (.frz o (.tup xs))
theorem TupAt.same {H H' : Hp} {a : Addr} {xs : List V} (e : Same H H') (h : TupAt H a xs) : TupAt H' a xs := h.imp (fun q => e _ _ q) fun ⟨o, q⟩ => ⟨o, e _ _ q⟩
theorem TupAt.but {H H' : Hp} {b a : Addr} {ys xs : List V} (e : But b H H') (hb : H b = some (.lst ys)) (h : TupAt H a xs) : TupAt H' a xs :=
  h.imp (fun q => e _ _ q (ne_of q hb (by intro z; cases z))) fun ⟨o, q⟩ => ⟨o, e _ _ q (ne_of q hb (by intro z; cases z))⟩
mutual
/-- the value v stands as the data d; its lists are others than the box b -/
def DAt (H : Hp) (b : Addr) : V → PyData → Prop
  | v, .none => v = .non
  | v, .bool c => v = .bl c
  | v, .int i => v = .int i
  | v, .str x => v = .str x
  | v, .list ds => ∃ (a : Addr) (xs : List V), v = .ref a ∧ a ≠ b ∧ H a = some (.lst xs) ∧ DAtAll H b xs ds
  | v, .tuple ds => ∃ (a : Addr) (xs : List V), v = .ref a ∧ TupAt H a xs ∧ DAtAll H b xs ds
  | _, .dict _ => False
def DAtAll (H : Hp) (b : Addr) : List V → List PyData → Prop
  | xs, [] => xs = []
  | xs, d :: ds => ∃ (x : V) (r : List V), xs = x :: r ∧ DAt H b x d ∧ DAtAll H b r ds
end
mutual
theorem DAt.dp {K : PySem.W.Frag} {H : Hp} {b : Addr} : ∀ (d : PyData) {v : V}, DAt H b v d → Dp K H v d
  | .none, _, h => by unfold DAt at h; subst h; exact .non
  | .bool _, _, h => by unfold DAt at h; subst h; exact .bl _
  | .int _, _, h => by unfold DAt at h; subst h; exact .int _
  | .str _, _, h => by unfold DAt at h; subst h; exact .str _
  | .list ds, _, h => by
    unfold DAt at h
    obtain ⟨a, xs, rfl, _, e, q⟩ := h
    exact .lst (.inl (.inl e)) (DAtAll.dp ds q)
  | .tuple ds, _, h => by
    unfold DAt at h
    obtain ⟨a, xs, rfl, e, q⟩ := h
    exact .tup (.inl e) (DAtAll.dp ds q)
  | .dict _, _, h => by unfold DAt at h; exact h.elim
theorem DAtAll.dp {K : PySem.W.Frag} {H : Hp} {b : Addr} : ∀ (ds : List PyData) {xs : List V}, DAtAll H b xs ds → DpAll K H xs ds
  | [], _, h => by unfold DAtAll at h; subst h; exact .nil
  | d :: ds, _, h => by
    unfold DAtAll at h
    obtain ⟨x, r, rfl, q, q'⟩ := h
    exact .cons (DAt.dp d q) (DAtAll.dp ds q')
end
mutual
theorem DAt.mono {H H' : Hp} {b : Addr} (et : ∀ a xs, TupAt H a xs → TupAt H' a xs) (el : ∀ a xs, a ≠ b → H a = some (.lst xs) → H' a = some (.lst xs)) : ∀ (d : PyData) {v : V}, DAt H b v d → DAt H' b v d
  | .none, _, h => by unfold DAt at h ⊢; exact h
  | .bool _, _, h => by unfold DAt at h ⊢; exact h
  | .int _, _, h => by unfold DAt at h ⊢; exact h
  | .str _, _, h => by unfold DAt at h ⊢; exact h
  | .list ds, _, h => by
    unfold DAt at h ⊢
    obtain ⟨a, xs, e, n, q, q'⟩ := h
    exact ⟨a, xs, e, n, el _ _ n q, DAtAll.mono et el ds q'⟩
  | .tuple ds, _, h => by
    unfold DAt at h ⊢
    obtain ⟨a, xs, e, q, q'⟩ := h
    exact ⟨a, xs, e, et _ _ q, DAtAll.mono et el ds q'⟩
  | .dict _, _, h => by unfold DAt at h; exact h.elim
theorem DAtAll.mono {H H' : Hp} {b : Addr} (et : ∀ a xs, TupAt H a xs → TupAt H' a xs) (el : ∀ a xs, a ≠ b → H a = some (.lst xs) → H' a = some (.lst xs)) : ∀ (ds : List PyData) {xs : List V}, DAtAll H b xs ds → DAtAll H' b xs ds
  | [], _, h => by unfold DAtAll at h ⊢; exact h
  | d :: ds, _, h => by
    unfold DAtAll at h ⊢
    obtain ⟨x, r, e, q, q'⟩ := h
    exact ⟨x, r, e, DAt.mono et el d q, DAtAll.mono et el ds q'⟩
end
theorem DAt.same {H H' : Hp} {b : Addr} (e : Same H H') {d : PyData} {v : V} (h : DAt H b v d) : DAt H' b v d := DAt.mono (fun a _ q => q.same e) (fun a _ _ q => e a _ q) d h
theorem DAt.but {H H' : Hp} {b : Addr} {ys : List V} (e : But b H H') (hb : H b = some (.lst ys)) {d : PyData} {v : V} (h : DAt H b v d) : DAt H' b v d :=
  DAt.mono (fun a _ q => q.but e hb) (fun a _ n q => e a _ q n) d h
theorem DAtAll.same {H H' : Hp} {b : Addr} (e : Same H H') {ds : List PyData} {xs : List V} (h : DAtAll H b xs ds) : DAtAll H' b xs ds := DAtAll.mono (fun a _ q => q.same e) (fun a _ _ q => e a _ q) ds h
theorem DAtAll.but {H H' : Hp} {b : Addr} {ys : List V} (e : But b H H') (hb : H b = some (.lst ys)) {ds : List PyData} {xs : List V} (h : DAtAll H b xs ds) : DAtAll H' b xs ds :=
  DAtAll.mono (fun a _ q => q.but e hb) (fun a _ n q => e a _ q n) ds h
theorem DAtAll.nil {H : Hp} {b : Addr} : DAtAll H b [] [] := by unfold DAtAll; rfl
theorem DAtAll.cons {H : Hp} {b : Addr} {x : V} {xs : List V} {d : PyData} {ds : List PyData} (h : DAt H b x d) (h' : DAtAll H b xs ds) : DAtAll H b (x :: xs) (d :: ds) := by unfold DAtAll; exact ⟨x, xs, rfl, h, h'⟩
theorem DAtAll.head {H : Hp} {b : Addr} {x : V} {xs : List V} {ds : List PyData} (h : DAtAll H b (x :: xs) ds) : ∃ d ds', ds = d :: ds' ∧ DAt H b x d ∧ DAtAll H b xs ds' := by
  cases ds with
  | nil => unfold DAtAll at h; cases h
  | cons d ds =>
    unfold DAtAll at h
    obtain ⟨y, r, e, q, q'⟩ := h
    cases e
    exact ⟨d, ds, rfl, q, q'⟩
theorem DAtAll.len {H : Hp} {b : Addr} : ∀ {xs : List V} {ds : List PyData}, DAtAll H b xs ds → xs.length = ds.length
  | xs, [], h => by unfold DAtAll at h; subst h; rfl
  | xs, d :: ds, h => by
    unfold DAtAll at h
    obtain ⟨x, r, rfl, _, q⟩ := h
    rw [List.length_cons, List.length_cons, DAtAll.len q]
theorem DAtAll.append {H : Hp} {b : Addr} : ∀ {xs ys : List V} {ds es : List PyData}, DAtAll H b xs ds → DAtAll H b ys es → DAtAll H b (xs ++ ys) (ds ++ es)
  | xs, ys, [], es, h, h' => by unfold DAtAll at h; subst h; exact h'
  | xs, ys, d :: ds, es, h, h' => by
    unfold DAtAll at h
    obtain ⟨x, r, rfl, q, q'⟩ := h
    exact .cons q (DAtAll.append q' h')
theorem DAtAll.parted {H : Hp} {b : Addr} : ∀ {xs ys : List V} {ds : List PyData}, DAtAll H b (xs ++ ys) ds → ∃ d1 d2, ds = d1 ++ d2 ∧ DAtAll H b xs d1 ∧ DAtAll H b ys d2
  | [], ys, ds, h => ⟨[], ds, rfl, .nil, h⟩
  | x :: xs, ys, ds, h => by
    obtain ⟨d, ds', rfl, q, q'⟩ := DAtAll.head h
    obtain ⟨d1, d2, rfl, h1, h2⟩ := DAtAll.parted q'
    exact ⟨d :: d1, d2, rfl, .cons q h1, h2⟩
theorem DAtAll.take {H : Hp} {b : Addr} : ∀ {xs : List V} {ds : List PyData} (n : Nat), DAtAll H b xs ds → DAtAll H b (xs.take n) (ds.take n)
  | xs, ds, 0, h => by simp; exact .nil
  | [], ds, n + 1, h => by have := h.len; cases ds with | nil => simpa using DAtAll.nil | cons => simp at this
  | x :: xs, ds, n + 1, h => by
    obtain ⟨d, ds', rfl, q, q'⟩ := DAtAll.head h
    exact .cons q (DAtAll.take n q')
theorem DAtAll.drop {H : Hp} {b : Addr} : ∀ {xs : List V} {ds : List PyData} (n : Nat), DAtAll H b xs ds → DAtAll H b (xs.drop n) (ds.drop n)
  | xs, ds, 0, h => by simpa using h
  | [], ds, n + 1, h => by have := h.len; cases ds with | nil => simpa using DAtAll.nil | cons => simp at this
  | x :: xs, ds, n + 1, h => by
    obtain ⟨d, ds', rfl, q, q'⟩ := DAtAll.head h
    simpa using DAtAll.drop n q'
theorem DAtAll.back {H : Hp} {b : Addr} : ∀ {xs : List V} {ds : List PyData}, DAtAll H b xs ds → DAtAll H b xs.reverse ds.reverse
  | [], ds, h => by have := h.len; cases ds with | nil => simpa using DAtAll.nil | cons => simp at this
  | x :: xs, ds, h => by
    obtain ⟨d, ds', rfl, q, q'⟩ := DAtAll.head h
    rw [List.reverse_cons, List.reverse_cons]
    exact (DAtAll.back q').append (.cons q .nil)
theorem DAtAll.get {H : Hp} {b : Addr} : ∀ {xs : List V} {ds : List PyData} {i : Nat} {x : V}, DAtAll H b xs ds → xs[i]? = some x → ∃ d, ds[i]? = some d ∧ DAt H b x d
  | [], ds, i, x, h, e => by simp at e
  | y :: xs, ds, 0, x, h, e => by
    obtain ⟨d, ds', rfl, q, q'⟩ := DAtAll.head h
    simp at e
    subst e
    exact ⟨d, rfl, q⟩
  | y :: xs, ds, i + 1, x, h, e => by
    obtain ⟨d, ds', rfl, q, q'⟩ := DAtAll.head h
    simpa using DAtAll.get q' (by simpa using e)
/-! ### TERMs as data -/
def tmD : Tm → PyData
  | .v n => .int n
  | .z => .tuple [.str "0"]
  | .s t => .tuple [.str "s", tmD t]
  | .f l r => .tuple [.str "f", tmD l, tmD r]
theorem TmAt.dat {H : Hp} {b : Addr} {v : V} {t : Tm} (h : TmAt H v t) : DAt H b v (tmD t) := by
  induction h with
  | v n => unfold tmD DAt; rfl
  | z h => unfold tmD DAt; exact ⟨_, _, rfl, .inl h, .cons (by unfold DAt; rfl) .nil⟩
  | s h _ ih => unfold tmD DAt; exact ⟨_, _, rfl, .inl h, .cons (by unfold DAt; rfl) (.cons ih .nil)⟩
  | f h _ _ ih ih' => unfold tmD DAt; exact ⟨_, _, rfl, .inl h, .cons (by unfold DAt; rfl) (.cons ih (.cons ih' .nil))⟩
theorem DAtAll.nil_of {H : Hp} {b : Addr} {xs : List V} (h : DAtAll H b xs []) : xs = [] := by unfold DAtAll at h; exact h
theorem DAtAll.cons_of {H : Hp} {b : Addr} {xs : List V} {d : PyData} {ds : List PyData} (h : DAtAll H b xs (d :: ds)) : ∃ x r, xs = x :: r ∧ DAt H b x d ∧ DAtAll H b r ds := by unfold DAtAll at h; exact h
theorem DAt.str_of {H : Hp} {b : Addr} {v : V} {x : Str} (h : DAt H b v (.str x)) : v = .str x := by unfold DAt at h; exact h
theorem DAt.int_of {H : Hp} {b : Addr} {v : V} {x : Int} (h : DAt H b v (.int x)) : v = .int x := by unfold DAt at h; exact h
theorem DAt.tup_of {H : Hp} {b : Addr} {v : V} {ds : List PyData} (h : DAt H b v (.tuple ds)) : ∃ (a : Addr) (xs : List V), v = .ref a ∧ TupAt H a xs ∧ DAtAll H b xs ds := by unfold DAt at h; exact h
theorem DAt.lst_of {H : Hp} {b : Addr} {v : V} {ds : List PyData} (h : DAt H b v (.list ds)) : ∃ (a : Addr) (xs : List V), v = .ref a ∧ a ≠ b ∧ H a = some (.lst xs) ∧ DAtAll H b xs ds := by unfold DAt at h; exact h
def IsT (d : PyData) : Prop := ∃ t, d = tmD t ∧ ∀ n ∈ t.nums, 0 ≤ n ∧ n ≤ 99
/-- a sign with as many parts as it takes -/
def Shaped (d : PyData) : Prop := ∃ (x : Str) (ds : List PyData), d = .tuple (.str x :: ds) ∧ ((x = "0" ∧ ds.length = 0) ∨ (x = "s" ∧ ds.length = 1) ∨ (x = "f" ∧ ds.length = 2))
theorem isT_shaped {x : Str} {ds : List PyData} (h : (x = "0" ∧ ds.length = 0) ∨ (x = "s" ∧ ds.length = 1) ∨ (x = "f" ∧ ds.length = 2)) : IsT (.tuple (.str x :: ds)) ↔ ∀ d ∈ ds, IsT d := by
  have s0 : ("0" : Str) ≠ "s" := by decide +kernel
  have s1 : ("0" : Str) ≠ "f" := by decide +kernel
  have s2 : ("s" : Str) ≠ "f" := by decide +kernel
  rcases h with ⟨rfl, h⟩ | ⟨rfl, h⟩ | ⟨rfl, h⟩
  · match ds, h with
    | [], _ => exact ⟨fun _ d hd => by simp at hd, fun _ => ⟨.z, rfl, fun n hn => by simp [Tm.nums] at hn⟩⟩
  · match ds, h with
    | [d], _ =>
      constructor
      · rintro ⟨t, e, g⟩ d' hd
        simp at hd
        subst hd
        cases t with
        | s t => unfold tmD at e; injection e with e; injection e with _ e; injection e with e _; exact ⟨t, e, g⟩
        | v n => cases e
        | z => unfold tmD at e; injection e with e; injection e with e _; injection e with e; exact absurd e.symm s0
        | f l r => unfold tmD at e; injection e with e; injection e with e _; injection e with e; exact absurd e s2
      · intro h
        obtain ⟨t, rfl, g⟩ := h d (by simp)
        exact ⟨.s t, rfl, g⟩
  · match ds, h with
    | [d, d'], _ =>
      constructor
      · rintro ⟨t, e, g⟩ d2 hd
        cases t with
        | f l r =>
          unfold tmD at e
          injection e with e
          injection e with _ e
          injection e with e1 e
          injection e with e2 _
          simp at hd
          rcases hd with rfl | rfl
          · exact ⟨l, e1, fun n hn => g n (by simp [Tm.nums, hn])⟩
          · exact ⟨r, e2, fun n hn => g n (by simp [Tm.nums, hn])⟩
        | v n => cases e
        | z => unfold tmD at e; injection e with e; injection e with e _; injection e with e; exact absurd e.symm s1
        | s t => unfold tmD at e; injection e with e; injection e with e _; injection e with e; exact absurd e.symm s2
      · intro h
        obtain ⟨l, rfl, g1⟩ := h d (by simp)
        obtain ⟨r, rfl, g2⟩ := h d' (by simp)
        refine ⟨.f l r, rfl, fun n hn => ?_⟩
        rcases List.mem_append.mp hn with q | q
        · exact g1 n q
        · exact g2 n q
theorem isT_int {n : Int} : IsT (.int n) ↔ 0 ≤ n ∧ n ≤ 99 := by
  constructor
  · rintro ⟨t, e, g⟩
    cases t with
    | v m => unfold tmD at e; injection e with e; subst e; exact g _ (by simp [Tm.nums])
    | z => cases e
    | s t => cases e
    | f l r => cases e
  · intro h
    exact ⟨.v n, rfl, fun m hm => by simp [Tm.nums] at hm; subst hm; exact h⟩
theorem isT_other {d : PyData} (h : ¬ Shaped d) (h' : ∀ n, d ≠ .int n) : ¬ IsT d := by
  rintro ⟨t, rfl, g⟩
  cases t with
  | v n => exact h' n rfl
  | z => exact h ⟨"0", [], rfl, .inl ⟨rfl, rfl⟩⟩
  | s t => exact h ⟨"s", [_], rfl, .inr (.inl ⟨rfl, rfl⟩)⟩
  | f l r => exact h ⟨"f", [_, _], rfl, .inr (.inr ⟨rfl, rfl⟩)⟩
end Rp

namespace Rp
open PySem PySem.Spec PyProof.Rows L2
def tyD : PyData → String
  | .none => "NoneType" | .bool _ => "bool" | .int _ => "int" | .str _ => "str" | .list _ => "list" | .tuple _ => "tuple" | .dict _ => "dict"
theorem DAt.tyx {K : PySem.W.Frag} {H : Hp} {b : Addr} {v : V} {d : PyData} (h : DAt H b v d) : TyX K H v (.type (tyD d)) := by
  cases d with
  | none => unfold DAt at h; subst h; exact .base .non
  | bool c => unfold DAt at h; subst h; exact .base (.bl c)
  | int i => unfold DAt at h; subst h; exact .base (.int i)
  | str x => unfold DAt at h; subst h; exact .base (.str x)
  | list ds => obtain ⟨a, xs, rfl, _, e, _⟩ := h.lst_of; exact .base (.lst e)
  | tuple ds => obtain ⟨a, xs, rfl, e, _⟩ := h.tup_of; rcases e with e | ⟨o, e⟩; exact .base (.tup e); exact .fTuple e
  | dict ds => unfold DAt at h; exact h.elim
def isI : PyData → Bool | .int _ => true | .bool _ => true | _ => false
def isB : PyData → Bool | .bool _ => true | _ => false
def isS : PyData → Bool | .str _ => true | _ => false
def isU : PyData → Bool | .tuple _ => true | _ => false
def isL : PyData → Bool | .list _ => true | _ => false
def isNum : PyData → Bool | .int _ => true | _ => false
section
variable {K : PySem.W.Frag}
theorem kitI (d : PyData) : PySem.W.kitOne K (.type (tyD d)) (.type "int") = some (isI d) := by cases d <;> exact kit_ty (by simp only [tyD, isI]; decide +kernel)
theorem kitB' (d : PyData) : PySem.W.kitOne K (.type (tyD d)) (.type "bool") = some (isB d) := by cases d <;> exact kit_ty (by simp only [tyD, isB]; decide +kernel)
theorem kitS (d : PyData) : PySem.W.kitOne K (.type (tyD d)) (.type "str") = some (isS d) := by cases d <;> exact kit_ty (by simp only [tyD, isS]; decide +kernel)
theorem kitU (d : PyData) : PySem.W.kitOne K (.type (tyD d)) (.type "tuple") = some (isU d) := by cases d <;> exact kit_ty (by simp only [tyD, isU]; decide +kernel)
theorem kitL (d : PyData) : PySem.W.kitOne K (.type (tyD d)) (.type "list") = some (isL d) := by cases d <;> exact kit_ty (by simp only [tyD, isL]; decide +kernel)
end
def okD (d : PyData) : Prop := d.canLay0 = true ∧ d.depth ≤ 60
theorem okAll {ds : List PyData} (h : PyData.canLayAll0 ds = true) (k : Nat) (hk : PyData.depthAll ds ≤ k) : ∀ d ∈ ds, d.canLay0 = true ∧ d.depth ≤ k := by
  induction ds with
  | nil => intro d hd; simp at hd
  | cons x ds ih =>
    simp only [PyData.canLayAll0, Bool.and_eq_true] at h
    simp only [PyData.depthAll] at hk
    intro d hd
    rcases List.mem_cons.mp hd with rfl | hd
    · exact ⟨h.1, by omega⟩
    · exact ih h.2 (by omega) d hd
theorem okD.tup {ds : List PyData} (h : okD (.tuple ds)) : ∀ d ∈ ds, okD d := fun d hd => by
  have h1 : PyData.canLayAll0 ds = true := by have := h.1; simpa [PyData.canLay0] using this
  have h2 : PyData.depthAll ds + 1 ≤ 60 := by have := h.2; simpa [PyData.depth] using this
  have := okAll h1 59 (by omega) d hd
  exact ⟨this.1, by omega⟩
theorem eqv_str {x : Str} {d : PyData} : PyData.eqv (.str x) d = true ↔ d = .str x := by
  cases d <;> simp [PyData.eqv]
  exact eq_comm
theorem eqv_tup {xs ys : List PyData} : PyData.eqv (.tuple xs) (.tuple ys) = PyData.eqvAll xs ys := by simp only [PyData.eqv]
theorem eqv_int {i j : Int} : PyData.eqv (.int i) (.int j) = (i == j) := by simp only [PyData.eqv]
theorem eqvAll_cons {x y : PyData} {xs ys : List PyData} : PyData.eqvAll (x :: xs) (y :: ys) = (PyData.eqv x y && PyData.eqvAll xs ys) := by simp only [PyData.eqvAll]
theorem eqvAll_nil : PyData.eqvAll [] [] = true := by simp only [PyData.eqvAll]
theorem hu65 {A : Around} {k : Nat} (hr : Room k A) : A.units + 65 < cLine := by have := hr.un; omega
def shapesD : PyData := .tuple [.tuple [.str "0", .int 1], .tuple [.str "s", .int 2], .tuple [.str "f", .int 3]]
def shapesL : List PyData := [.tuple [.str "0", .int 1], .tuple [.str "s", .int 2], .tuple [.str "f", .int 3]]
theorem shapes_any {d0 : PyData} {ds : List PyData} : (shapesL.any fun y => PyData.eqv y (.tuple [d0, .int ((ds.length + 1 : Nat) : Int)])) = true ↔ Shaped (.tuple (d0 :: ds)) := by
  have one : ∀ (x : Str) (n : Int), PyData.eqv (.tuple [.str x, .int n]) (.tuple [d0, .int ((ds.length + 1 : Nat) : Int)]) = true ↔ d0 = .str x ∧ n = ((ds.length + 1 : Nat) : Int) := by
    intro x n
    rw [eqv_tup, eqvAll_cons, eqvAll_cons, eqvAll_nil, eqv_int]
    simp only [Bool.and_true, Bool.and_eq_true, eqv_str, beq_iff_eq]
  simp only [shapesL, List.any_cons, List.any_nil, Bool.or_false, Bool.or_eq_true, one]
  constructor
  · rintro (⟨rfl, e⟩ | ⟨rfl, e⟩ | ⟨rfl, e⟩)
    · exact ⟨"0", ds, rfl, .inl ⟨rfl, by omega⟩⟩
    · exact ⟨"s", ds, rfl, .inr (.inl ⟨rfl, by omega⟩)⟩
    · exact ⟨"f", ds, rfl, .inr (.inr ⟨rfl, by omega⟩)⟩
  · rintro ⟨x, ds', e, h⟩
    injection e with e
    injection e with e1 e2
    subst e1 e2
    rcases h with ⟨rfl, h⟩ | ⟨rfl, h⟩ | ⟨rfl, h⟩
    · exact .inl ⟨rfl, by omega⟩
    · exact .inr (.inl ⟨rfl, by omega⟩)
    · exact .inr (.inr ⟨rfl, by omega⟩)
/-- x in t, t a tuple of data of any depth -/
def rInT (K : PySem.W.Frag) : R2 := fun x y H Q => ∃ (d : PyData) (ds : List PyData), Dp K H x d ∧ Dp K H y (.tuple ds) ∧ SeqAt.shaped d = true ∧ SeqAt.shaped (.tuple ds) = true ∧ Q (.bl (ds.any fun y => PyData.eqv y d)) H
section
variable {X : Cx}
theorem op_inT (hu : X.A.units + 65 < cLine) : OpR X (compareOp .In) (rInT X.K) := by
  intro pins s σ H x y v u Q I rx ry h
  obtain ⟨d, ds, hd, he, sd, se, q⟩ := h
  obtain ⟨as, r1⟩ := Dp.reads I d x v hd rx
  obtain ⟨bs, r2⟩ := Dp.reads I (.tuple ds) y u he ry
  exact SeqAt.in_tuple_reads r2 r1 (SeqAt.canLay_of_shaped se) (SeqAt.canLay_of_shaped sd) (room_in_shaped sd hu) ⟨.bl _, H, I, rfl, q⟩
end
theorem shaped_of {d : PyData} (h : d.canLay0 = true) (h' : d.depth ≤ 64) : SeqAt.shaped d = true := by
  show (d.canLay0 && decide (d.depth ≤ 64)) = true
  rw [h, decide_eq_true h']
  rfl
def spNumber : Sp := fun vs H Q _ => ∃ (b : Addr) (v : V) (d : PyData), vs = [v] ∧ DAt H b v d ∧ Q (.bl (isNum d)) H
def isVar : PyData → Bool | .int n => decide (0 ≤ n) && decide (n ≤ 99) | _ => false
def spVariable : Sp := fun vs H Q _ => ∃ (b : Addr) (v : V) (d : PyData), vs = [v] ∧ DAt H b v d ∧ Q (.bl (isVar d)) H
def spShape : Sp := fun vs H Q _ => ∃ (b : Addr) (v : V) (d : PyData), vs = [v] ∧ DAt H b v d ∧ okD d ∧ ∀ (r : Bool) (H' : Hp), (r = true ↔ Shaped d) → Same H H' → Q (.bl r) H'
section
variable {P : Program} {w : World} {K : PySem.W.Frag} {mg : Str → Option Value} {base : Heap}
end
end Rp

/-! Data of small ints and a few short texts: how large they are, what is said of them. -/
namespace Rp
open PySem PySem.Spec PyProof.Rows L2
def okText (x : Str) : Prop := x = "" ∨ x = "0" ∨ x = "s" ∨ x = "f" ∨ x = "x" ∨ x = "g" ∨ x = "x0"
mutual
def fine (U : List Int) : PyData → Prop
  | .none => True | .bool _ => True | .int i => i ∈ U | .str x => okText x | .list ds => fineAll U ds | .tuple ds => fineAll U ds | .dict _ => False
def fineAll (U : List Int) : List PyData → Prop
  | [] => True
  | d :: ds => fine U d ∧ fineAll U ds
end
mutual
def nd : PyData → Nat
  | .list ds => ndAll ds + 1 | .tuple ds => ndAll ds + 1 | _ => 1
def ndAll : List PyData → Nat
  | [] => 0
  | d :: ds => nd d + ndAll ds
end
theorem nd_pos (d : PyData) : 1 ≤ nd d := by cases d <;> simp [nd]
theorem ndAll_append : ∀ a b : List PyData, ndAll (a ++ b) = ndAll a + ndAll b
  | [], b => by simp [ndAll]
  | x :: a, b => by simp only [List.cons_append, ndAll, ndAll_append a b]; omega
theorem ndAll_mem : ∀ {ds : List PyData} {d : PyData}, d ∈ ds → nd d ≤ ndAll ds
  | x :: ds, d, h => by
    simp only [ndAll]
    rcases List.mem_cons.mp h with rfl | h
    · omega
    · have := ndAll_mem h; omega
theorem ndAll_len : ∀ ds : List PyData, ds.length ≤ ndAll ds
  | [] => Nat.le_refl _
  | d :: ds => by have := ndAll_len ds; have := nd_pos d; simp only [ndAll, List.length_cons]; omega
theorem fineAll_iff {U : List Int} : ∀ {ds : List PyData}, fineAll U ds ↔ ∀ d ∈ ds, fine U d
  | [] => by simp [fineAll]
  | d :: ds => by simp only [fineAll, fineAll_iff (ds := ds), List.forall_mem_cons]
theorem depthAll_iff {k : Nat} : ∀ {ds : List PyData}, PyData.depthAll ds ≤ k ↔ ∀ d ∈ ds, d.depth ≤ k
  | [] => by simp [PyData.depthAll]
  | d :: ds => by simp only [PyData.depthAll, List.forall_mem_cons, ← depthAll_iff (ds := ds)]; omega
theorem okText_lay {x : Str} (h : okText x) : PyData.canLay0 (.str x) = true ∧ x.cps.size ≤ 2 := by
  rcases h with rfl | rfl | rfl | rfl | rfl | rfl | rfl <;> exact ⟨by decide +kernel, by decide +kernel⟩
/-- the few ints of a row of data -/
structure Few (U : List Int) : Prop where
  le : ∀ i ∈ U, -1 ≤ i ∧ i ≤ 100
  len : U.length ≤ 20
mutual
theorem fine_lay {U : List Int} (hU : Few U) : ∀ d : PyData, fine U d → d.canLay0 = true ∧ d.showable = true ∧ d.intsShort 13 = true ∧ d.hasDict = false ∧ d.weight + 1 ≤ 110 * nd d
  | .none, _ => ⟨rfl, rfl, rfl, rfl, by decide⟩
  | .bool b, _ => ⟨rfl, rfl, rfl, rfl, by simp [PyData.weight, nd]⟩
  | .int i, h => by
    have h : -1 ≤ i ∧ i ≤ 100 := hU.le i h
    have a : i.natAbs ≤ 100 := by omega
    have b := Nat.log2_le_self i.natAbs
    refine ⟨rfl, ?_, ?_, rfl, ?_⟩
    · simp only [PyData.showable, decide_eq_true_eq]; omega
    · simp only [PyData.intsShort, decide_eq_true_eq]; exact PyData.shown_int_le (by omega)
    · simp only [PyData.weight, nd]; split <;> omega
  | .str x, h => by
    have z := okText_lay h
    refine ⟨z.1, rfl, rfl, rfl, ?_⟩
    simp only [PyData.weight, nd]
    omega
  | .list ds, h => by
    have z := fine_layAll hU ds h
    simp only [PyData.canLay0, PyData.showable, PyData.intsShort, PyData.hasDict, PyData.weight, nd]
    refine ⟨z.1, z.2.1, z.2.2.1, z.2.2.2.1, by omega⟩
  | .tuple ds, h => by
    have z := fine_layAll hU ds h
    simp only [PyData.canLay0, PyData.showable, PyData.intsShort, PyData.hasDict, PyData.weight, nd]
    refine ⟨z.1, z.2.1, z.2.2.1, z.2.2.2.1, by omega⟩
  | .dict _, h => h.elim
theorem fine_layAll {U : List Int} (hU : Few U) : ∀ ds : List PyData, fineAll U ds → PyData.canLayAll0 ds = true ∧ PyData.showableAll ds = true ∧ PyData.intsShortAll 13 ds = true ∧ PyData.hasDictAll ds = false ∧ PyData.weightAll ds ≤ 110 * ndAll ds
  | [], _ => ⟨rfl, rfl, rfl, rfl, by decide⟩
  | d :: ds, h => by
    have h : fine U d ∧ fineAll U ds := h
    have a := fine_lay hU d h.1
    have b := fine_layAll hU ds h.2
    simp only [PyData.canLayAll0, PyData.showableAll, PyData.intsShortAll, PyData.hasDictAll, PyData.weightAll, ndAll, Bool.and_eq_true, Bool.or_eq_false_iff]
    exact ⟨⟨a.1, b.1⟩, ⟨a.2.1, b.2.1⟩, ⟨a.2.2.1, b.2.2.1⟩, ⟨a.2.2.2.1, b.2.2.2.1⟩, by omega⟩
end
/-- fine, of at most n nodes, at most k deep -/
structure Good (U : List Int) (n k : Nat) (d : PyData) : Prop where
  fine : fine U d
  nd : nd d ≤ n
  dp : d.depth ≤ k
theorem Good.more {U : List Int} {n k n' k' : Nat} {d : PyData} (h : Good U n k d) (hn : n ≤ n') (hk : k ≤ k') : Good U n' k' d := ⟨h.fine, by have := h.nd; omega, by have := h.dp; omega⟩
theorem Good.ok {U : List Int} (hU : Few U) {n k : Nat} {d : PyData} (h : Good U n k d) (hk : k ≤ 60) : okD d := ⟨(fine_lay hU d h.fine).1, by have := h.dp; omega⟩
theorem Good.shown {U : List Int} (hU : Few U) {n k : Nat} {d : PyData} (h : Good U n k d) (hn : n ≤ 9000) (hk : k ≤ 60) : d.showable = true ∧ d.hasDict = false ∧ d.depth ≤ 64 ∧ d.shown.length ≤ 15728653 := by
  obtain ⟨h1, h2, h3, h4, h5⟩ := fine_lay hU d h.fine
  have n1 := h.nd
  have k1 := h.dp
  refine ⟨h2, h4, by omega, shown_le13 ?_ h3⟩
  unfold PyData.layable0
  rw [h1, decide_eq_true (by omega : d.depth ≤ 64), decide_eq_true (by omega : d.weight ≤ 2 ^ 20)]
  rfl
theorem Good.tup {U : List Int} {n k : Nat} {ds : List PyData} (h : Good U n k (.tuple ds)) : (∀ d ∈ ds, Rp.fine U d) ∧ ndAll ds + 1 ≤ n ∧ ∀ d ∈ ds, d.depth + 1 ≤ k := by
  refine ⟨fineAll_iff.mp h.fine, by simpa [Rp.nd] using h.nd, fun d hd => ?_⟩
  have k1 : PyData.depthAll ds + 1 ≤ k := by simpa [PyData.depth] using h.dp
  have := depthAll_iff.mp (Nat.le_refl (PyData.depthAll ds)) d hd
  omega
theorem Good.lst {U : List Int} {n k : Nat} {ds : List PyData} (h : Good U n k (.list ds)) : (∀ d ∈ ds, Rp.fine U d) ∧ ndAll ds + 1 ≤ n ∧ ∀ d ∈ ds, d.depth + 1 ≤ k := by
  refine ⟨fineAll_iff.mp h.fine, by simpa [Rp.nd] using h.nd, fun d hd => ?_⟩
  have k1 : PyData.depthAll ds + 1 ≤ k := by simpa [PyData.depth] using h.dp
  have := depthAll_iff.mp (Nat.le_refl (PyData.depthAll ds)) d hd
  omega
theorem good_lst {U : List Int} {n k : Nat} {ds : List PyData} (h : ∀ d ∈ ds, fine U d) (hn : ndAll ds + 1 ≤ n) (hk : ∀ d ∈ ds, d.depth + 1 ≤ k) (k1 : 1 ≤ k) : Good U n k (.list ds) := by
  refine ⟨fineAll_iff.mpr h, by simpa [Rp.nd] using hn, ?_⟩
  have : PyData.depthAll ds ≤ k - 1 := depthAll_iff.mpr fun d hd => by have := hk d hd; omega
  simp only [PyData.depth]
  omega
theorem good_tup {U : List Int} {n k : Nat} {ds : List PyData} (h : ∀ d ∈ ds, fine U d) (hn : ndAll ds + 1 ≤ n) (hk : ∀ d ∈ ds, d.depth + 1 ≤ k) (k1 : 1 ≤ k) : Good U n k (.tuple ds) := by
  refine ⟨fineAll_iff.mpr h, by simpa [Rp.nd] using hn, ?_⟩
  have : PyData.depthAll ds ≤ k - 1 := depthAll_iff.mpr fun d hd => by have := hk d hd; omega
  simp only [PyData.depth]
  omega
/-- a TERM's data are good -/
theorem tm_good {U : List Int} : ∀ t : Tm, (∀ n ∈ t.nums, n ∈ U) → Good U (2 * t.size) (t.deep + 1) (tmD t)
  | .v n, h => ⟨h n (by simp [Tm.nums]), by simp [tmD, Rp.nd, Tm.size], by simp [tmD, PyData.depth]⟩
  | .z, _ => ⟨⟨.inr (.inl rfl), trivial⟩, by simp [tmD, Rp.nd, ndAll, Tm.size], by simp [tmD, PyData.depth, PyData.depthAll]⟩
  | .s t, h => by
    have g := tm_good t h
    have h1 := g.nd
    have h2 := g.dp
    unfold tmD
    refine good_tup (fun d hd => ?_) ?_ (fun d hd => ?_) (by omega)
    · simp at hd; rcases hd with rfl | rfl
      · exact .inr (.inr (.inl rfl))
      · exact g.fine
    · simp only [ndAll, Rp.nd, Tm.size]; omega
    · simp at hd; rcases hd with rfl | rfl
      · simp [PyData.depth, Tm.deep]
      · simp only [Tm.deep]; omega
  | .f l r, h => by
    have g := tm_good l fun n hn => h n (by simp [Tm.nums, hn])
    have g' := tm_good r fun n hn => h n (by simp [Tm.nums, hn])
    have h1 := g.nd
    have h2 := g.dp
    have h3 := g'.nd
    have h4 := g'.dp
    unfold tmD
    refine good_tup (fun d hd => ?_) ?_ (fun d hd => ?_) (by omega)
    · simp at hd; rcases hd with rfl | rfl | rfl
      · exact .inr (.inr (.inr (.inl rfl)))
      · exact g.fine
      · exact g'.fine
    · simp only [ndAll, Rp.nd, Tm.size]; omega
    · simp at hd; rcases hd with rfl | rfl | rfl
      · simp [PyData.depth, Tm.deep]
      · simp only [Tm.deep]; omega
      · simp only [Tm.deep]; omega
/-- ints of a TERM among the data's -/
theorem tm_fine {U : List Int} : ∀ t : Tm, fine U (tmD t) → ∀ n ∈ t.nums, n ∈ U
  | .v n, h, m, hm => by simp [Tm.nums] at hm; subst hm; exact h
  | .z, h, m, hm => by simp [Tm.nums] at hm
  | .s t, h, m, hm => tm_fine t h.2.1 m hm
  | .f l r, h, m, hm => by
    rcases List.mem_append.mp hm with q | q
    · exact tm_fine l h.2.1 m q
    · exact tm_fine r h.2.2.1 m q
theorem nodup_le : ∀ {L U : List Int}, L.Nodup → (∀ k ∈ L, k ∈ U) → L.length ≤ U.length
  | [], U, _, _ => Nat.zero_le _
  | x :: L, U, h, hs => by
    rw [List.nodup_cons] at h
    have hx := hs x (by simp)
    have := nodup_le (L := L) (U := U.erase x) h.2 fun k hk => (List.mem_erase_of_ne (fun e => h.1 (by rw [← e]; exact hk))).mpr (hs k (by simp [hk]))
    rw [List.length_erase_of_mem hx] at this
    have := List.length_pos_of_mem hx
    rw [List.length_cons]
    omega
/-- the other way: a TERM's data tell its size -/
theorem tm_size : ∀ t : Tm, t.size ≤ nd (tmD t) ∧ t.deep ≤ (tmD t).depth
  | .v n => ⟨by simp [tmD, nd, Tm.size], by simp [Tm.deep]⟩
  | .z => ⟨by simp [tmD, nd, Tm.size], by simp [Tm.deep]⟩
  | .s t => by
    have := tm_size t
    simp only [tmD, nd, ndAll, Tm.size, Tm.deep, PyData.depth, PyData.depthAll]
    omega
  | .f l r => by
    have := tm_size l
    have := tm_size r
    simp only [tmD, nd, ndAll, Tm.size, Tm.deep, PyData.depth, PyData.depthAll]
    omega
end Rp

/-! xs[a:] = ys, ys another list: what the layer has no statement of. -/
namespace Rp
open PySem PySem.Spec PyProof.Rows L2
theorem tail_bounds {k n : Nat} (h : k ≤ n) : sliceBounds (some (k : Int)) none none n = ((k : Int), (n : Int), 1) := by
  simp only [sliceBounds, Option.getD_none, show ¬ ((k : Int) < 0) by omega, if_false, show (1 : Int) > 0 by decide, if_true]
  congr 1
  · omega
theorem tail_items (old fresh : List Value) (k : Nat) : old.toArray.extract 0 k ++ fresh.toArray ++ old.toArray.extract old.toArray.size old.toArray.size = (old.take k ++ fresh).toArray := by
  apply Array.toList_inj.mp
  simp
section
variable {prog : Program} {w : World} {A : Around} {E : Value → Shared → Prop} {s : Shared}
theorem store_tail {at_ src cut : Addr} {old fresh : Array Value} {n1 n2 : Nat} {vlo : Value} {k : Nat} {Q : Unit → Shared → Prop} (oe : s.heap.get? at_ = some { cls := .type "list", data := .seq old n1 })
    (fe : s.heap.get? src = some { cls := .type "list", data := .seq fresh n2 }) (apart : at_ ≠ src) (isCut : s.heap.IsSliceOf cut vlo .none .none) (pLo : IsPart vlo (some (k : Int))) (hk : k ≤ old.size) (room : old.size + fresh.size ≤ sizeLine)
    (go : Q () { s with heap := s.heap.update at_ (Obj.mapSeq fun xs => xs.extract 0 k ++ fresh ++ xs.extract old.size xs.size) }) : wpAny (model prog w) A (setItem (.ref at_) (.ref cut) (.ref src)) Q E s := by
  have lstIs : s.heap.IsList at_ old := PySem.IsL.isList oe
  have srcIs : s.heap.IsList src fresh := PySem.IsL.isList fe
  obtain ⟨oc, hoc, hcc, hdc⟩ := id isCut
  have cutIs : s.TypeIs (.ref cut) "slice" := ⟨oc, hoc, hcc⟩
  have noStep : ¬ ((rawPart none == rawInt 0) = true) := Bool.false_ne_true
  have other : Builtin.List.listSameRef (.ref at_) (.ref src) = false := by unfold Builtin.List.listSameRef; exact beq_eq_false_iff_ne.mpr apart
  have bound : ((fun xs : Array Value => xs.extract 0 k ++ fresh ++ xs.extract old.size xs.size) old).size ≤ sizeLine + 1 := by simp only [Array.size_append, Array.size_extract]; omega
  unfold setItem; try with_reducible refine wpAny_holding ?_
  first | refine wpAny_bind (wpAny_pure ?_) | skip
  refine wpAny_bind (wpAny_sequenceKey lstIs.typeIs (by decide) (wpAny_bind (wpAny_callSpecial?_slot (name := Str.ofString "__setitem__") lstIs.typeIs slot_list_setitem (wpAny_call_entry slot_list_setitem lstIs.typeIs entry_list_setitem ?_ (args_list_setitem _ _ _)))))
  show wpAny _ _ (Builtin.List.listSubscript? (.ref cut) >>= _) _ _ s
  refine wpAny_bind ?_; unfold Builtin.List.listSubscript?
  refine wpAny_bind (wpAny_specialOf cutIs slice_no_index ?_); simp only [Option.isNone_none, if_true]
  refine wpAny_pure ?_; show wpAny _ _ (typeOf (.ref cut) >>= _) _ _ s
  refine wpAny_bind (wpAny_typeOf cutIs ?_)
  first | rw [if_neg (by decide)] | refine PySem.W.KFB.if_not (by decide) ?_
  rw [listSliceParts_eq]; refine wpAny_bind (wpAny_bind (wpAny_field hoc hdc (x := .none) rfl (wpAny_bind (wpAny_listPart .none ?_))))
  rw [if_neg noStep]; refine wpAny_bind (wpAny_field hoc hdc (x := vlo) rfl (wpAny_bind (wpAny_listPart pLo ?_)))
  refine wpAny_bind (wpAny_field hoc hdc (x := .none) rfl (wpAny_bind (wpAny_listPart .none (wpAny_pure ?_))))
  first | simp only [other, Bool.false_eq_true, if_false] | refine PySem.W.KFB.if_not other ?_ | (dsimp only; rw [if_neg (by rw [other]; exact Bool.false_ne_true)])
  refine wpAny_bind (m := Builtin.List.listAllItems (.ref src) "must assign iterable to extended slice") ?_; unfold Builtin.List.listAllItems
  refine wpAny_bind (wpAny_typeOf srcIs.typeIs ?_)
  first | refine PySem.W.KFB.if_so (by decide) ?_ | rw [if_pos (by decide)] | simp only [beq_self_eq_true, Bool.true_or, if_true]
  unfold Builtin.List.listItems; refine wpAny_bind (wpAny_seqItems fe rfl (wpAny_pure ?_))
  refine wpAny_bind (wpAny_bind (wpAny_seqItems oe rfl (wpAny_pure ?_)))
  refine wpAny_bind (wpAny_of_eq ((sliceIndices_raw (some (k : Int)) none none old.size (by simp)).trans (congrArg (pure : Int × Int × Int → Sem (Int × Int × Int)) (tail_bounds hk))) ?_)
  show wpAny _ _ (if ((1 : Int) == 1) = true then _ else _) _ _ s; rw [if_pos (by decide)]
  refine wpAny_bind (wpAny_rule ?_); have small := notLongL room
  first | simp only [small, Bool.false_eq_true, if_false] | refine PySem.W.KFB.if_not small ?_
  first | refine wpAny_bind (wpAny_pure ?_) | skip
  show wpAny _ _ (updateSeq at_ (fun xs => xs.extract 0 ((k : Int)).toNat ++ fresh ++ xs.extract (max (k : Int) (old.size : Int)).toNat xs.size) >>= _) _ _ s
  rw [show (max (k : Int) (old.size : Int)).toNat = old.size by omega, Int.toNat_natCast]
  refine wpAny_bind (wpAny_updateSeq (hz := Nat.le_trans (Nat.le_add_right _ _) room) (_hz' := bound) oe rfl (wpAny_bind (wpAny_letGo ?_)))
  first | exact wpAny_bind (wpAny_pure (wpAny_pure ⟨.none, rfl, wpAny_pure go⟩)) | exact wpAny_pure ⟨.none, rfl, wpAny_pure go⟩
end
/-- xs[a:] = ys -/
def tTail (to : TE) (ta : TO) (tv : TE) : TS := fun D σ H => tv σ H fun y H1 => to σ H1 fun x H2 => ta σ H2 fun i H3 => ∃ (l b : Addr) (xs ys : List V) (k : Nat), y = .ref b ∧ x = .ref l ∧ i = some (k : Int) ∧ H3 l = some (.lst xs) ∧ H3 b = some (.lst ys) ∧ l ≠ b ∧ k ≤ xs.length ∧ xs.length + ys.length ≤ sizeLine ∧
  D.nx σ (upd H3 l (.lst (xs.take k ++ ys)))
section
variable {X : Cx} {o e value : Expr} {pos pos' p2 : Pos} {td tv : TE} {ta : TO}
theorem ps_tail (ho : PE X o td) (hi : PO X (some e) ta) (hv : PE X value tv) (hs : swapsWith value (some (.Subscript o (.Slice (some e) none none p2) pos')) pos.line X.env = pure false := by rfl) :
    PS X (.Assign [.Subscript o (.Slice (some e) none none p2) pos'] value pos) (tTail td ta tv) := by
  refine ⟨fun pins s σ H D I h => wpAny_Assign_Subscript (thn (hv.run pins s σ H _ I h) fun r s1 ⟨v, H1, I1, rv, q1⟩ => thn (ho.run pins s1 σ H1 _ I1 q1) fun u s2 ⟨x, H2, I2, rx, q2⟩ => ?_) hs⟩
  refine wpAny_Slice (thn (hi.run pins s2 σ H2 _ I2 q2) fun vl s3 ⟨i, H3, I3, pl, q3⟩ => ?_)
  obtain ⟨l, b, xs, ys, k, rfl, rfl, rfl, hl, hb, ne, hk, room, go⟩ := q3
  rw [evalPart_none]
  refine wpAny_pure (wpAny_pure ?_)
  cases rv
  cases rx
  have I4 : Inv X pins σ H3 { s3 with heap := s3.heap.push { cls := .type "slice", data := .fields #[vl, .none, .none] } } := I3.kept (t' := s3.toks) fun c ob w => Heap.get?_push_of_some _ w
  obtain ⟨_, old, n1, ro, lo, oe⟩ := I4.lstM hl
  obtain ⟨_, fresh, n2, rf, lf, fe⟩ := I4.lstM hb
  refine store_tail (k := k) oe fe ne (Heap.IsSliceOf.new ..) pl (by rw [List.size_toArray]; omega) (by rw [List.size_toArray, List.size_toArray]; omega) ?_
  refine ⟨σ, _, I4.lset (its' := old.take k ++ fresh) (t' := s3.toks) hl oe ?_ (Vals.append (ro.take _) rf) ?_, go⟩
  · exact tail_items old fresh k
  · rw [List.length_append, List.length_take]; omega
end
end Rp

set_option maxHeartbeats 8000000
/-! is_binding over data of any kind. -/
namespace Rp
open PySem PySem.Spec PyProof.Rows L2 TL RZ
/-- [.. for a, b in zip(xs, ys)], n turns -/
theorem lc_pairsN {J : It} {n : Nat} {xs ys : List V} {g : TG} {tt : TT} {te : TE} {vs : List Nat} {σ : L2.St} {H1 : Hp} {D : Addr} {Qd : Hp → Prop} (Pv : Nat → Hp → Prop)
    (stops : ∀ H, Pv n H → J.stop n H) (goes : ∀ i H, i < n → Pv i H → J.go i H)
    (gives : ∀ i H v H', i < n → Pv i H → J.yld i H v H' → ∃ T x y, v = .ref T ∧ xs[i]? = some x ∧ ys[i]? = some y ∧ H T = none ∧ H' = upd H T (.tup [x, y]))
    (h0 : Pv 0 (upd H1 D (.lst [])))
    (hs : ∀ (i : Nat) (x y : V) (T : Addr) (H : Hp), i < n → xs[i]? = some x → ys[i]? = some y → Pv i H → H T = none → g (.ref T) (wipe σ vs) (upd H T (.tup [x, y])) fun σ2 H2 => wipe σ2 vs = wipe σ vs ∧
      tt σ2 H2 fun b H3 => if b = true then te σ2 H3 fun y H4 => ∃ acc, H4 D = some (.lst acc) ∧ acc.length < sizeLine ∧ Pv (i + 1) (upd H4 D (.lst (acc ++ [y]))) else Pv (i + 1) H3)
    (hd : ∀ H, Pv n H → Qd H) :
    ∃ W : Nat → Nat → Hp → Prop, (∃ m, W 0 m (upd H1 D (.lst []))) ∧ ∀ i m H, W i m H → (J.stop i H ∧ Qd H) ∨
      (J.go i H ∧ ∃ Nx : Hp → Prop, (∀ H', Nx H' → ∃ m', m' < m ∧ W (i + 1) m' H') ∧ ∀ x H', J.yld i H x H' → g x (wipe σ vs) H' fun σ2 H2 => wipe σ2 vs = wipe σ vs ∧
        tt σ2 H2 fun b H3 => if b = true then te σ2 H3 fun y H4 => ∃ acc, H4 D = some (.lst acc) ∧ acc.length < sizeLine ∧ Nx (upd H4 D (.lst (acc ++ [y]))) else Nx H3) := by
  refine ⟨fun i m H => m + i = n ∧ Pv i H, ⟨n, by simp, h0⟩, ?_⟩
  rintro i m H ⟨em, p⟩
  rcases Nat.lt_or_ge i n with lt | ge
  · refine .inr ⟨goes i H lt p, Pv (i + 1), fun H' p' => ⟨m - 1, by omega, by omega, p'⟩, fun v H' y => ?_⟩
    obtain ⟨T, x, y', rfl, hx, hy, hT, rfl⟩ := gives i H v H' lt p y
    exact hs i x y' T H lt hx hy p hT
  · have e : i = n := by omega
    subst e
    exact .inl ⟨stops H p, hd H p⟩
def IsPr (d : PyData) : Prop := ∃ (n : Int) (e : PyData), d = .tuple [.int n, e] ∧ 0 ≤ n ∧ n ≤ 99 ∧ IsT e
def keyD : PyData → Int
  | .tuple (.int n :: _) => n
  | _ => 0
def adjB (ks : List Int) : Bool := (List.range (ks.length - 1)).all fun j => decide (ks.getD j 0 < ks.getD (j + 1) 0)
def IsBdD (d : PyData) : Prop := ∃ ds : List PyData, d = .tuple ds ∧ (∀ e ∈ ds, IsPr e) ∧ adjB (ds.map keyD) = true
def spIsPr : Sp := fun vs H Q _ => ∃ (b : Addr) (v : V) (d : PyData), vs = [v] ∧ DAt H b v d ∧ okD d ∧ nd d ≤ 1000 ∧ ∀ (r : Bool) (H' : Hp), (r = true ↔ IsPr d) → Same H H' → Q (.bl r) H'
def spIsBd : Sp := fun vs H Q _ => ∃ (b : Addr) (v : V) (d : PyData), vs = [v] ∧ DAt H b v d ∧ okD d ∧ nd d ≤ 1000 ∧ ∀ (r : Bool) (H' : Hp), (r = true ↔ IsBdD d) → Same H H' → Q (.bl r) H'
theorem nd_mem {ds : List PyData} {e : PyData} (h : e ∈ ds) : nd e ≤ nd (.tuple ds) := by
  have := ndAll_mem h
  simp only [nd]; omega
theorem isPr_two {ds : List PyData} (h : ds.length ≠ 2) : ¬ IsPr (.tuple ds) := fun ⟨n, e, z, _⟩ => by
  injection z with z
  subst z
  exact h rfl
theorem isVar_num {d : PyData} : isVar d = true ↔ ∃ n : Int, d = .int n ∧ 0 ≤ n ∧ n ≤ 99 := by
  cases d <;> simp [isVar]
theorem ndAll_le {ds : List PyData} : ds.length ≤ nd (.tuple ds) := by have := ndAll_len ds; simp only [nd]; omega
end Rp

set_option maxHeartbeats 8000000
/-! NAMEs over data of any kind. -/
namespace Rp
open PySem PySem.Spec PyProof.Rows L2 TL RZ
def letters : Str := "abcdefghijklmnopqrstuvwxyz"
structure NameOk (x : Str) : Prop where
  pos : 1 ≤ x.length
  few : x.length ≤ 6
  low : ∀ c ∈ tl x, 97 ≤ c ∧ c ≤ 122
  nif : x ≠ "if"
theorem letters_iff {c : Nat} : c ∈ letters.cps.toList ↔ 97 ≤ c ∧ c ≤ 122 := by
  have e : letters.cps.toList = (List.range 26).map (· + 97) := by decide +kernel
  rw [e, List.mem_map]
  constructor
  · rintro ⟨k, hk, rfl⟩
    have := List.mem_range.mp hk
    omega
  · intro h
    exact ⟨c - 97, List.mem_range.mpr (by omega), by omega⟩
def lowB (x : Str) : Bool := (tl x).all fun c => decide (c ∈ letters.cps.toList)
theorem lowB_iff {x : Str} : lowB x = true ↔ ∀ c ∈ tl x, 97 ≤ c ∧ c ≤ 122 := by
  unfold lowB
  rw [List.all_eq_true]
  exact ⟨fun h c hc => letters_iff.mp (of_decide_eq_true (h c hc)), fun h c hc => decide_eq_true (letters_iff.mpr (h c hc))⟩
def IsNm (d : PyData) : Prop := ∃ x, d = .str x ∧ NameOk x
theorem isNm_str {x : Str} : IsNm (.str x) ↔ NameOk x := ⟨fun ⟨y, e, h⟩ => by injection e with e; subst e; exact h, fun h => ⟨x, rfl, h⟩⟩
def spIsNm : Sp := fun vs H Q _ => ∃ (b : Addr) (v : V) (d : PyData), vs = [v] ∧ DAt H b v d ∧ (∀ x, d = .str x → x.length ≤ 1000) ∧ ∀ (r : Bool) (H' : Hp), (r = true ↔ IsNm d) → Same H H' → Q (.bl r) H'
section
variable {P : Program} {w : World} {K : PySem.W.Frag} {mg : Str → Option Value} {base : Heap}
end
end Rp

set_option maxHeartbeats 8000000
/-! all([pred(x) for x in tuple]) over data; ATOMs over data of any kind. -/
namespace Rp
open PySem PySem.Spec PyProof.Rows L2 TL RZ
theorem wipe_one {σ : L2.St} {n : Nat} {x : Option V} : wipe ((wipe σ [n]).set n x) [n] = wipe σ [n] := by
  show ((σ.set n none).set n x).set n none = σ.set n none
  rw [List.set_set, List.set_set]
theorem lc_pred {K : PySem.W.Frag} {a b D : Addr} {xs : List V} {ds : List PyData} {Pd : PyData → Prop} {sp : Sp} {n : Nat} {σ : L2.St} {H1 : Hp} {Qd : Hp → Prop} (hn : n < σ.length) (hD : H1 D = none) (ha : TupAt H1 a xs) (A : DAtAll H1 b xs ds) (few : xs.length ≤ 1000)
    (call : ∀ (x : V) (e : PyData) (H2 : Hp) (Q : VK), e ∈ ds → DAt H2 b x e → Same H1 H2 → (∀ (r : Bool) (H3 : Hp), (r = true ↔ Pd e) → Same H2 H3 → Q (.bl r) H3) → sp [x] H2 Q E0)
    (go : ∀ (bs : List Bool) (H2 : Hp), H2 D = some (.lst (bs.map V.bl)) → (bs.all id = true ↔ ∀ e ∈ ds, Pd e) → Same H1 H2 → Qd H2) :
    ∃ W : Nat → Nat → Hp → Prop, (∃ m, W 0 m (upd H1 D (.lst []))) ∧ ∀ i m H, W i m H →
      ((Itt K a).stop i H ∧ Qd H) ∨ ((Itt K a).go i H ∧ ∃ Nx : Hp → Prop, (∀ H', Nx H' → ∃ m', m' < m ∧ W (i + 1) m' H') ∧ ∀ x H', (Itt K a).yld i H x H' → gName n x (wipe σ [n]) H' fun σ2 H2 => wipe σ2 [n] = wipe σ [n] ∧ tYes σ2 H2 fun b H3 =>
        if b = true then tCall sp [] E0 (tCons (tVar n) tNil) σ2 H3 fun y H4 => ∃ acc, H4 D = some (.lst acc) ∧ acc.length < sizeLine ∧ Nx (upd H4 D (.lst (acc ++ [y]))) else Nx H3) := by
  have big : (2000 : Nat) ≤ sizeLine := by decide
  have el := A.len
  refine lc_tup (K := K) (a := a) (xs := xs) (fun i H2 => ∃ bs : List Bool, H2 D = some (.lst (bs.map V.bl)) ∧ bs.length = i ∧ (∀ (j : Nat) (r : Bool) (e : PyData), bs[j]? = some r → ds[j]? = some e → (r = true ↔ Pd e)) ∧ Same H1 H2)
    ⟨[], upd_same, rfl, fun j r e z => by simp at z, same_new hD _⟩ (fun i H2 _ ⟨_, _, _, _, s⟩ => .inl (ha.same s)) ?_ ?_
  · rintro i x H2 hi ⟨bs, h2, lb, each, s2⟩
    obtain ⟨e, he, De⟩ := A.get hi
    have em := List.mem_of_getElem? he
    have li : i < ds.length := (List.getElem?_eq_some_iff.mp he).1
    refine ⟨wipe_one, ?_⟩
    refine ⟨x, ?_, call x e H2 _ em (De.same s2) s2 fun r H3 hr3 s3 => ?_⟩
    · rw [List.getElem?_set_self (by rw [wipe_length]; exact hn)]
    refine ⟨_, s3 _ _ h2, by rw [List.length_map]; omega, bs ++ [r], by rw [upd_same, List.map_append]; rfl, by rw [List.length_append, lb]; rfl, fun j r' e' h1 h3 => ?_, fun c o z => by rw [upd_ne (ne_of_none z hD)]; exact s3 _ _ (s2 _ _ z)⟩
    rcases Nat.lt_or_ge j bs.length with h | h
    · rw [List.getElem?_append_left h] at h1; exact each j r' e' h1 h3
    · rw [List.getElem?_append_right h] at h1
      have jl : j = i := by
        have := (List.getElem?_eq_some_iff.mp h1).1
        simp at this; omega
      subst jl
      rw [lb, Nat.sub_self] at h1
      simp at h1
      rw [he] at h3
      cases h3
      rw [← h1]; exact hr3
  · rintro H2 ⟨bs, h2, lb, each, s2⟩
    refine go bs H2 h2 ?_ s2
    rw [List.all_eq_true]
    constructor
    · intro h e he
      obtain ⟨j, hj⟩ := List.mem_iff_getElem?.mp he
      have lj : j < bs.length := by have := (List.getElem?_eq_some_iff.mp hj).1; omega
      exact (each j bs[j] e (List.getElem?_eq_getElem lj) hj).mp (h _ (List.getElem_mem lj))
    · intro h r hr
      obtain ⟨j, hj⟩ := List.mem_iff_getElem?.mp hr
      have lj : j < ds.length := by have := (List.getElem?_eq_some_iff.mp hj).1; omega
      exact (each j r ds[j] hj (List.getElem?_eq_getElem lj)).mpr (h _ (List.getElem_mem lj))
def IsAm (d : PyData) : Prop := ∃ (x : Str) (es : List PyData), d = .tuple (.str x :: es) ∧ NameOk x ∧ 1 ≤ es.length ∧ es.length ≤ 2 ∧ ∀ e ∈ es, IsT e
theorem isAm_cons {d0 : PyData} {es : List PyData} : IsAm (.tuple (d0 :: es)) ↔ IsNm d0 ∧ 1 ≤ es.length ∧ es.length ≤ 2 ∧ ∀ e ∈ es, IsT e :=
  ⟨fun ⟨x, fs, e, h1, h⟩ => by injection e with e; injection e with e1 e2; subst e1 e2; exact ⟨⟨x, rfl, h1⟩, h⟩, fun ⟨⟨x, e, h1⟩, h⟩ => ⟨x, es, by rw [e], h1, h⟩⟩
theorem isAm_len {ds : List PyData} (h : ¬ (2 ≤ ds.length ∧ ds.length ≤ 3)) : ¬ IsAm (.tuple ds) := fun ⟨x, fs, e, _, h1, h2, _⟩ => by
  injection e with e
  subst e
  rw [List.length_cons] at h
  omega
/-- texts among data are not too long -/
def okS (d : PyData) : Prop := okD d ∧ nd d ≤ 1000
def spIsAm : Sp := fun vs H Q _ => ∃ (b : Addr) (v : V) (d : PyData), vs = [v] ∧ DAt H b v d ∧ okD d ∧ nd d ≤ 1000 ∧ (∀ x ds, d = .tuple (.str x :: ds) → x.length ≤ 1000) ∧ ∀ (r : Bool) (H' : Hp), (r = true ↔ IsAm d) → Same H H' → Q (.bl r) H'
section
variable {P : Program} {w : World} {K : PySem.W.Frag} {mg : Str → Option Value} {base : Heap}
end
end Rp

set_option maxHeartbeats 8000000
/-! ATOMs as a type; unlike and SAYINGs over data of any kind. -/
namespace Rp
open PySem PySem.Spec PyProof.Rows L2 TL RZ
def Tm.small (t : Tm) : Prop := ∀ n ∈ t.nums, 0 ≤ n ∧ n ≤ 99
structure At where
  nm : Str
  ts : List Tm
  deriving DecidableEq
structure AtOk (z : Nat) (a : At) : Prop where
  nm : NameOk a.nm
  one : 1 ≤ a.ts.length
  two : a.ts.length ≤ 2
  sm : ∀ t ∈ a.ts, t.small ∧ t.size ≤ z
def AtAt (H : Hp) (v : V) (a : At) : Prop := ∃ (p : Addr) (xs : List V), v = .ref p ∧ H p = some (.tup (.str a.nm :: xs)) ∧ AllAt H xs a.ts
def atD (a : At) : PyData := .tuple (.str a.nm :: a.ts.map tmD)
structure AmOk (a : At) : Prop where
  nm : NameOk a.nm
  one : 1 ≤ a.ts.length
  two : a.ts.length ≤ 2
  sm : ∀ t ∈ a.ts, t.small
theorem tms_of : ∀ {es : List PyData}, (∀ e ∈ es, IsT e) → ∃ ts : List Tm, es = ts.map tmD ∧ ∀ t ∈ ts, t.small
  | [], _ => ⟨[], rfl, by simp⟩
  | e :: es, h => by
    obtain ⟨t, rfl, h1⟩ := h e (by simp)
    obtain ⟨ts, rfl, h2⟩ := tms_of (es := es) fun x hx => h x (by simp [hx])
    exact ⟨t :: ts, rfl, fun u hu => by rcases List.mem_cons.mp hu with rfl | hu; exact h1; exact h2 u hu⟩
theorem isAm_at {d : PyData} : IsAm d ↔ ∃ a, d = atD a ∧ AmOk a := by
  constructor
  · rintro ⟨x, es, rfl, h1, h2, h3, h4⟩
    obtain ⟨ts, rfl, h5⟩ := tms_of h4
    rw [List.length_map] at h2 h3
    exact ⟨⟨x, ts⟩, rfl, ⟨h1, h2, h3, h5⟩⟩
  · rintro ⟨a, rfl, h⟩
    refine ⟨a.nm, _, rfl, h.nm, by rw [List.length_map]; exact h.one, by rw [List.length_map]; exact h.two, fun e he => ?_⟩
    obtain ⟨t, ht, rfl⟩ := List.mem_map.mp he
    exact ⟨t, rfl, h.sm t ht⟩
theorem ats_of : ∀ {ds : List PyData}, (∀ d ∈ ds, IsAm d) → ∃ as : List At, ds = as.map atD ∧ ∀ a ∈ as, AmOk a
  | [], _ => ⟨[], rfl, by simp⟩
  | d :: ds, h => by
    obtain ⟨a, rfl, h1⟩ := isAm_at.mp (h d (by simp))
    obtain ⟨as, rfl, h2⟩ := ats_of (ds := ds) fun x hx => h x (by simp [hx])
    exact ⟨a :: as, rfl, fun u hu => by rcases List.mem_cons.mp hu with rfl | hu; exact h1; exact h2 u hu⟩
theorem eqv_tm : ∀ {a b : Tm}, PyData.eqv (tmD a) (tmD b) = true ↔ a = b := by
  have n0s : ("0" : Str) ≠ "s" := by decide +kernel
  have n0f : ("0" : Str) ≠ "f" := by decide +kernel
  have nsf : ("s" : Str) ≠ "f" := by decide +kernel
  intro a
  induction a with
  | v n => intro b; cases b <;> simp [tmD, PyData.eqv]
  | z => intro b; cases b <;> simp [tmD, PyData.eqv, PyData.eqvAll]
  | s t ih =>
    intro b
    cases b with
    | s t' => simp only [tmD]; rw [eqv_tup, eqvAll_cons, eqvAll_cons, eqvAll_nil]; simp [PyData.eqv, ih]
    | _ => simp [tmD, PyData.eqv, PyData.eqvAll]
  | f l r ih1 ih2 =>
    intro b
    cases b with
    | f l' r' => simp only [tmD]; rw [eqv_tup, eqvAll_cons, eqvAll_cons, eqvAll_cons, eqvAll_nil]; simp [PyData.eqv, ih1, ih2]
    | _ => simp [tmD, PyData.eqv, PyData.eqvAll]
theorem eqv_tms : ∀ {ts us : List Tm}, PyData.eqvAll (ts.map tmD) (us.map tmD) = true ↔ ts = us
  | [], [] => by simp [PyData.eqvAll]
  | [], _ :: _ => by simp [PyData.eqvAll]
  | _ :: _, [] => by simp [PyData.eqvAll]
  | t :: ts, u :: us => by rw [List.map_cons, List.map_cons, eqvAll_cons, Bool.and_eq_true, eqv_tm, eqv_tms]; simp
theorem eqv_at {a b : At} : PyData.eqv (atD a) (atD b) = true ↔ a = b := by
  unfold atD
  rw [eqv_tup, eqvAll_cons, Bool.and_eq_true, eqv_tms]
  cases a; cases b
  simp [PyData.eqv]
theorem in_ats {as : List At} {a : At} : (as.map atD).any (fun z => PyData.eqv z (atD a)) = decide (a ∈ as) := by
  rw [Bool.eq_iff_iff, List.any_eq_true, decide_eq_true_iff]
  constructor
  · rintro ⟨d, hd, e⟩
    obtain ⟨b, hb, rfl⟩ := List.mem_map.mp hd
    rw [eqv_at] at e
    rw [← e]; exact hb
  · intro h
    exact ⟨_, List.mem_map.mpr ⟨a, h, rfl⟩, eqv_at.mpr rfl⟩
/-- of alike ones the first kept -/
def unlG (acc : List At) (as : List At) : List At := as.foldl (fun acc a => if a ∈ acc then acc else acc ++ [a]) acc
def unl (as : List At) : List At := unlG [] as
theorem unlG_le : ∀ {as acc : List At}, (unlG acc as).length ≤ acc.length + as.length
  | [], acc => Nat.le_refl _
  | a :: as, acc => by
    have h := unlG_le (as := as) (acc := if a ∈ acc then acc else acc ++ [a])
    have e : unlG acc (a :: as) = unlG (if a ∈ acc then acc else acc ++ [a]) as := rfl
    rw [e]
    split at h <;> simp at h ⊢ <;> simp [*] <;> omega
theorem unlG_len : ∀ {as acc : List At}, (unlG acc as).length = acc.length + as.length ↔ (∀ a ∈ as, a ∉ acc) ∧ as.Nodup
  | [], acc => by simp [unlG]
  | a :: as, acc => by
    have e : unlG acc (a :: as) = unlG (if a ∈ acc then acc else acc ++ [a]) as := rfl
    rw [e]
    by_cases h : a ∈ acc
    · have l := unlG_le (as := as) (acc := acc)
      rw [if_pos h]
      constructor
      · intro z; simp at z; omega
      · intro z; exact absurd h (z.1 a (by simp))
    · rw [if_neg h]
      have ih := unlG_len (as := as) (acc := acc ++ [a])
      rw [List.length_append, List.length_singleton] at ih
      rw [List.length_cons, show acc.length + (as.length + 1) = acc.length + 1 + as.length by omega, ih, List.nodup_cons]
      constructor
      · intro z
        refine ⟨fun x hx => ?_, fun hm => ?_, z.2⟩
        · rcases List.mem_cons.mp hx with rfl | hx
          · exact h
          · exact fun hm => z.1 x hx (by simp [hm])
        · exact z.1 a hm (by simp)
      · rintro ⟨z1, z2, z3⟩
        refine ⟨fun x hx hm => ?_, z3⟩
        rcases List.mem_append.mp hm with hm | hm
        · exact z1 x (by simp [hx]) hm
        · obtain rfl : x = a := by simpa using hm
          exact z2 hx
theorem unl_len {as : List At} : (unl as).length = as.length ↔ as.Nodup := by
  have := unlG_len (as := as) (acc := [])
  simp at this
  exact this
theorem unl_le {as : List At} : (unl as).length ≤ as.length := by
  have := unlG_le (as := as) (acc := [])
  simp at this
  exact this
theorem unl_snoc {as : List At} {a : At} : unl (as ++ [a]) = if a ∈ unl as then unl as else unl as ++ [a] := by
  unfold unl unlG
  rw [List.foldl_append]
  rfl
theorem mem_unlG : ∀ {as acc : List At} {x : At}, x ∈ unlG acc as → x ∈ acc ∨ x ∈ as
  | [], acc, x, h => .inl h
  | a :: as, acc, x, h => by
    have e : unlG acc (a :: as) = unlG (if a ∈ acc then acc else acc ++ [a]) as := rfl
    rw [e] at h
    rcases mem_unlG h with h | h
    · split at h
      · exact .inl h
      · rcases List.mem_append.mp h with h | h
        · exact .inl h
        · exact .inr (by simp at h; simp [h])
    · exact .inr (by simp [h])
theorem mem_unl {as : List At} {x : At} (h : x ∈ unl as) : x ∈ as := by
  rcases mem_unlG h with h | h
  · simp at h
  · exact h
/-- all of some data that may be laid -/
theorem lay_all {k : Nat} : ∀ {ds : List PyData}, (∀ d ∈ ds, d.canLay0 = true ∧ d.depth ≤ k) → PyData.canLayAll0 ds = true ∧ PyData.depthAll ds ≤ k
  | [], _ => ⟨rfl, Nat.zero_le _⟩
  | d :: ds, h => by
    have ih := lay_all (ds := ds) fun x hx => h x (by simp [hx])
    have z := h d (by simp)
    simp only [PyData.canLayAll0, PyData.depthAll, z.1, ih.1]
    exact ⟨rfl, by omega⟩
theorem lay_list {ds : List PyData} (h : ∀ d ∈ ds, okD d) : SeqAt.shaped (.list ds) = true := by
  have z := lay_all h
  refine shaped_of ?_ ?_
  · show PyData.canLayAll0 _ = true
    exact z.1
  · show PyData.depthAll _ + 1 ≤ 64
    omega
def spUnl : Sp := fun vs H Q _ => ∃ (b q : Addr) (xs : List V) (as : List At), vs = [.ref q] ∧ TupAt H q xs ∧ DAtAll H b xs (as.map atD) ∧ (∀ a ∈ as, okD (atD a)) ∧ as.length ≤ 1000 ∧ ∀ (p : Addr) (ys : List V) (H' : Hp), H' p = some (.tup ys) → DAtAll H' b ys ((unl as).map atD) → Same H H' → Q (.ref p) H'
section
variable {P : Program} {w : World} {K : PySem.W.Frag} {mg : Str → Option Value} {base : Heap}
theorem scUnlike : FnScope ["atoms", "found", "atom"] ["atoms"] (defScope sUnlike) := ⟨rfl, rfl, rfl, by decide +kernel, rfl, by decide +kernel, by decide +kernel⟩
theorem ok_unl {f : Addr} {fd : FuncData} (F : Fun K "unlike" "unlike" sUnlike f fd) (mTuple : mg "tuple" = none) : FnOk P w K mg base CX0 1 f fd ["atoms"] spUnl := by
  refine F.ok scUnlike (fun vs H Q E h => ?_) (fun cdv A outer s H vs Q E hr h => ?_)
  · obtain ⟨b, q, xs, as, rfl, _⟩ := h
    rfl
  obtain ⟨b, q, xs, as, rfl, hq, A1, ok, few, fin⟩ := h
  refine ⟨_, pss_cons (ps_set (i := 1) scUnlike.nd rfl (Or.inl rfl) (pe_lst pa_nil))
    (pss_cons (ps_for PassesOwn.never rfl (pi_tup (pv 0)) (pg_name (i := 2) scUnlike.nd rfl (Or.inl rfl))
      (pss_one (ps_if (pt_cmpR (op_notInD (hu65 hr)) (pv 2) (pv 1) (by rfl)) (pss_one (ps_expr (pe_bm PySem.F.plainAttrs_list PySem.F.slot_list_append PySem.F.type_list_append mt_append (pv 1) (pa_cons (pv 2) pa_nil)))) pss_nil)))
    (pss_one (ps_ret (pe_callTy call_tuple_of (by rfl) mTuple (by decide +kernel) (pa_cons (pv 1) pa_nil))))), ?_⟩
  have big : (10000 : Nat) ≤ sizeLine := by decide
  have xl := A1.len
  rw [List.length_map] at xl
  refine ⟨(by show 0 ≤ sizeLine; decide), fun l hl => ?_⟩
  have s1 := same_new hl (.lst ([] : List V))
  have hq1 := hq.same s1
  refine ⟨_, rfl, q, rfl, ⟨_, .inl hq1⟩, for_tup (K := K) (a := q) (xs := xs) (fun i σ H2 => ∃ (x2 : Option V) (ys : List V), σ = [some (.ref q), some (.ref l), x2] ∧ H2 l = some (.lst ys) ∧ DAtAll H b ys ((unl (as.take i)).map atD) ∧ Same H H2)
    ⟨none, [], rfl, upd_same, DAtAll.nil, s1⟩ (fun i σ H2 _ ⟨_, _, _, _, _, h⟩ => .inl (hq.same h)) ?_ ?_⟩
  · rintro i x σ H2 hi ⟨x2, ys, rfl, h2, Y2, s2⟩
    obtain ⟨d, hd, T⟩ := A1.get hi
    rw [List.getElem?_map] at hd
    obtain ⟨a, ha, rfl⟩ := Option.map_eq_some_iff.mp hd
    have am := List.mem_of_getElem? ha
    have li : i < as.length := (List.getElem?_eq_some_iff.mp ha).1
    have yl := Y2.len
    rw [List.length_map] at yl
    have ul := unl_le (as := as.take i)
    rw [List.length_take] at ul
    have tk : unl (as.take (i + 1)) = if a ∈ unl (as.take i) then unl (as.take i) else unl (as.take i) ++ [a] := by rw [List.take_add_one, ha]; exact unl_snoc
    refine ⟨_, rfl, _, rfl, atD a, (unl (as.take i)).map atD, (T.same s2).dp, .lst (.inl (.inl h2)) (Y2.same s2).dp, shaped_of (ok a am).1 (by have := (ok a am).2; omega), lay_list fun e he => ?_, !decide (a ∈ unl (as.take i)), by rw [in_ats], ?_⟩
    · obtain ⟨c, hc, rfl⟩ := List.mem_map.mp he
      exact ok c (List.mem_of_mem_take (mem_unl hc))
    by_cases hm : a ∈ unl (as.take i)
    · rw [decide_eq_true hm]
      rw [if_pos hm] at tk
      exact iteF ⟨_, ys, rfl, h2, by rw [tk]; exact Y2, s2⟩
    · rw [decide_eq_false hm]
      rw [if_neg hm] at tk
      refine iteT ?_
      refine ⟨_, rfl, .inl ⟨rfl, _, .inl (.inl h2)⟩, _, rfl, l, _, _, rfl, rfl, h2, by omega, ?_⟩
      have s3 : Same H (upd H2 l (.lst (ys ++ [x]))) := fun c o z => by rw [upd_ne (ne_of_none z hl)]; exact s2 _ _ z
      refine ⟨_, ys ++ [x], rfl, upd_same, ?_, s3⟩
      rw [tk, List.map_append]
      exact Y2.append (.cons T .nil)
  · rintro σ H2 ⟨x2, ys, rfl, h2, Y2, s2⟩
    rw [List.take_of_length_le (by omega)] at Y2
    exact ⟨_, rfl, l, _, rfl, .inl ⟨.inl (.inl h2), fun p hp => fin p _ _ upd_same (Y2.same (s2.trans (same_new hp _))) (s2.trans (same_new hp _))⟩⟩
end
end Rp

/-! a, *b = xs, a list of one item at least. -/
namespace Rp
open PySem PySem.Spec PySem.Calls PyProof.Rows L2 PySem.W
section
variable {prog : Program} {w : World} {A : Around} {E : Value → Shared → Prop} {s : Shared}
theorem unpack_star {l : Addr} {items : Array Value} {n i : Nat} {Q : List Value → Shared → Prop} (isL : s.heap.IsList l items) (calm : A.handled = none) (hi : i < n) (hn : n ≤ items.size + 1) (few : items.size ≤ 16384)
    (go : ∀ (h' : Heap) (tk : Nat), (∀ b o, s.heap.get? b = some o → h'.get? b = some o) → Q (items.toList.take i ++ [.ref h'.objs.size] ++ (items.toList.drop i).drop (items.size + 1 - n))
      { s with heap := h'.push (seqObj "list" ((items.toList.drop i).take (items.size + 1 - n)).toArray 0), toks := tk }) : wpAny (model prog w) A (unpackItems (.ref l) n (some i)) Q E s := by
  have apart : l ≠ s.heap.objs.size := by obtain ⟨o, ho, _⟩ := isL; exact Nat.ne_of_lt (Heap.lt_size ho)
  unfold unpackItems; refine wpAny_bind ?_; unfold notIterableAtAll
  refine wpAny_bind (wpAny_specialOf isL.typeIs slot_list_iter.lookup (wpAny_pure ?_)); simp only [Bool.false_eq_true, if_false]
  refine wpAny_bind (wpAny_holding (wpAny_pyIter_list isL (wpAny_bind (wpAny_holding (kun_draw apart i 0 _ _ ⟨_, Heap.get?_push_size _ rfl, rfl, rfl⟩ (isL.push _) (by omega) fun h₁ it1 sb1 => ?_)))))
  have isL1 : h₁.IsList l items := (isL.push _).extBut sb1.extBut apart
  rw [Nat.zero_add] at it1
  obtain ⟨oi, hoi, _⟩ := id it1
  obtain ⟨ol, hol, _⟩ := id isL1
  rw [List.drop_zero, if_neg (show ¬ ((items.toList.take i).length < i) by rw [List.length_take, Array.length_toList]; omega)]
  refine wpAny_bind (wpAny_holding (kun_collect (s := { s with heap := h₁ }) (T := "list_iterator") (.inr (.inr (.inl rfl))) (Walks.list (A := A.in1) calm s.heap.objs.size l apart items) (fun j u st => st.1.typeIs) (k := i) (by omega) ⟨it1, isL1⟩
    (Heap.lt_size hoi) (Heap.lt_size hol) (fun h₂ tk old => ?_) (by rw [sizeLine_eq]; omega)))
  have rest : (items.toList.drop i).length = items.size - i := by rw [List.length_drop, Array.length_toList]
  show wpAny _ _ (if (items.toList.drop i).length < n - 1 - i then _ else _) _ _ _; rw [if_neg (by rw [rest]; omega)]
  show wpAny _ _ (newList ((items.toList.drop i).take ((items.toList.drop i).length - (n - 1 - i))) >>= fun d => pure (items.toList.take i ++ [d] ++ (items.toList.drop i).drop ((items.toList.drop i).length - (n - 1 - i)))) _ _ _
  rw [show (items.toList.drop i).length - (n - 1 - i) = items.size + 1 - n by rw [rest]; omega]
  refine wpAny_bind (wpAny_newList (wpAny_pure (go h₂ tk fun b o z => old b o (Nat.ne_of_lt (Heap.lt_size z)) (sb1.extBut b o (Nat.ne_of_lt (Heap.lt_size z)) (Heap.get?_push_of_some _ z)))) (by rw [List.length_take, rest, sizeLine_eq]; omega))
end
section
variable {X : Cx} {pos : Pos}
/-- (a, *b) = a list: the first item, a new list of the others -/
def gStar (K : PySem.W.Frag) (t : TGs) : TG := fun v σ H Q => ∃ (a : Addr) (x : V) (xs : List V), v = .ref a ∧ SqL K H a (x :: xs) ∧ xs.length ≤ 16000 ∧ ∀ p, H p = none → t [x, .ref p] σ (upd H p (.lst xs)) Q
theorem pg_star {es : List Expr} {k : Nat} {t : TGs} (calm : X.calm = true) (h : PGs X es t) (hn : (assignEach es X.env).length = 2 := by rfl) (hst : (assignEach es X.env).findIdx? (·.1) = some 1 := by rfl) : PG X (.Tuple es k pos) (gStar X.K t) := by
  refine ⟨fun pins s σ H v u Q I r hw => ?_⟩
  obtain ⟨a, x, xs, rfl, sq, few, go⟩ := hw
  cases r
  obtain ⟨its, rv, isL, _⟩ := I.list sq
  have len := rv.length
  cases rv with
  | @cons _ v0 _ vs r0 rr =>
    have lv := rr.length
    rw [assign_Tuple]
    refine wpAny_bind (wpAny_standAt ?_)
    unfold unpack
    rw [hn, hst]
    refine wpAny_bind (wpAny_holding (unpack_star isL.isList (I.ok.hd calm) (by decide) (by simp) (by simp; omega) fun h' tk old => ?_))
    have J : Inv X pins σ H { s with heap := h', toks := tk } := I.kept old
    have big : (20000 : Nat) ≤ sizeLine := by decide
    have K1 : Inv X pins σ (upd H h'.objs.size (.lst xs)) { s with heap := h'.push (seqObj "list" vs.toArray 0), toks := tk } :=
      J.laid (t' := tk) (fun b o z => Heap.get?_push_of_some _ z) (Nat.le_refl _) ⟨by omega, vs, 0, rr, Heap.get?_push_size _ rfl⟩
    have e1 : ((v0 :: vs).toArray.toList.drop 1).take ((v0 :: vs).toArray.size + 1 - 2) = vs := by simp
    have e2 : (v0 :: vs).toArray.toList.take 1 ++ [Value.ref h'.objs.size] ++ ((v0 :: vs).toArray.toList.drop 1).drop ((v0 :: vs).toArray.size + 1 - 2) = [v0, .ref h'.objs.size] := by simp
    rw [e1, e2]
    exact h.run pins _ σ _ [x, .ref h'.objs.size] _ Q K1 (.cons r0 (.cons rfl .nil)) (go _ (J.hok.fresh (Nat.le_refl _)))
end
end Rp

set_option maxHeartbeats 8000000
/-! is_saying over data of any kind. -/
namespace Rp
open PySem PySem.Spec PyProof.Rows L2 TL RZ StX
mutual
/-- the texts among data are short, its lists and tuples not wide -/
def shS : PyData → Prop
  | .str x => x.length ≤ 1000 | .list ds => ds.length ≤ 60 ∧ shAll ds | .tuple ds => ds.length ≤ 60 ∧ shAll ds | _ => True
def shAll : List PyData → Prop
  | [] => True
  | d :: ds => shS d ∧ shAll ds
end
theorem shAll_iff : ∀ {ds : List PyData}, shAll ds ↔ ∀ d ∈ ds, shS d
  | [] => by simp [shAll]
  | d :: ds => by simp only [shAll, shAll_iff (ds := ds), List.mem_cons, forall_eq_or_imp]
theorem shS.tup {ds : List PyData} (h : shS (.tuple ds)) : ∀ d ∈ ds, shS d := shAll_iff.mp (by unfold shS at h; exact h.2)
theorem shS.wide {ds : List PyData} (h : shS (.tuple ds)) : ds.length ≤ 60 := by unfold shS at h; exact h.1
theorem shS.str {x : Str} (h : shS (.str x)) : x.length ≤ 1000 := by unfold shS at h; exact h
theorem shS.am {d : PyData} (h : shS d) : ∀ x ds, d = .tuple (.str x :: ds) → x.length ≤ 1000 := fun x ds e => by
  subst e
  exact (h.tup _ (by simp)).str
/-- what may be asked of data: not too deep, not too large, with short texts -/
structure DOk (d : PyData) : Prop where
  ok : okD d
  sz : nd d ≤ 1000
  sh : shS d
theorem DOk.tup {ds : List PyData} (h : DOk (.tuple ds)) : ∀ d ∈ ds, DOk d := fun d hd => ⟨h.ok.tup d hd, Nat.le_trans (nd_mem hd) h.sz, h.sh.tup d hd⟩
theorem DOk.few {ds : List PyData} (h : DOk (.tuple ds)) : ds.length ≤ 1000 := Nat.le_trans ndAll_le h.sz
structure SyD (hs : List PyData) (g : PyData) : Prop where
  few : hs.length ≤ 6
  am : ∀ h ∈ hs, IsAm h
  g : IsAm g
  nd : hs.Nodup
def IsSy (d : PyData) : Prop := ∃ hs g, d = .tuple [.tuple hs, g] ∧ SyD hs g
theorem isSy_two {hs : List PyData} {g : PyData} : IsSy (.tuple [.tuple hs, g]) ↔ SyD hs g :=
  ⟨fun ⟨hs', g', e, h⟩ => by injection e with e; injection e with e1 e2; injection e1 with e1; injection e2 with e2; subst e1 e2; exact h, fun h => ⟨hs, g, rfl, h⟩⟩
theorem isSy_len {ds : List PyData} (h : ds.length ≠ 2) : ¬ IsSy (.tuple ds) := fun ⟨hs, g, e, _⟩ => by
  injection e with e
  subst e
  exact h rfl
theorem atD_inj {a b : At} (h : atD a = atD b) : a = b := eqv_at.mp (by rw [h]; exact eqv_at.mpr rfl)
theorem nodup_atD {as : List At} : (as.map atD).Nodup ↔ as.Nodup := by
  induction as with
  | nil => simp
  | cons a as ih =>
    rw [List.map_cons, List.nodup_cons, List.nodup_cons, ih]
    constructor
    · rintro ⟨h1, h2⟩
      exact ⟨fun h => h1 (List.mem_map.mpr ⟨a, h, rfl⟩), h2⟩
    · rintro ⟨h1, h2⟩
      exact ⟨fun h => by obtain ⟨b, hb, e⟩ := List.mem_map.mp h; rw [atD_inj e] at hb; exact h1 hb, h2⟩
def spIsSy : Sp := fun vs H Q _ => ∃ (b : Addr) (v : V) (d : PyData), vs = [v] ∧ DAt H b v d ∧ DOk d ∧ ∀ (r : Bool) (H' : Hp), (r = true ↔ IsSy d) → Same H H' → Q (.bl r) H'
section
variable {P : Program} {w : World} {K : PySem.W.Frag} {mg : Str → Option Value} {base : Heap}
end
end Rp

set_option maxHeartbeats 8000000
/-! The law's own looks at SAYINGs. -/
namespace Rp
open PySem PySem.Spec PyProof.Rows L2 TL RZ StX
theorem unlG_nd : ∀ {as acc : List At}, (∀ a ∈ as, a ∉ acc) → as.Nodup → unlG acc as = acc ++ as
  | [], acc, _, _ => by simp [unlG]
  | a :: as, acc, h1, h2 => by
    have e : unlG acc (a :: as) = unlG (if a ∈ acc then acc else acc ++ [a]) as := rfl
    rw [List.nodup_cons] at h2
    rw [e, if_neg (h1 a (by simp)), unlG_nd (fun x hx hm => ?_) h2.2]
    · simp
    · rcases List.mem_append.mp hm with hm | hm
      · exact h1 x (by simp [hx]) hm
      · obtain rfl : x = a := by simpa using hm
        exact h2.1 hx
theorem unl_id {as : List At} : unl as = as ↔ as.Nodup := by
  constructor
  · intro h
    rw [← unl_len, h]
  · intro h
    have := unlG_nd (as := as) (acc := []) (by simp) h
    show unlG [] as = as
    rw [this]
    rfl
theorem eqv_ats : ∀ {as bs : List At}, PyData.eqvAll (as.map atD) (bs.map atD) = true ↔ as = bs
  | [], [] => by simp [PyData.eqvAll]
  | [], _ :: _ => by simp [PyData.eqvAll]
  | _ :: _, [] => by simp [PyData.eqvAll]
  | t :: ts, u :: us => by rw [List.map_cons, List.map_cons, eqvAll_cons, Bool.and_eq_true, eqv_at, eqv_ats]; simp
theorem lay_tup {k : Nat} {ds : List PyData} (h : ∀ d ∈ ds, okD d) : SeqAt.shaped (.tuple ds) = true := by
  have z := lay_all h
  refine shaped_of ?_ ?_
  · show PyData.canLayAll0 _ = true
    exact z.1
  · show PyData.depthAll _ + 1 ≤ 64
    omega
section
variable {P : Program} {w : World} {K : PySem.W.Frag} {mg : Str → Option Value} {base : Heap}
theorem scUnlikeL : FnScope ["_law_atoms", "_law_found", "_law_atom_here"] ["_law_atoms"] (defScope sUnlikeL) := ⟨rfl, rfl, rfl, by decide +kernel, rfl, by decide +kernel, by decide +kernel⟩
theorem ok_unlW {f : Addr} {fd : FuncData} (F : Fun K "_law_unlike" "_law_unlike" sUnlikeL f fd) (mTuple : mg "tuple" = none) : FnOk P w K mg base CX0 1 f fd ["_law_atoms"] spUnl := by
  refine F.ok scUnlikeL (fun vs H Q E h => ?_) (fun cdv A outer s H vs Q E hr h => ?_)
  · obtain ⟨b, q, xs, as, rfl, _⟩ := h
    rfl
  obtain ⟨b, q, xs, as, rfl, hq, A1, ok, few, fin⟩ := h
  refine ⟨_, pss_cons (ps_set (i := 1) scUnlikeL.nd rfl (Or.inl rfl) (pe_lst pa_nil))
    (pss_cons (ps_for PassesOwn.never rfl (pi_tup (pv 0)) (pg_name (i := 2) scUnlikeL.nd rfl (Or.inl rfl))
      (pss_one (ps_if (pt_cmpR (op_notInD (hu65 hr)) (pv 2) (pv 1) (by rfl)) (pss_one (ps_expr (pe_bm PySem.F.plainAttrs_list PySem.F.slot_list_append PySem.F.type_list_append mt_append (pv 1) (pa_cons (pv 2) pa_nil)))) pss_nil)))
    (pss_one (ps_ret (pe_callTy call_tuple_of (by rfl) mTuple (by decide +kernel) (pa_cons (pv 1) pa_nil))))), ?_⟩
  have big : (10000 : Nat) ≤ sizeLine := by decide
  have xl := A1.len
  rw [List.length_map] at xl
  refine ⟨(by show 0 ≤ sizeLine; decide), fun l hl => ?_⟩
  have s1 := same_new hl (.lst ([] : List V))
  have hq1 := hq.same s1
  refine ⟨_, rfl, q, rfl, ⟨_, .inl hq1⟩, for_tup (K := K) (a := q) (xs := xs) (fun i σ H2 => ∃ (x2 : Option V) (ys : List V), σ = [some (.ref q), some (.ref l), x2] ∧ H2 l = some (.lst ys) ∧ DAtAll H b ys ((unl (as.take i)).map atD) ∧ Same H H2)
    ⟨none, [], rfl, upd_same, DAtAll.nil, s1⟩ (fun i σ H2 _ ⟨_, _, _, _, _, h⟩ => .inl (hq.same h)) ?_ ?_⟩
  · rintro i x σ H2 hi ⟨x2, ys, rfl, h2, Y2, s2⟩
    obtain ⟨d, hd, T⟩ := A1.get hi
    rw [List.getElem?_map] at hd
    obtain ⟨a, ha, rfl⟩ := Option.map_eq_some_iff.mp hd
    have am := List.mem_of_getElem? ha
    have li : i < as.length := (List.getElem?_eq_some_iff.mp ha).1
    have yl := Y2.len
    rw [List.length_map] at yl
    have ul := unl_le (as := as.take i)
    rw [List.length_take] at ul
    have tk : unl (as.take (i + 1)) = if a ∈ unl (as.take i) then unl (as.take i) else unl (as.take i) ++ [a] := by rw [List.take_add_one, ha]; exact unl_snoc
    refine ⟨_, rfl, _, rfl, atD a, (unl (as.take i)).map atD, (T.same s2).dp, .lst (.inl (.inl h2)) (Y2.same s2).dp, shaped_of (ok a am).1 (by have := (ok a am).2; omega), lay_list fun e he => ?_, !decide (a ∈ unl (as.take i)), by rw [in_ats], ?_⟩
    · obtain ⟨c, hc, rfl⟩ := List.mem_map.mp he
      exact ok c (List.mem_of_mem_take (mem_unl hc))
    by_cases hm : a ∈ unl (as.take i)
    · rw [decide_eq_true hm]
      rw [if_pos hm] at tk
      exact iteF ⟨_, ys, rfl, h2, by rw [tk]; exact Y2, s2⟩
    · rw [decide_eq_false hm]
      rw [if_neg hm] at tk
      refine iteT ?_
      refine ⟨_, rfl, .inl ⟨rfl, _, .inl (.inl h2)⟩, _, rfl, l, _, _, rfl, rfl, h2, by omega, ?_⟩
      have s3 : Same H (upd H2 l (.lst (ys ++ [x]))) := fun c o z => by rw [upd_ne (ne_of_none z hl)]; exact s2 _ _ z
      refine ⟨_, ys ++ [x], rfl, upd_same, ?_, s3⟩
      rw [tk, List.map_append]
      exact Y2.append (.cons T .nil)
  · rintro σ H2 ⟨x2, ys, rfl, h2, Y2, s2⟩
    rw [List.take_of_length_le (by omega)] at Y2
    exact ⟨_, rfl, l, _, rfl, .inl ⟨.inl (.inl h2), fun p hp => fin p _ _ upd_same (Y2.same (s2.trans (same_new hp _))) (s2.trans (same_new hp _))⟩⟩
end
end Rp

set_option maxHeartbeats 8000000
/-! How deep, wide and long data may be. -/
namespace Rp
open PySem PySem.Spec PyProof.Rows L2 TL RZ StX
mutual
/-- widths to W, texts to L, of ASCII signs, ints to 1000 + L -/
def shG (W L : Nat) : PyData → Prop
  | .str x => x.length ≤ L ∧ (∀ c ∈ tl x, c < 128) | .int n => -((1000 + L : Nat) : Int) ≤ n ∧ n ≤ ((1000 + L : Nat) : Int) | .list ds => ds.length ≤ W ∧ shGs W L ds | .tuple ds => ds.length ≤ W ∧ shGs W L ds | _ => True
def shGs (W L : Nat) : List PyData → Prop
  | [] => True
  | d :: ds => shG W L d ∧ shGs W L ds
end
theorem shGs_iff {W L : Nat} : ∀ {ds : List PyData}, shGs W L ds ↔ ∀ d ∈ ds, shG W L d
  | [] => by simp [shGs]
  | d :: ds => by simp only [shGs, shGs_iff (ds := ds), List.mem_cons, forall_eq_or_imp]
theorem shG_tup {W L : Nat} {ds : List PyData} : shG W L (.tuple ds) ↔ ds.length ≤ W ∧ ∀ d ∈ ds, shG W L d := by
  rw [← shGs_iff]; simp only [shG]
theorem shG_list {W L : Nat} {ds : List PyData} : shG W L (.list ds) ↔ ds.length ≤ W ∧ ∀ d ∈ ds, shG W L d := by
  rw [← shGs_iff]; simp only [shG]
mutual
theorem shG.more {W L W' L' : Nat} (hW : W ≤ W') (hL : L ≤ L') : ∀ {d : PyData}, shG W L d → shG W' L' d
  | .str x, h => by unfold shG at h ⊢; exact ⟨Nat.le_trans h.1 hL, h.2⟩
  | .int n, h => by unfold shG at h ⊢; omega
  | .list ds, h => by unfold shG at h ⊢; exact ⟨Nat.le_trans h.1 hW, shGs.more hW hL h.2⟩
  | .tuple ds, h => by unfold shG at h ⊢; exact ⟨Nat.le_trans h.1 hW, shGs.more hW hL h.2⟩
  | .none, _ => by unfold shG; trivial
  | .bool _, _ => by unfold shG; trivial
  | .dict _, _ => by unfold shG; trivial
theorem shGs.more {W L W' L' : Nat} (hW : W ≤ W') (hL : L ≤ L') : ∀ {ds : List PyData}, shGs W L ds → shGs W' L' ds
  | [], _ => by unfold shGs; trivial
  | d :: ds, h => by unfold shGs at h ⊢; exact ⟨shG.more hW hL h.1, shGs.more hW hL h.2⟩
end
mutual
theorem shG.sh {W L : Nat} (hW : W ≤ 60) (hL : L ≤ 1000) : ∀ {d : PyData}, shG W L d → shS d
  | .str x, h => by unfold shG at h; unfold shS; exact Nat.le_trans h.1 hL
  | .int n, h => by unfold shS; trivial
  | .list ds, h => by unfold shG at h; unfold shS; exact ⟨by omega, shGs.sh hW hL h.2⟩
  | .tuple ds, h => by unfold shG at h; unfold shS; exact ⟨by omega, shGs.sh hW hL h.2⟩
  | .none, _ => by unfold shS; trivial
  | .bool _, _ => by unfold shS; trivial
  | .dict _, _ => by unfold shS; trivial
theorem shGs.sh {W L : Nat} (hW : W ≤ 60) (hL : L ≤ 1000) : ∀ {ds : List PyData}, shGs W L ds → shAll ds
  | [], _ => by unfold shAll; trivial
  | d :: ds, h => by unfold shGs at h; unfold shAll; exact ⟨shG.sh hW hL h.1, shGs.sh hW hL h.2⟩
end
/-- fine: may be laid, to depth k, width W, texts L -/
structure Fq (k W L : Nat) (d : PyData) : Prop where
  lay : d.canLay0 = true
  dp : d.depth ≤ k
  sh : shG W L d
theorem Fq.more {k W L k' W' L' : Nat} {d : PyData} (h : Fq k W L d) (hk : k ≤ k') (hW : W ≤ W') (hL : L ≤ L') : Fq k' W' L' d := ⟨h.lay, Nat.le_trans h.dp hk, h.sh.more hW hL⟩
theorem Fq.dok {k W L : Nat} {d : PyData} (h : Fq k W L d) (hk : k ≤ 60) (hW : W ≤ 60) (hL : L ≤ 1000) (hn : nd d ≤ 1000) : DOk d := ⟨⟨h.lay, Nat.le_trans h.dp hk⟩, hn, h.sh.sh hW hL⟩
theorem fq_tup {k W L : Nat} {ds : List PyData} : Fq (k + 1) W L (.tuple ds) ↔ ds.length ≤ W ∧ ∀ d ∈ ds, Fq k W L d := by
  constructor
  · rintro ⟨h1, h2, h3⟩
    have h3 := shG_tup.mp h3
    have h1 : PyData.canLayAll0 ds = true := h1
    have h2 : PyData.depthAll ds + 1 ≤ k + 1 := h2
    exact ⟨h3.1, fun d hd => ⟨(okAll h1 k (by omega) d hd).1, (okAll h1 k (by omega) d hd).2, h3.2 d hd⟩⟩
  · rintro ⟨h1, h2⟩
    have z := lay_all (k := k) fun d hd => ⟨(h2 d hd).lay, (h2 d hd).dp⟩
    exact ⟨z.1, (by show PyData.depthAll ds + 1 ≤ k + 1; omega), shG_tup.mpr ⟨h1, fun d hd => (h2 d hd).sh⟩⟩
theorem fq_list {k W L : Nat} {ds : List PyData} : Fq (k + 1) W L (.list ds) ↔ ds.length ≤ W ∧ ∀ d ∈ ds, Fq k W L d := by
  constructor
  · rintro ⟨h1, h2, h3⟩
    have h3 := shG_list.mp h3
    have h1 : PyData.canLayAll0 ds = true := h1
    have h2 : PyData.depthAll ds + 1 ≤ k + 1 := h2
    exact ⟨h3.1, fun d hd => ⟨(okAll h1 k (by omega) d hd).1, (okAll h1 k (by omega) d hd).2, h3.2 d hd⟩⟩
  · rintro ⟨h1, h2⟩
    have z := lay_all (k := k) fun d hd => ⟨(h2 d hd).lay, (h2 d hd).dp⟩
    exact ⟨z.1, (by show PyData.depthAll ds + 1 ≤ k + 1; omega), shG_list.mpr ⟨h1, fun d hd => (h2 d hd).sh⟩⟩
/-- an item put in place of another -/
theorem ndAll_set : ∀ {ds : List PyData} {i : Nat} {e : PyData}, ndAll (ds.set i e) ≤ ndAll ds + nd e
  | [], _, _ => by simp [ndAll]
  | d :: ds, 0, e => by simp only [List.set_cons_zero, ndAll]; omega
  | d :: ds, i + 1, e => by have := ndAll_set (ds := ds) (i := i) (e := e); simp only [List.set_cons_succ, ndAll]; omega
theorem ndAll_erase : ∀ {ds : List PyData} {i : Nat}, ndAll (ds.eraseIdx i) ≤ ndAll ds
  | [], _ => by simp [ndAll]
  | d :: ds, 0 => by simp only [List.eraseIdx_cons_zero, ndAll]; omega
  | d :: ds, i + 1 => by have := ndAll_erase (ds := ds) (i := i); simp only [List.eraseIdx_cons_succ, ndAll]; omega
theorem ndAll_back : ∀ {ds : List PyData}, ndAll ds.reverse = ndAll ds
  | [] => rfl
  | d :: ds => by rw [List.reverse_cons, ndAll_append, ndAll_back]; simp only [ndAll]; omega
theorem ndAll_cut {ds : List PyData} {i : Nat} : ndAll (ds.take i) + ndAll (ds.drop i) = ndAll ds := by
  rw [← ndAll_append, List.take_append_drop]
end Rp

set_option maxHeartbeats 8000000
/-! What a bend makes of a text or an int. -/
namespace Rp
open PySem PySem.Spec PyProof.Rows L2 TL RZ StX
/-- a text of few ASCII signs -/
def Asc (L : Nat) (x : Str) : Prop := x.length ≤ L ∧ ∀ c ∈ tl x, c < 128
theorem Asc.fq {k W L : Nat} {x : Str} (h : Asc L x) : Fq k W L (.str x) := by
  refine ⟨?_, Nat.zero_le _, ?_⟩
  · show x.cps.all (· < 0x110000) = true
    rw [Array.all_eq_true']
    intro c hc
    have := h.2 c (Array.mem_toList_iff.mpr hc)
    exact decide_eq_true (by omega)
  · unfold shG; exact h
theorem Fq.asc {k W L : Nat} {x : Str} (h : Fq k W L (.str x)) : Asc L x := by
  have := h.sh
  unfold shG at this
  exact this
theorem Asc.more {L L' : Nat} {x : Str} (h : Asc L x) (hL : L ≤ L') : Asc L' x := ⟨Nat.le_trans h.1 hL, h.2⟩
theorem asc_upper {L : Nat} {x : Str} (h : Asc L x) : Asc L (Txt.upper x) := by
  rw [upper_ascii h.2]
  refine ⟨?_, fun c hc => ?_⟩
  · show (Array.map up1 x.cps).size ≤ L
    rw [Array.size_map]
    exact h.1
  · have hc : c ∈ (Array.map up1 x.cps).toList := hc
    rw [Array.toList_map] at hc
    obtain ⟨e, he, rfl⟩ := List.mem_map.mp hc
    have := h.2 e he
    unfold up1
    split <;> omega
theorem asc_add {L M : Nat} {x y : Str} (h : Asc L x) (h' : Asc M y) : Asc (L + M) (x ++ y) := by
  refine ⟨?_, fun c hc => ?_⟩
  · show (x.cps ++ y.cps).size ≤ L + M
    rw [Array.size_append]
    have h1 : x.cps.size ≤ L := h.1
    have h2 : y.cps.size ≤ M := h'.1
    omega
  · have hc : c ∈ (x.cps ++ y.cps).toList := hc
    rw [Array.toList_append] at hc
    rcases List.mem_append.mp hc with hc | hc
    · exact h.2 c hc
    · exact h'.2 c hc
theorem asc_cut {L : Nat} {x : Str} {lo hi : Option Int} (h : Asc L x) : Asc L (cutS x lo hi) := by
  have sub : ∀ c ∈ tl (cutS x lo hi), c ∈ tl x := fun c hc => by
    have hc : c ∈ (List.take (HT.sIx x.length x.length hi - HT.sIx x.length 0 lo) (List.drop (HT.sIx x.length 0 lo) x.cps.toList)).toArray.toList := hc
    rw [List.toList_toArray] at hc
    exact List.mem_of_mem_drop (List.mem_of_mem_take hc)
  refine ⟨?_, fun c hc => h.2 c (sub c hc)⟩
  have h1 : x.cps.size ≤ L := h.1
  show (List.take (HT.sIx x.length x.length hi - HT.sIx x.length 0 lo) (List.drop (HT.sIx x.length 0 lo) x.cps.toList)).toArray.size ≤ L
  rw [List.size_toArray, List.length_take, List.length_drop, Array.length_toList]
  omega
theorem fq_int {k W L : Nat} {n : Int} (h : -((1000 + L : Nat) : Int) ≤ n ∧ n ≤ ((1000 + L : Nat) : Int)) : Fq k W L (.int n) := ⟨rfl, Nat.zero_le _, by unfold shG; exact h⟩
theorem Fq.int {k W L : Nat} {n : Int} (h : Fq k W L (.int n)) : -((1000 + L : Nat) : Int) ≤ n ∧ n ≤ ((1000 + L : Nat) : Int) := by
  have := h.sh
  unfold shG at this
  exact this
theorem asc_int {n : Int} (h : -1000000 ≤ n ∧ n ≤ 1000000) : Asc 9 (Str.ofString (toString n)) := by
  refine ⟨?_, ?_⟩
  · rw [PySem.ofString_length]
    exact Nat.le_trans (int_text_length_le10 (a := n) (k := 8) (by decide) (by omega)) (by decide)
  · cases n with
    | ofNat k =>
      intro c hc
      have e : tl (Str.ofString (toString (Int.ofNat k))) = numL k := tl_num k
      rw [e] at hc
      have := numL_digits k c hc
      omega
    | negSucc k =>
      intro c hc
      have e : tl (Str.ofString (toString (Int.negSucc k))) = 45 :: tl (Str.ofString (toString (((k + 1 : Nat) : Int)))) := by
        rw [TL.tl_ofString, TL.tl_ofString]
        show List.map Char.toNat ("-" ++ toString (k + 1)).toList = _
        rw [String.toList_append]
        rfl
      rw [e, tl_num] at hc
      rcases List.mem_cons.mp hc with hc | hc
      · omega
      · have := numL_digits (k + 1) c hc
        omega
end Rp

set_option maxHeartbeats 8000000
/-! Displays of data; the odd things of _law_otherwise. -/
namespace Rp
open PySem PySem.Spec PyProof.Rows L2 TL RZ StX
mutual
inductive Lq where
  | non
  | bl (b : Bool)
  | i (n : Int)
  | m (n : Int)
  | s (x : Str)
  | t (l : Lqs)
  | l (l : Lqs)
inductive Lqs where
  | nil
  | cons (a : Lq) (r : Lqs)
end
mutual
def Lq.te : Lq → TE
  | .non => tC .non
  | .bl b => tC (.bl b)
  | .i n => tC (.int n)
  | .m n => tUn (rU fun i => .int (-i)) (tC (.int n))
  | .s x => tC (.str x)
  | .t l => tTup l.ta
  | .l l => tLst l.ta
def Lqs.ta : Lqs → TA
  | .nil => tNil
  | .cons a r => tCons a.te r.ta
end
mutual
def Lq.d : Lq → PyData
  | .non => .none
  | .bl b => .bool b
  | .i n => .int n
  | .m n => .int (-n)
  | .s x => .str x
  | .t l => .tuple l.ds
  | .l l => .list l.ds
def Lqs.ds : Lqs → List PyData
  | .nil => []
  | .cons a r => a.d :: r.ds
end
def Lqs.len : Lqs → Nat
  | .nil => 0
  | .cons _ r => r.len + 1
mutual
def Lq.ok : Lq → Prop
  | .t l => l.len ≤ 1000 ∧ l.ok
  | .l l => l.len ≤ 1000 ∧ l.ok
  | _ => True
def Lqs.ok : Lqs → Prop
  | .nil => True
  | .cons a r => a.ok ∧ r.ok
end
theorem Lqs.ds_len : ∀ l : Lqs, l.ds.length = l.len
  | .nil => rfl
  | .cons _ r => congrArg (· + 1) r.ds_len
/-- no new list stands at b -/
def Apart (H H' : Hp) (b : Addr) : Prop := H' b = none ∨ ∃ o, H b = some o
theorem Apart.less {H H1 H' : Hp} {b : Addr} (s : Same H1 H') (h : Apart H H' b) : Apart H H1 b := h.imp (fun z => by
  cases e : H1 b with
  | none => rfl
  | some o => rw [s _ _ e] at z; cases z) id
theorem Apart.step {H H1 H' : Hp} {b : Addr} (s : Same H H1) (h : Apart H H' b) : Apart H1 H' b := h.imp id fun ⟨o, e⟩ => ⟨o, s _ _ e⟩
theorem Apart.ne {H H1 : Hp} {b p : Addr} {o : HO} (s : Same H H1) (hp : H1 p = none) (h : Apart H (upd H1 p o) b) : p ≠ b := by
  rintro rfl
  rcases h with h | ⟨u, h⟩
  · rw [upd_same] at h; cases h
  · rw [s _ _ h] at hp; cases hp
mutual
theorem Lq.run {σ : L2.St} : ∀ (L : Lq) {H : Hp} {Q : V → Hp → Prop}, L.ok → (∀ (v : V) (H' : Hp), (∀ b, Apart H H' b → DAt H' b v L.d) → Same H H' → Q v H') → L.te σ H Q
  | .non, H, Q, _, q => q _ H (fun b _ => by unfold Lq.d DAt; rfl) (Same.refl H)
  | .bl c, H, Q, _, q => q _ H (fun b _ => by unfold Lq.d DAt; rfl) (Same.refl H)
  | .i n, H, Q, _, q => q _ H (fun b _ => by unfold Lq.d DAt; rfl) (Same.refl H)
  | .m n, H, Q, _, q => ⟨n, rfl, q _ H (fun b _ => by unfold Lq.d DAt; rfl) (Same.refl H)⟩
  | .s x, H, Q, _, q => q _ H (fun b _ => by unfold Lq.d DAt; rfl) (Same.refl H)
  | .t l, H, Q, ⟨hl, ho⟩, q => Lqs.run l ho fun xs H1 hn hx s1 => by
    have big : (1000 : Nat) ≤ sizeLine := by decide
    refine ⟨by rw [hn]; exact Nat.le_trans hl big, fun p hp => ?_⟩
    have s2 := same_new hp (.tup xs)
    exact q _ _ (fun b hb => by unfold Lq.d DAt; exact ⟨p, xs, rfl, .inl upd_same, (hx b (hb.less s2)).same s2⟩) (s1.trans s2)
  | .l l, H, Q, ⟨hl, ho⟩, q => Lqs.run l ho fun xs H1 hn hx s1 => by
    have big : (1000 : Nat) ≤ sizeLine := by decide
    refine ⟨by rw [hn]; exact Nat.le_trans hl big, fun p hp => ?_⟩
    have s2 := same_new hp (.lst xs)
    exact q _ _ (fun b hb => by unfold Lq.d DAt; exact ⟨p, xs, rfl, hb.ne s1 hp, upd_same, (hx b (hb.less s2)).same s2⟩) (s1.trans s2)
theorem Lqs.run {σ : L2.St} : ∀ (L : Lqs) {H : Hp} {Q : List V → Hp → Prop}, L.ok → (∀ (v : List V) (H' : Hp), v.length = L.len → (∀ b, Apart H H' b → DAtAll H' b v L.ds) → Same H H' → Q v H') → L.ta σ H Q
  | .nil, H, Q, _, q => q _ H rfl (fun b _ => by unfold Lqs.ds; exact DAtAll.nil) (Same.refl H)
  | .cons a r, H, Q, ⟨h1, h2⟩, q => Lq.run a h1 fun v H1 hv s1 => Lqs.run r h2 fun xs H2 hn hx s2 =>
    q _ _ (congrArg (· + 1) hn) (fun b hb => by unfold Lqs.ds; exact DAtAll.cons ((hv b (hb.less s2)).same s2) (hx b (hb.step s1))) (s1.trans s2)
end
theorem Lq.runE {σ : L2.St} (L : Lq) (te : TE) (e : L.te = te) {H : Hp} {Q : V → Hp → Prop} (h : L.ok) (q : ∀ (v : V) (H' : Hp), (∀ b, Apart H H' b → DAt H' b v L.d) → Same H H' → Q v H') : te σ H Q := e ▸ Lq.run L h q
theorem seq_asg {te : TE} {g : TG} {rest : TS} {D : Ends} {σ : L2.St} {H : Hp} (h : te σ H fun v H1 => g v σ H1 fun σ2 H2 => rest D σ2 H2) : tSeq (tAsg te g) rest D σ H := h
def oddL : Lq := .l (.cons (.non) (.cons (.bl true) (.cons (.bl false) (.cons (.m 1) (.cons (.i 100) (.cons (.i 99) (.cons (.i 0) (.cons (.i 1) (.cons (.s "") (.cons (.s "s") (.cons (.s "f") (.cons (.s "0") (.cons (.s "if") (.cons (.s "nat") (.cons (.s "natural") (.cons (.t .nil) (.cons (.l .nil) (.cons (.t (.cons (.s "0") .nil)) (.cons (.l (.cons (.s "0") .nil)) (.nil))))))))))))))))))))
def oddDs : List PyData := match oddL.d with | .list ds => ds | _ => []
theorem odd_len : oddDs.length = 19 := rfl
theorem oddL_ok : oddL.ok := by simp [oddL, Lq.ok, Lqs.ok, Lqs.len]
theorem asc_of {L : Nat} {x : Str} (h : (decide (x.length ≤ L) && (tl x).all (fun c => decide (c < 128))) = true) : Asc L x := by
  rw [Bool.and_eq_true, decide_eq_true_iff, List.all_eq_true] at h
  exact ⟨h.1, fun c hc => of_decide_eq_true (h.2 c hc)⟩
theorem fq_non {k W L : Nat} : Fq k W L .none := ⟨rfl, Nat.zero_le _, by unfold shG; trivial⟩
theorem fq_bl {k W L : Nat} {c : Bool} : Fq k W L (.bool c) := ⟨rfl, Nat.zero_le _, by unfold shG; trivial⟩
theorem odd_fq : ∀ e ∈ oddDs, Fq 1 1 7 e ∧ nd e ≤ 2 := by
  intro e he
  have he : e ∈ [PyData.none, .bool true, .bool false, .int (-1), .int 100, .int 99, .int 0, .int 1, .str "", .str "s", .str "f", .str "0", .str "if", .str "nat", .str "natural", .tuple [], .list [], .tuple [.str "0"], .list [.str "0"]] := he
  have n1 : ∀ x : Str, nd (.str x) ≤ 2 := fun x => by simp [nd]
  have i1 : ∀ n : Int, nd (.int n) ≤ 2 := fun x => by simp [nd]
  have z : Fq 0 1 7 (.str "0") := Asc.fq (asc_of (by decide +kernel))
  simp only [List.mem_cons, List.not_mem_nil, or_false] at he
  rcases he with rfl | rfl | rfl | rfl | rfl | rfl | rfl | rfl | rfl | rfl | rfl | rfl | rfl | rfl | rfl | rfl | rfl | rfl | rfl
  · exact ⟨fq_non, by simp [nd]⟩
  · exact ⟨fq_bl, by simp [nd]⟩
  · exact ⟨fq_bl, by simp [nd]⟩
  · exact ⟨fq_int (by omega), i1 _⟩
  · exact ⟨fq_int (by omega), i1 _⟩
  · exact ⟨fq_int (by omega), i1 _⟩
  · exact ⟨fq_int (by omega), i1 _⟩
  · exact ⟨fq_int (by omega), i1 _⟩
  · exact ⟨Asc.fq (asc_of (by decide +kernel)), n1 _⟩
  · exact ⟨Asc.fq (asc_of (by decide +kernel)), n1 _⟩
  · exact ⟨Asc.fq (asc_of (by decide +kernel)), n1 _⟩
  · exact ⟨Asc.fq (asc_of (by decide +kernel)), n1 _⟩
  · exact ⟨Asc.fq (asc_of (by decide +kernel)), n1 _⟩
  · exact ⟨Asc.fq (asc_of (by decide +kernel)), n1 _⟩
  · exact ⟨Asc.fq (asc_of (by decide +kernel)), n1 _⟩
  · exact ⟨fq_tup.mpr ⟨by simp, by simp⟩, by simp [nd, ndAll]⟩
  · exact ⟨fq_list.mpr ⟨by simp, by simp⟩, by simp [nd, ndAll]⟩
  · exact ⟨fq_tup.mpr ⟨by simp, by simpa using z⟩, by simp [nd, ndAll]⟩
  · exact ⟨fq_list.mpr ⟨by simp, by simpa using z⟩, by simp [nd, ndAll]⟩
end Rp

/-! What k10 takes over: small TERMs, the stack, NAMEs. -/
namespace Rp
open PySem PySem.Spec PyProof.Rows L2 TL
def runs : List Tm → List Tm → List Tm → Prop
  | S, [], S' => S = S'
  | S, k :: r, S' => ∃ S0, S = S0 ++ k.kids ∧ runs (S0 ++ [k]) r S'
theorem runs_post : ∀ (t : Tm) (S r S' : List Tm), runs (S ++ [t]) r S' → runs S (t.rpost.reverse ++ r) S'
  | .v n, S, r, S', h => by simp only [Tm.rpost, List.reverse_singleton, List.singleton_append]; exact ⟨S, by simp [Tm.kids], h⟩
  | .z, S, r, S', h => by simp only [Tm.rpost, List.reverse_singleton, List.singleton_append]; exact ⟨S, by simp [Tm.kids], h⟩
  | .s t, S, r, S', h => by
    simp only [Tm.rpost, List.reverse_cons, List.append_assoc, List.singleton_append]
    exact runs_post t S _ _ ⟨S, by simp [Tm.kids], h⟩
  | .f l r', S, r, S', h => by
    simp only [Tm.rpost, List.reverse_cons, List.reverse_append, List.append_assoc, List.singleton_append]
    refine runs_post l S _ _ (runs_post r' (S ++ [l]) _ _ ⟨S, by simp [Tm.kids], h⟩)
theorem part_of : ∀ {t k : Tm}, k ∈ t.rpost → k.size ≤ t.size ∧ ∀ n ∈ k.nums, n ∈ t.nums
  | .v n, k, h => by simp [Tm.rpost] at h; subst h; exact ⟨Nat.le_refl _, fun n h => h⟩
  | .z, k, h => by simp [Tm.rpost] at h; subst h; exact ⟨Nat.le_refl _, fun n h => h⟩
  | .s t, k, h => by
    simp [Tm.rpost] at h
    rcases h with rfl | h
    · exact ⟨Nat.le_refl _, fun n h => h⟩
    · have := part_of h
      exact ⟨by simp only [Tm.size]; omega, this.2⟩
  | .f l r, k, h => by
    simp [Tm.rpost] at h
    rcases h with rfl | h | h
    · exact ⟨Nat.le_refl _, fun n h => h⟩
    · have := part_of h
      exact ⟨by simp only [Tm.size]; omega, fun n hn => List.mem_append.mpr (.inr (this.2 n hn))⟩
    · have := part_of h
      exact ⟨by simp only [Tm.size]; omega, fun n hn => List.mem_append.mpr (.inl (this.2 n hn))⟩
theorem drop_min {α : Type} (xs : List α) (i : Nat) : xs.drop (min i xs.length) = xs.drop i := by
  rcases Nat.le_total i xs.length with h | h
  · rw [Nat.min_eq_left h]
  · rw [Nat.min_eq_right h, List.drop_length, List.drop_of_length_le h]
theorem cut_from {xs : List V} {i : Nat} {a : Int} (h : a = (i : Nat)) : cutV xs (some a) none = xs.drop i := by
  subst h
  unfold cutV
  rw [HT.sIx_none, HT.sIx_nat, drop_min]
  refine List.take_of_length_le ?_
  rw [List.length_drop]
  omega
end Rp

/-! Tuples that are known to be plain (they bear no dict of their own), made by tuple(list) and by a display; dict(t) of such a tuple of pairs. -/
namespace Rp
open PySem PySem.Spec PyProof.Rows L2
/-- a plain tuple stands at a -/
def PlT (H : Hp) (a : Addr) (xs : List V) : Prop := ∃ o : Obj, o.dict = none ∧ H a = some (.frz o (.tup xs))
theorem PlT.sq {K : PySem.W.Frag} {H : Hp} {a : Addr} {xs : List V} (h : PlT H a xs) : SqT K H a xs := let ⟨o, _, e⟩ := h; .inl (.inr ⟨o, e⟩)
theorem PlT.same {H H' : Hp} {a : Addr} {xs : List V} (e : Same H H') (h : PlT H a xs) : PlT H' a xs := let ⟨o, d, q⟩ := h; ⟨o, d, e _ _ q⟩
theorem PlT.mono {H H' : Hp} {a : Addr} {xs : List V} (e : ∀ o, H a = some (.frz o (.tup xs)) → H' a = some (.frz o (.tup xs))) (h : PlT H a xs) : PlT H' a xs := let ⟨o, d, q⟩ := h; ⟨o, d, e _ q⟩
section
variable {X : Cx}
def rTupF (K : PySem.W.Frag) : List V → Hp → VK → Prop := fun vs H Q => ∃ (p : Addr) (ys : List V), vs = [.ref p] ∧ SqL K H p ys ∧ ∀ (l : Addr) (o : Obj), o.dict = none → H l = none → Q (.ref l) (upd H l (.frz o (.tup ys)))
theorem cr_tupF : CallR X (.type "tuple") (rTupF X.K) := by
  intro pins s σ H vs us Q I r h
  obtain ⟨p, ys, rfl, hq, q⟩ := h
  rw [Vals.ref1 r]
  obtain ⟨its, rv, pl, hz⟩ := I.list hq
  have few := rv.length
  refine call_tuple_list pl.isList (fun g old => ?_) (by simp only [List.size_toArray] <;> omega)
  have J : Inv X pins σ H { s with heap := g } := I.kept (t' := s.toks) old
  have there : (g.push { cls := .type "tuple", data := .seq its.toArray }).get? g.objs.size = some { cls := .type "tuple", data := .seq its.toArray } := Heap.get?_push_size _ rfl
  exact ⟨.ref g.objs.size, _, J.laid (t' := s.toks) (o := .frz { cls := .type "tuple", data := .seq its.toArray } (.tup ys)) (fun b o e => Heap.get?_push_of_some _ e) (Nat.le_refl _) ⟨there, hz, its, rv, IsTup.new _ _⟩, rfl,
    q _ _ rfl (J.hok.fresh (Nat.le_refl _))⟩
/-- (e, ..), told to be plain -/
def tTupF (t : TA) : TE := fun σ H Q => t σ H fun xs H1 => xs.length ≤ sizeLine ∧ ∀ (p : Addr) (o : Obj), o.dict = none → H1 p = none → Q (.ref p) (upd H1 p (.frz o (.tup xs)))
theorem pe_tupF {es : List Expr} {t : TA} {x1 : Nat} {pos : Pos} (h : PA X es t) : PE X (.Tuple es x1 pos) (tTupF t) := by
  refine ⟨fun pins s σ H Q I hq => wpAny_Tuple_spliced (thn (h.run pos pins s σ H _ I hq) fun us s1 ⟨xs, H1, I1, r, z, q⟩ => ⟨by rw [← r.length]; exact z, ?_⟩)⟩
  have at_ : (s1.heap.push { cls := .type "tuple", data := .seq us.toArray }).get? s1.heap.objs.size = some { cls := .type "tuple", data := .seq us.toArray } := Heap.get?_push_size _ rfl
  exact ⟨.ref s1.heap.objs.size, _, I1.laid (t' := s1.toks) (o := .frz { cls := .type "tuple", data := .seq us.toArray } (.tup xs)) (fun b u e => Heap.get?_push_of_some _ e) (Nat.le_refl _) ⟨at_, z, us, r, ⟨_, at_, rfl, _, rfl⟩⟩, rfl,
    q _ _ rfl (I1.hok.fresh (Nat.le_refl _))⟩
theorem raw_pairs {pins : List (Addr × Obj)} {σ : L2.St} {H : Hp} {s : Shared} (I : Inv X pins σ H s) : ∀ {ps : List Addr} {kvs : List (Key × V)}, Paired (fun p (kv : Key × V) => SqT X.K H p [kV kv.1, kv.2]) ps kvs →
    ∃ (prs : List (Key × Value)) (raw : List (Value × Value)), KV kvs prs ∧ raw.length = ps.length ∧ prs.length = ps.length ∧ ∀ j : Nat, j < ps.length → ∃ (b : Addr) (k : Key) (u x : Value), ps[j]? = some b ∧ prs[j]? = some (k, x) ∧ raw[j]? = some (u, x) ∧ IsTup s.heap b #[u, x] ∧ keyIs k u = true
  | _, _, .nil => ⟨[], [], .nil, rfl, rfl, fun j h => absurd h (Nat.not_lt_zero _)⟩
  | _, _, .cons (a := p) (b := kv) h t => by
    obtain ⟨prs, raw, r, l1, l2, each⟩ := raw_pairs I t
    obtain ⟨its, rv, ht, _⟩ := I.tuple h
    obtain ⟨u, y, rfl, ru, ry⟩ := vals2 rv
    refine ⟨(kv.1, y) :: prs, (u, y) :: raw, .cons ⟨rfl, ry⟩ r, congrArg (· + 1) l1, congrArg (· + 1) l2, fun j hj => ?_⟩
    cases j with
    | zero => exact ⟨p, kv.1, u, y, rfl, rfl, rfl, ht, kV_is (P := X.prog) (w := X.w) ru⟩
    | succ j => exact each j (Nat.lt_of_succ_lt_succ hj)
def rDictT (K : PySem.W.Frag) : List V → Hp → VK → Prop := fun vs H Q => ∃ (a : Addr) (ps : List Addr) (kvs : List (Key × V)), vs = [.ref a] ∧ PlT H a (ps.map V.ref) ∧ Paired (fun p (kv : Key × V) => SqT K H p [kV kv.1, kv.2]) ps kvs ∧
  ∀ p, H p = none → Q (.ref p) (upd H p (.dK (mergeK [] kvs)))
theorem cr_dictT (calm : X.calm = true) : CallR X (.type "dict") (rDictT X.K) := by
  intro pins s σ H vs us Q I r told
  obtain ⟨a, ps, kvs, rfl, ⟨o, od, ha⟩, pairs, go⟩ := told
  rw [Vals.ref1 r]
  obtain ⟨ho, hz, its, rv, oo, ho', hc, n, hd⟩ := (show ObjOk X.prog X.w H s.heap a (.frz o (.tup (ps.map V.ref))) from I.hok a _ ha)
  obtain rfl : o = oo := Option.some.inj (ho.symm.trans ho')
  have ei := refs_at rv
  subst ei
  obtain ⟨prs, raw, rel, l1, l2, each⟩ := raw_pairs I pairs
  rw [List.length_map] at hz
  have items : PairItems s.heap (ps.map Value.ref).toArray (fun j => ps.getD j 0) raw := by
    refine ⟨by simp [l1], fun j k v e => ?_⟩
    have lj : j < ps.length := by rw [← l1]; exact (List.getElem?_eq_some_iff.mp e).1
    obtain ⟨b, k', u, x, e1, e2, e3, e4, e5⟩ := each j lj
    obtain ⟨rfl, rfl⟩ : k = u ∧ v = x := by rw [e] at e3; cases e3; exact ⟨rfl, rfl⟩
    have gd : ps.getD j 0 = b := by rw [List.getD_eq_getElem?_getD, e1]; rfl
    refine ⟨by simp [e1, gd], .inl ?_⟩
    show s.heap.IsTuple (ps.getD j 0) #[k, v]
    rw [gd]
    exact e4
  refine PySem.call_dict_pairs (knd := mixKind X.prog X.w) (kvs := prs) (PairArg.tuple a _ _ raw) (I.ok.hd calm) ⟨⟨o, n, ho, hc, od, hd⟩, items⟩ ?_ (by omega) fun g tk now old => ?_
  · refine ⟨by omega, fun j k v e => ?_⟩
    have lj : j < ps.length := by rw [← l1]; exact (List.getElem?_eq_some_iff.mp (show raw[j]? = some (k, v) from e)).1
    obtain ⟨b, k', u, x, e1, e2, e3, e4, e5⟩ := each j lj
    obtain ⟨rfl, rfl⟩ : k = u ∧ v = x := by
      have e : raw[j]? = some (k, v) := e
      rw [e] at e3; cases e3; exact ⟨rfl, rfl⟩
    exact ⟨k', e2, e5⟩
  · have hm : (s.heap.objs.size == sysModules) = false := beq_eq_false_iff_ne.mpr (Nat.ne_of_gt I.big)
    have len : (mergeK [] kvs).length ≤ sizeLine := by
      have q := length_mergeK kvs []
      have z := rel.length
      rw [List.length_nil] at q
      omega
    exact ⟨.ref s.heap.objs.size, _, I.laid (t' := tk) (o := .dK (mergeK [] kvs)) (fun b u e => old b u (by simp) e) (Nat.le_refl _) ⟨len, hm, merged [] prs, KV.merge rel .nil, now⟩, rfl, go _ (I.hok.fresh (Nat.le_refl _))⟩
end
end Rp

/-! A def within a def, handed to another def and called there: what its cells hold is known where that def is called, and stays so while it runs. -/
namespace Rp
open PySem PySem.Spec PyProof.Rows L2 NdefX LamX
/-- what the cells of Fn hold, and that they are no caller's frame -/
def Held1 (cl : List (Str × Addr)) (fr : List Str) (ws : List (Option V)) (outer : List Env) (s : Shared) (H : Hp) : Prop := CellsAt cl fr ws s.heap H ∧ ∀ y c, cl.lookup y = some c → c ∉ frs outer
/-- a def's promise, kept where R is known of the caller's state -/
structure QnOk (P : Program) (w : World) (K : PySem.W.Frag) (mg : Str → Option Value) (base : Heap) (k : Nat) (f : Addr) (fd : FuncData) (ps : List Str) (R : List Env → Shared → Hp → Prop) (sp : Sp) : Prop where
  len : ∀ vs H Q E, sp vs H Q E → vs.length = ps.length
  run : ∀ (A : Around) (outer : List Env) (s : Shared) (H : Hp) (args : Args) (us : List Value) (vs : List V) (Q : VK) (E : XK), R outer s H → Room k A → Env0 P w K mg base A outer s H → BindsTo s fd args (ps.zip us) → Vals vs us → sp vs H Q E →
    codeAny (model P w) A (.call (.ref f) args) (CR CX0 outer P w H s Q E) s
section
variable {P : Program} {w : World} {K : PySem.W.Frag} {mg : Str → Option Value} {base : Heap}
/-- a def by its body, R told of the caller's state -/
theorem qok {x qual : Str} {st : Stmt} {f : Addr} {fd : FuncData} {N ps : List Str} {k : Nat} {R : List Env → Shared → Hp → Prop} {sp : Sp} (F : Fun K x qual st f fd) (S : FnScope N ps (defScope st)) (len : ∀ vs H Q E, sp vs H Q E → vs.length = ps.length)
    (walk : ∀ (cdv : Value) (A : Around) (outer : List Env) (s : Shared) (H : Hp) (vs : List V) (Q : VK) (E : XK), R outer s H → Room k (A.deeper (envOfC qual (defScope st) s.heap.objs.size f cdv)) → sp vs H Q E →
      ∃ t, PSs (cxOf CX0 P w K mg base N qual (defScope st) f cdv A outer s H E).nox (defBody st) t ∧ t { nx := fun _ H' => Q .non H', rt := Q } (start N vs) H) : QnOk P w K mg base (k + 1) f fd ps R sp := by
  obtain ⟨oc, od, kV, doc, pm, an, cdv, ct, osl, rfl, lk, hcd⟩ := F.ex
  refine ⟨len, fun A outer s H args us vs Q E hR hr e0 hb r hsp => ?_⟩
  have K0 : K.In s.heap := e0.mod.kin.keeps fun b o e => (e0.bs b o e).1
  have L0 : s.heap.NoLimit := e0.mod.nolimit.keeps fun b o e => (e0.bs b o e).1
  have each : ∀ y ∈ ps.zip us, (defScope st).names.lookup y.1 = some .local ∨ ((defScope st).names.lookup y.1 = some .cell ∧ ((cellsFrom (s.heap.objs.size + 1) (defScope st).names []).lookup y.1).isSome = true) := by
    rintro ⟨n, v⟩ hy
    exact (S.par n (List.of_mem_zip hy).1).imp id fun q => ⟨q, PySem.W.cellsFrom_some _ _ _ (.inl q)⟩
  refine codeAny_call_function hr.depth (K0 _ _ lk) rfl S.co S.gen rfl (PySem.W.codeRec_of K0 hcd) (hb _ _ _ _ (wpAny_newFunctionEnv_cells S.kind each fun env he s1 z => ?_))
  subst he
  refine ⟨L0.keeps z.toInCall.keep, codeAny_func ?_⟩
  obtain ⟨t, ht, hq⟩ := walk cdv A outer s H vs Q E hR (hr.deeper _) hsp
  have I : L2.Inv (cxOf CX0 P w K mg base N qual (defScope st) f cdv A outer s H E) [] (start N vs) H s1 := inv_start S hr.hd e0 (len _ _ _ _ hsp) r z
  refine wpAny_mono (ht.nox.run [] s1 (start N vs) H _ I hq) (fun fl s' hs => ?_) fun e s' hs => hs
  rcases fl with _ | _ | _ | u
  · obtain ⟨_, H', J, q⟩ := hs
    exact ⟨V.non, H', J.os, J.bare, J.base, J.hok, rfl, q⟩
  · exact hs.choose_spec.choose_spec.2.elim
  · exact hs.choose_spec.choose_spec.2.elim
  · obtain ⟨v, _, H', J, rv, q⟩ := hs
    exact ⟨v, H', J.os, J.bare, J.base, J.hok, rv, q⟩
end
section
variable {X : Cx} {k j i : Nat} {f : Addr} {fd : FuncData} {ps fr : List Str} {E : XK} {x : Str} {p pos : Pos} {e : Expr} {es : List Expr} {t : TA} {cl : List (Str × Addr)} {js : List Nat}
/-- a cell of the running frame is no caller's frame -/
theorem cells_apart {pins : List (Addr × Obj)} {σ : L2.St} {H : Hp} {s : Shared} (I : L2.Inv X pins σ H s) (stk : X.stack = X.env :: X.outer ∧ X.env.frame = some X.env.locals) (fn : ∀ y, X.fn y = true) (low : ∀ b ∈ frs X.outer, b < X.s_0.heap.objs.size) {y : Str} {c : Addr} (hc : X.env.cells.lookup y = some c) : c ∉ frs X.stack := by
  intro hm
  rw [stk.1] at hm
  have hm : c ∈ (X.env :: X.outer).filterMap (·.frame) := hm
  rw [List.filterMap_cons, stk.2] at hm
  rcases List.mem_cons.mp hm with e | hm
  · obtain ⟨m, ⟨o, es, ep, h1, h2, _⟩, _⟩ := I.loc
    obtain ⟨v, o', h1', h2'⟩ := I.cell y c hc
    rw [e, h1] at h1'
    cases h1'
    rw [h2] at h2'
    cases h2'
  · have a := low c hm
    have b := I.ok.cab y c (fn y) hc
    exact absurd a (Nat.not_lt.mpr b)
theorem low_frames {h base : Heap} {l : List Env} (hf : Heap.FunFrames h base l) : ∀ b ∈ frs l, b < h.objs.size := fun b hb => by
  obtain ⟨_, o, ho, _⟩ := hf.mem hb
  exact Heap.lt_size ho
/-- f(e, ..), f a def of the module that wants to know what a handed def's cells hold -/
def tCallQ (sp : Addr → Addr → List (Option V) → Sp) (js : List Nat) (E : XK) (t : TA) : TE := fun σ H Q => t σ H fun vs H1 => ∃ g c', sp g c' (js.map (slotAt σ)) vs H1 Q E
theorem pe_callQ {sp : Addr → Addr → List (Option V) → Sp} (F : ∀ g c' ws, QnOk X.prog X.w X.K X.mg X.base k f fd ps (Held1 cl fr ws) (sp g c' ws)) (cp : X.Ok → Caps X cl fr js) (stk : X.stack = X.env :: X.outer ∧ X.env.frame = some X.env.locals) (fn : ∀ y, X.fn y = true)
    (hr : Room k X.A) (hg : Gl X x) (hm : X.mg x = some (.ref f)) (hk : PySem.W.keepIn X.K (.ref f) = true) (hb : Binds X.K fd ps []) (ha : PA X (e :: es) t)
    (hdb : (x == ("__debug__" : Str)) = false := by decide) (he : starEach (e :: es) X.env = (false, eval e X.env) :: starEach es X.env := by rfl) (hpl : (backTo pos (starEach es X.env)).any (·.1) = false := by rfl) :
    PE X (.Call (.Name x p) (e :: es) [] pos) (tCallQ sp js E0 t) := by
  refine ⟨fun pins s σ H Q I h => wpAny_Call_Name_kw (ld_glob I hg hm ?_ hdb)⟩
  refine PySem.W.callWith_K (h₀ := X.base) I.ok.mod.kin hk (thn (ha.run pos pins s σ H _ I h) fun us s1 ⟨vs, H1, I1, r, g, c', q⟩ => ⟨I1.kIn, ?_⟩) he hpl
  have hl : us.length = ps.length := r.length.symm.trans ((F g c' _).len _ _ _ _ q)
  have hb' := hb s1 us I1.kIn (by rw [List.append_nil]; exact hl)
  rw [List.append_nil] at hb'
  have held : Held1 cl fr (js.map (slotAt σ)) X.stack s1 H1 := ⟨cells_of I1 (cp I1.ok), fun y c hc => cells_apart I1 stk fn (low_frames I1.ok.funs) ((cp I1.ok).sub y c hc)⟩
  refine wpAny_call (codeAny_mono ((F g c' _).run X.A X.stack s1 H1 ⟨us, []⟩ us vs Q E0 held hr I1.env0 hb' r q) fun r' s' hq => ?_)
  rcases r' with e' | fl
  · exact hq.elim
  · rcases fl with _ | _ | _ | u
    · exact hq.elim
    · exact hq.elim
    · exact hq.elim
    · exact I1.after hq
/-- f(e, ..), f a local name that holds a handed def; what its cells hold was known at this def's own start -/
def tCallV (i : Nat) (g : Addr) (Fn : NF) (ws : List (Option V)) (sp : List (Option V) → Sp) (E : XK) (t : TA) : TE := fun σ H Q => σ[i]? = some (some (.ref g)) ∧ H g = some (FnO g Fn) ∧ t σ H fun vs H1 => H1 g = some (FnO g Fn) ∧ H1 Fn.c = some (CodeO Fn.c Fn.qual) ∧ sp ws vs H1 Q E
theorem pe_callV {Fn : NF} {g : Addr} {ws : List (Option V)} {sp : List (Option V) → Sp} (N : NOk X.prog X.w X.K X.mg X.base CX0 k g Fn ps fr sp) (held : Held1 Fn.cl fr ws X.outer X.s_0 X.H_0) (exn : X.ex = []) (hr : Room k X.A) (hN : X.N[i]? = some x) (hv : Vis X.env.scope x) (ha : PA X (e :: es) t)
    (hd : (x == ("__debug__" : Str)) = false := by decide) (hcd : (x == ("__classdict__" : Str)) = false := by decide)
    (he : starEach (e :: es) X.env = (false, eval e X.env) :: starEach es X.env := by rfl) (hpl : (backTo pos (starEach es X.env)).any (·.1) = false := by rfl) : PE X (.Call (.Name x p) (e :: es) [] pos) (tCallV i g Fn ws sp E0 t) := by
  refine ⟨fun pins s σ H Q I h => ?_⟩
  obtain ⟨hs, hf, ht⟩ := h
  refine wpAny_Call_Name_kw (thn ((pe_var (pos := p) hN hv hd hcd).run pins s σ H (fun v H1 => v = .ref g ∧ H1 = H) I ⟨.ref g, hs, rfl, rfl⟩) fun u s1 ⟨v, H1, I1, rel, ev, eH⟩ => ?_)
  subst ev
  rw [eH] at I1
  obtain rfl : u = Value.ref g := rel
  refine PySem.W.callWith_F (first := []) (fnAt_of I1 hf) (thn (ha.run pos pins s1 σ H _ I1 ht) fun us s2 ⟨vs, H2, I2, r, h1, h2, q⟩ => ⟨fnAt_of I2 h1, ?_⟩) he hpl
  show wpAny _ _ (call (.ref g) us) _ _ _
  have C : CellsAt Fn.cl fr ws s2.heap H2 := held.1.later held.2 (fun y c _ => by rw [exn]; simp) I2
  refine wpAny_call (codeAny_mono (N.run X.A X.stack s2 H2 us vs ws Q E0 hr I2.env0 h1 h2 C r q) fun r' s' hq => ?_)
  rcases r' with e' | fl
  · exact hq.elim
  · rcases fl with _ | _ | _ | u
    · exact hq.elim
    · exact hq.elim
    · exact hq.elim
    · exact I2.after hq
end
end Rp

/-! put: a dict of the BINDING, a def within the def that knows it, folded. -/
namespace Rp
open PySem PySem.Spec PyProof.Rows L2 TL NdefX LamX StX
abbrev Bd := List (Int × Tm)
namespace Tm
def put (b : Bd) : Tm → Tm
  | v n => (b.lookup n).getD (v n)
  | z => z
  | s t => s (t.put b)
  | f l r => f (l.put b) (r.put b)
end Tm
/-- what a dict of a BINDING tells -/
def DbAt (H : Hp) (kvs : List (Key × V)) (bd : Bd) : Prop := ∀ n : Int, (∃ v t, valV kvs (Sum.inl n) = some v ∧ bd.lookup n = some t ∧ TmAt H v t) ∨ (valV kvs (Sum.inl n) = none ∧ bd.lookup n = none)
theorem DbAt.mono {H H' : Hp} {kvs : List (Key × V)} {bd : Bd} (e : ∀ a xs, H a = some (.tup xs) → H' a = some (.tup xs)) (D : DbAt H kvs bd) : DbAt H' kvs bd :=
  fun n => (D n).imp (fun ⟨v, t, a, b, c⟩ => ⟨v, t, a, b, c.mono e⟩) id
/-- pairs of a variable and a TERM -/
def PrAt (H : Hp) (p : Addr) (kv : Int × Tm) : Prop := ∃ x, H p = some (.tup [.int kv.1, x]) ∧ TmAt H x kv.2
theorem PrAt.mono {H H' : Hp} {p : Addr} {kv : Int × Tm} (e : ∀ a xs, H a = some (.tup xs) → H' a = some (.tup xs)) : PrAt H p kv → PrAt H' p kv := fun ⟨x, h, t⟩ => ⟨x, e _ _ h, t.mono e⟩
/-- a BINDING: a plain tuple of pairs, its variables unlike -/
def BdAt (H : Hp) (a : Addr) (bd : Bd) : Prop := ∃ ps : List Addr, PlT H a (ps.map V.ref) ∧ Paired (PrAt H) ps bd ∧ (bd.map (·.1)).Nodup ∧ bd.length ≤ 1000
/-- all tuples stay, plain ones too -/
def Tups (H H' : Hp) : Prop := (∀ a xs, H a = some (.tup xs) → H' a = some (.tup xs)) ∧ ∀ a o xs, H a = some (.frz o (.tup xs)) → H' a = some (.frz o (.tup xs))
theorem Tups.same {H H' : Hp} (e : Same H H') : Tups H H' := ⟨fun _ _ h => e _ _ h, fun _ _ _ h => e _ _ h⟩
theorem Tups.ext {H H' : Hp} (e : ExtN H H') : Tups H H' := ⟨fun _ _ h => e _ _ h (fun _ z => by cases z), fun _ _ _ h => e _ _ h (fun _ z => by cases z)⟩
theorem Tups.but {H H' : Hp} {b : Addr} {ys : List V} (e : But b H H') (hb : H b = some (.lst ys)) : Tups H H' :=
  ⟨fun _ _ h => e _ _ h (ne_of h hb (by intro z; cases z)), fun _ _ _ h => e _ _ h (ne_of h hb (by intro z; cases z))⟩
theorem Tups.trans {H H1 H2 : Hp} (a : Tups H H1) (b : Tups H1 H2) : Tups H H2 := ⟨fun _ _ h => b.1 _ _ (a.1 _ _ h), fun _ _ _ h => b.2 _ _ _ (a.2 _ _ _ h)⟩
theorem BdAt.mono {H H' : Hp} {a : Addr} {bd : Bd} (e : Tups H H') : BdAt H a bd → BdAt H' a bd :=
  fun ⟨ps, h, p, nd, z⟩ => ⟨ps, h.mono fun o => e.2 _ _ _, L2.Paired.mapP p fun _ _ q => q.mono e.1, nd, z⟩
/-- the inner def -/
abbrev sEx : Stmt := (defBody sPut).getD 1 (.Pass ⟨0, 0, 0, 0⟩)
abbrev qEx : Str := ("put" : Str) ++ ".<locals>." ++ "exchanged"
abbrev nfEx (cl : List (Str × Addr)) (c : Addr) : NF := NF.of sEx "exchanged" qEx cl c
abbrev nmEx : Nat → Nat → Str := fun _ _ => qEx
abbrev NEx : List Str := ["part", "below", "found"]
def spEx (ws : List (Option V)) : Sp := fun vs H Q _ => ∃ (x : V) (k : Tm) (l D : Addr) (ks : List V) (bd : Bd) (kvs : List (Key × V)), vs = [x, .ref l] ∧ ws = [some (.ref D)] ∧ TmAt H x k ∧ H l = some (.lst ks) ∧ AllAt H ks (k.kids.map (Tm.put bd)) ∧
  H D = some (.dK kvs) ∧ DbAt H kvs bd ∧ ∀ (v : V) (H' : Hp), TmAt H' v (k.put bd) → Same H H' → Q v H'
section
variable {P : Program} {w : World} {K : PySem.W.Frag} {mg : Str → Option Value} {base : Heap}
theorem scEx (cl : List (Str × Addr)) (c : Addr) : NScope NEx ["part", "below"] ["found"] (nfEx cl c).scope := nscope_by (show nscB NEx ["part", "below"] ["found"] (C8.fnScope sEx) = true by decide +kernel)
theorem ok_ex {g c : Addr} {cl : List (Str × Addr)} (mIsi : mg "isinstance" = none) (mInt : mg "int" = none) : NOk P w K mg base CX0 1 g (nfEx cl c) ["part", "below"] ["found"] spEx := by
  refine nok_of (scEx cl c) (fun _ _ _ us hl => match us, hl with | [_, _], _ => rfl) (fun ws vs H Q E h => ?_) (fun A outer s H vs ws Q E hr hf hc hl h => ?_)
  · obtain ⟨x, k, l, D, ks, bd, kvs, rfl, _⟩ := h
    rfl
  obtain ⟨x, k, l, D, ks, bd, kvs, rfl, rfl, T, h1, A1, hD, DB, q⟩ := h
  have hu := hu_of hr
  refine ⟨_, pss_cons (ps_if (pt_val (pe_callB call_isi (by rfl) mIsi (by decide +kernel) (pa_cons (pv 0) (pa_cons (pe_bltn (v := .ty "int") (by rfl) mInt (by decide +kernel) rfl) pa_nil))))
      (pss_one (ps_ret (pe_dget2 hu (pv 2) (pv 0) (pv 0) ⟨rfl, rfl, rfl, rfl⟩))) pss_nil)
    (pss_one (ps_ret (pe_tup (pa_cons (pe_ix ix_tup (pv 0) pe_int (fun _ _ => rfl)) (pa_star (pv 1) pa_nil))))), ?_⟩
  rcases T.ty (K := K) with ⟨m, rfl, rfl⟩ | ⟨a, xs, rfl, ha, ty, no⟩
  · refine ⟨_, rfl, _, _, _, _, true, rfl, .ty "int", .base (.int m), kit_ii, true, rfl, iteT ?_⟩
    refine ⟨_, rfl, D, rfl, .inl ⟨_, .inl hD⟩, _, rfl, _, rfl, ?_⟩
    rcases DB m with ⟨v, t, e1, e2, T'⟩ | ⟨e1, e2⟩
    · refine ⟨some v, .inl ⟨kvs, Sum.inl m, .inl hD, rfl, e1.symm⟩, q v H ?_ fun _ _ z => z⟩
      show TmAt H v ((bd.lookup m).getD (.v m))
      rw [e2]
      exact T'
    · refine ⟨none, .inl ⟨kvs, Sum.inl m, .inl hD, rfl, e1.symm⟩, q _ H ?_ fun _ _ z => z⟩
      show TmAt H (.int m) ((bd.lookup m).getD (.v m))
      rw [e2]
      exact .v m
  · obtain ⟨a', us, e, ha', hk, hks⟩ := T.tupled no
    cases e
    refine ⟨_, rfl, _, _, _, _, false, rfl, .ty "int", ty, kit_ti, false, rfl, iteF ?_⟩
    have kl := A1.len
    rw [List.length_map] at kl
    refine ⟨_, rfl, _, _, _, _, rfl, rfl, .inl (.inl ha'), at_of (j := 0) rfl rfl, _, rfl, l, ks, rfl, .inr (.inl (.inl h1)), ?_, fun p hp => ?_⟩
    · have : k.kids.length ≤ 2 := by cases k <;> simp [Tm.kids]
      simp only [List.append_nil, List.length_cons]
      have : (3 : Nat) ≤ sizeLine := by decide
      omega
    · have s1 := same_new hp (.tup (V.str (signHead k) :: (ks ++ [])))
      have hp1 : (upd H p (.tup (V.str (signHead k) :: (ks ++ [])))) p = some (.tup (V.str (signHead k) :: (ks ++ []))) := upd_same
      rw [List.append_nil] at hp1
      refine q (.ref p) _ ?_ s1
      rw [List.append_nil] at s1
      have A2 := A1.mono (Tups.same s1).1
      cases k with
      | v n => exact absurd rfl (no n)
      | z =>
        match ks, A2, hp1 with
        | [], _, hp1 => rw [List.append_nil]; exact .z hp1
      | s t =>
        match ks, A2, hp1 with
        | [x], A2, hp1 => rw [List.append_nil]; exact .s hp1 A2.1
      | f l' r =>
        match ks, A2, hp1 with
        | [x, y], A2, hp1 => rw [List.append_nil]; exact .f hp1 A2.1 A2.2.1
end
end Rp

/-! put: fold with the inner def, put itself. -/
namespace Rp
open PySem PySem.Spec PyProof.Rows L2 TL NdefX LamX StX
theorem AllAt.split {H : Hp} {xs : List V} {a b : List Tm} (h : AllAt H xs (a ++ b)) : ∃ ys zs, xs = ys ++ zs ∧ AllAt H ys a ∧ AllAt H zs b := by
  have l := h.len
  rw [List.length_append] at l
  refine ⟨xs.take a.length, xs.drop a.length, (List.take_append_drop _ _).symm, ?_⟩
  rw [← List.take_append_drop a.length xs] at h
  obtain ⟨t1, t2, e, h1, h2⟩ := h.parted
  have l1 := h1.len
  rw [List.length_take] at l1
  obtain ⟨rfl, rfl⟩ := List.append_inj e (by omega)
  exact ⟨h1, h2⟩
theorem put_kids (bd : Bd) {t : Tm} (no : ∀ n, t ≠ .v n) : (t.put bd).kids = t.kids.map (Tm.put bd) := by
  cases t with
  | v n => exact absurd rfl (no n)
  | z => rfl
  | s t => rfl
  | f l r => rfl
abbrev slEx (D : Addr) : List (Option V) := [some (.ref D)]
def spFoldE (g c : Addr) (cl : List (Str × Addr)) (ws : List (Option V)) : Sp := fun vs H Q _ => ∃ (v : V) (t : Tm) (D : Addr) (bd : Bd) (kvs : List (Key × V)), vs = [v, .ref g] ∧ ws = slEx D ∧ TmAt H v t ∧ t.size ≤ 1000 ∧ H g = some (FnO g (nfEx cl c)) ∧ H c = some (CodeO c qEx) ∧
  H D = some (.dK kvs) ∧ DbAt H kvs bd ∧ ∀ (v' : V) (H' : Hp), TmAt H' v' (t.put bd) → Same H H' → Q v' H'
section
variable {P : Program} {w : World} {K : PySem.W.Frag} {mg : Str → Option Value} {base : Heap}
theorem scFold : FnScope ["term", "made_of", "made", "part", "first"] ["term", "made_of"] (defScope sFold) := ⟨rfl, rfl, rfl, by decide +kernel, rfl, by decide +kernel, by decide +kernel⟩
theorem ok_fold {f fI fP : Addr} {fd dI dP : FuncData} (F : Fun K "fold" "fold" sFold f fd)
    (GI : FnOk P w K mg base CX0 2 fI dI ["term"] spInside) (kI : PySem.W.keepIn K (.ref fI) = true) (bI : Binds K dI ["term"] []) (mI : mg "inside_out" = some (.ref fI))
    (GP : FnOk P w K mg base CX0 1 fP dP ["term"] spParts) (kP : PySem.W.keepIn K (.ref fP) = true) (bP : Binds K dP ["term"] []) (mP : mg "_parts" = some (.ref fP))
    (mLen : mg "len" = none) (mIsi : mg "isinstance" = none) (mInt : mg "int" = none) (g c : Addr) (cl : List (Str × Addr)) (ws : List (Option V)) :
    QnOk P w K mg base 3 f fd ["term", "made_of"] (Held1 cl ["found"] ws) (spFoldE g c cl ws) := by
  refine qok F scFold (fun vs H Q E h => ?_) (fun cdv A outer s H vs Q E held hr h => ?_)
  · obtain ⟨v, t, D, bd, kvs, rfl, _⟩ := h
    rfl
  obtain ⟨v, t, D, bd, kvs, rfl, rfl, T, sz, hg, hc, hD, DB, q⟩ := h
  have r1 : Room 1 _ := hr.mono (by decide)
  have GE : NOk P w K mg base CX0 1 g (nfEx cl c) ["part", "below"] ["found"] spEx := ok_ex mIsi mInt
  refine ⟨_, pss_cons (ps_set (i := 2) scFold.nd rfl (Or.inl rfl) (pe_lst pa_nil))
    (pss_cons (ps_for PassesOwn.never rfl (pi_list (pe_call GI hr rfl mI kI bI .nil pass0 (pa_cons (pv 0) pa_nil))) (pg_name (i := 3) scFold.nd rfl (Or.inl rfl))
      (pss_cons (ps_set (i := 4) scFold.nd rfl (Or.inl rfl) (pe_op op_sub (pe_callB call_len_seq (by rfl) mLen PySem.boot_len (pa_cons (pv 2) pa_nil)) (pe_callB call_len_seq (by rfl) mLen PySem.boot_len (pa_cons (pe_call GP r1 rfl mP kP bP .nil pass0 (pa_cons (pv 3) pa_nil)) pa_nil))))
      (pss_one (ps_tail (pv 2) (po_some (pv 4)) (pe_lst (pa_cons (pe_callV (i := 1) (ws := slEx D) GE held rfl r1 rfl (Or.inl rfl) (pa_cons (pv 3) (pa_cons (pe_slice sl_list (pv 2) (po_some (pv 4)) po_none) pa_nil))) pa_nil))))))
    (pss_one (ps_ret (pe_ix ix_list (pv 2) pe_int (fun _ _ => rfl))))), ?_⟩
  refine ⟨(by show 0 ≤ sizeLine; decide), fun m hm => ?_⟩
  have s0 := same_new hm (.lst ([] : List V))
  refine ⟨_, rfl, v, t, rfl, T.same s0, sz, fun p xs H1 hp h1 A1 s1 => ?_⟩
  have hm1 := s1 _ _ (upd_same : (upd H m (.lst ([] : List V))) m = some (.lst []))
  have pm : p ≠ m := (ne_of_none (upd_same : (upd H m (.lst ([] : List V))) m = some (.lst [])) hp).symm
  have gm : g ≠ m := ne_of_none hg hm
  have cm : c ≠ m := ne_of_none hc hm
  have Dm : D ≠ m := ne_of_none hD hm
  have len := A1.len
  rw [List.length_reverse, Tm.rpost_len] at len
  have post : t.rpost.reverse.length = t.size := by rw [List.length_reverse, Tm.rpost_len]
  have big : (10000 : Nat) ≤ sizeLine := by decide
  refine ⟨p, rfl, ⟨_, .inl (.inl h1)⟩, for_list (K := K) (a := p) (xs := xs) (fun i σ H2 => ∃ (S : List Tm) (ys : List V) (x3 x4 : Option V), σ = [some v, some (.ref g), some (.ref m), x3, x4] ∧ H2 m = some (.lst ys) ∧ AllAt H2 ys (S.map (Tm.put bd)) ∧
      runs S (t.rpost.reverse.drop i) [t] ∧ S.length ≤ i ∧ But m H1 H2) ⟨[], [], none, none, rfl, hm1, trivial, ?_, by simp, But.refl _ _⟩ (fun i σ H2 _ ⟨_, _, _, _, _, _, _, _, _, o⟩ => .inl (.inl (o _ _ h1 pm))) ?_ ?_⟩
  · have := runs_post t [] [] [t] rfl
    simpa using this
  · rintro i x σ H2 hi ⟨S, ys, x3, x4, rfl, h2, A2, run, sl, o2⟩
    obtain ⟨k, hk, Tk⟩ := A1.get hi
    have li : i < t.rpost.reverse.length := (List.getElem?_eq_some_iff.mp hk).1
    have ek : t.rpost.reverse.drop i = k :: t.rpost.reverse.drop (i + 1) := by
      rw [List.drop_eq_getElem_cons li, (List.getElem?_eq_some_iff.mp hk).2]
    rw [ek] at run
    obtain ⟨S0, rfl, run⟩ := run
    rw [List.map_append] at A2
    obtain ⟨y1, y2, rfl, B1, B2⟩ := A2.split
    have l1 := B1.len
    have l2 := B2.len
    rw [List.length_map] at l1 l2
    have T2 := Tk.but o2 hm1
    rw [List.length_append] at sl
    have hg2 := o2 _ _ (s1 _ _ (s0 _ _ hg)) gm
    have hc2 := o2 _ _ (s1 _ _ (s0 _ _ hc)) cm
    have hD2 := o2 _ _ (s1 _ _ (s0 _ _ hD)) Dm
    have DB2 := (DB.mono (Tups.same s0).1 |>.mono (Tups.same s1).1).mono (Tups.but o2 hm1).1
    refine ⟨_, rfl, m, _, rfl, .inl (.inl (.inl h2)), _, rfl, x, k, rfl, T2, fun u ks H3 hu h3 A3 s3 => ?_⟩
    have kl := A3.len
    refine ⟨u, _, rfl, .inr (.inl (.inl h3)), _, _, rfl, rfl, ?_⟩
    have h23 := s3 _ _ h2
    have first : ((((y1 ++ y2).length : Nat) : Int) - ((ks.length : Nat) : Int)) = ((y1.length : Nat) : Int) := by
      rw [List.length_append, kl]; omega
    refine ⟨rfl, s3 _ _ hg2, _, rfl, _, rfl, _, rfl, _, rfl, m, _, rfl, .inl (.inl h23), fun d hd => ?_⟩
    have dm : d ≠ m := (ne_of_none h23 hd).symm
    rw [cut_from (i := y1.length) first]
    have cut : (y1 ++ y2).drop y1.length = y2 := by rw [List.drop_left']; rfl
    rw [cut]
    have s4 := same_new hd (.lst y2)
    have s24 : Same H2 (upd H3 d (.lst y2)) := s3.trans s4
    refine ⟨s24 _ _ hg2, s24 _ _ hc2, x, k, d, D, y2, bd, kvs, rfl, rfl, T2.same s24, upd_same, B2.mono (Tups.same s24).1, s24 _ _ hD2, DB2.mono (Tups.same s24).1, fun v' H4 T4 s4' => ?_⟩
    refine ⟨(by show 1 ≤ sizeLine; decide), fun b hb => ?_⟩
    have s5 := same_new hb (.lst [v'])
    have h24 := s4' _ _ (s4 _ _ h23)
    have h25 := s5 _ _ h24
    refine ⟨_, rfl, _, rfl, _, rfl, m, b, _, _, y1.length, rfl, rfl, congrArg some first, h25, upd_same, ne_of_none h24 hb, ?_, ?_, ?_⟩
    · rw [List.length_append]; omega
    · rw [List.length_append, List.length_singleton]; omega
    · have s25 : Same H2 (upd H4 b (.lst [v'])) := (s24.trans s4').trans s5
      have u6 : Tups (upd H4 b (.lst [v'])) (upd (upd H4 b (.lst [v'])) m (.lst ((y1 ++ y2).take y1.length ++ [v']))) := Tups.but (but_upd _) h25
      refine ⟨S0 ++ [k], y1 ++ [v'], _, _, rfl, ?_, ?_, run, ?_, ?_⟩
      · rw [upd_same, List.take_left' rfl]
      · rw [List.map_append]
        exact ((B1.mono (Tups.same s25).1).mono u6.1).append ⟨(T4.same s5).mono u6.1, trivial⟩
      · rw [List.length_append, List.length_singleton]
        omega
      · intro c' o' z nc
        rw [upd_ne nc]
        exact s25 _ _ (o2 _ _ z nc)
  · rintro σ H2 ⟨S, ys, x3, x4, rfl, h2, A2, run, sl, o2⟩
    rw [List.drop_of_length_le (by omega)] at run
    obtain rfl : S = [t] := run
    match ys, A2 with
    | [y], A2 =>
      refine ⟨_, rfl, m, _, _, _, rfl, rfl, .inl (.inl h2), at_of (j := 0) rfl rfl, q y H2 A2.1 ?_⟩
      exact fun c o z => o2 c o (s1 _ _ (s0 _ _ z)) (ne_of_none z hm)
end
end Rp

/-! put itself; all but the tables stays. -/
namespace Rp
open PySem PySem.Spec PyProof.Rows L2 TL NdefX LamX StX
/-- all but the tables stays, the tables are tables still -/
structure Ext (T : List NTab) (H H' : Hp) : Prop where
  ext : ExtN H H'
  tab : TabsN T H'
  nn : ∀ b, H' b = none → H b = none
theorem same_none {H H' : Hp} (e : Same H H') (b : Addr) (h : H' b = none) : H b = none := by
  cases q : H b with
  | none => rfl
  | some u => have := e _ _ q; rw [h] at this; cases this
theorem Ext.same {T : List NTab} {H H' : Hp} (t : TabsN T H) (e : Same H H') : Ext T H H' := ⟨ExtN.of e, t.ext e, same_none e⟩
theorem Ext.trans {T : List NTab} {H H1 H2 : Hp} (a : Ext T H H1) (b : Ext T H1 H2) : Ext T H H2 := ⟨a.ext.trans b.ext, b.tab, fun x h => a.nn _ (b.nn _ h)⟩
theorem Ext.lst {T : List NTab} {H H' : Hp} (e : Ext T H H') {a : Addr} {xs : List V} (h : H a = some (.lst xs)) : H' a = some (.lst xs) := e.ext _ _ h fun _ z => by cases z
theorem Ext.tups {T : List NTab} {H H' : Hp} (e : Ext T H H') : Tups H H' := Tups.ext e.ext
theorem pairs_of {K : PySem.W.Frag} {H : Hp} : ∀ {ps : List Addr} {bd : Bd}, Paired (PrAt H) ps bd → ∃ kvs : List (Key × V), Paired (fun p (kv : Key × V) => SqT K H p [kV kv.1, kv.2]) ps kvs ∧ Paired (fun (kv : Key × V) (q : Int × Tm) => kv.1 = Sum.inl q.1 ∧ TmAt H kv.2 q.2) kvs bd
  | _, _, .nil => ⟨[], .nil, .nil⟩
  | _, _, .cons (b := q) h t => by
    obtain ⟨x, hx, tx⟩ := h
    obtain ⟨kvs, h1, h2⟩ := pairs_of (K := K) t
    exact ⟨(Sum.inl q.1, x) :: kvs, .cons (.inl (.inl hx)) h1, .cons ⟨rfl, tx⟩ h2⟩
theorem merged_tells {H : Hp} : ∀ {kvs : List (Key × V)} {bd : Bd}, Paired (fun (kv : Key × V) (q : Int × Tm) => kv.1 = Sum.inl q.1 ∧ TmAt H kv.2 q.2) kvs bd → (bd.map (·.1)).Nodup → ∀ (acc : List (Key × V)) (n : Int),
    (bd.lookup n = none → valV (mergeK acc kvs) (Sum.inl n) = valV acc (Sum.inl n)) ∧ (∀ t, bd.lookup n = some t → ∃ v, valV (mergeK acc kvs) (Sum.inl n) = some v ∧ TmAt H v t)
  | _, _, .nil, _, acc, n => ⟨fun _ => rfl, fun t h => by cases h⟩
  | _, _, .cons (a := kv) (l₁ := kvs) (b := q) (l₂ := bd) h t, nd, acc, n => by
    obtain ⟨k, y⟩ := kv
    obtain ⟨m, tm⟩ := q
    obtain ⟨e, T⟩ := h
    have e : k = Sum.inl m := e
    subst e
    have T : TmAt H y tm := T
    rw [List.map_cons, List.nodup_cons] at nd
    have ih := merged_tells t nd.2 (putK acc (Sum.inl m) y) n
    have step : mergeK acc ((Sum.inl m, y) :: kvs) = mergeK (putK acc (Sum.inl m) y) kvs := rfl
    rw [step]
    by_cases hn : n = m
    · subst hn
      have no : bd.lookup n = none := by
        rw [List.lookup_eq_none_iff]
        intro p hp
        have : n ≠ p.1 := fun z => nd.1 (List.mem_map.mpr ⟨p, hp, z.symm⟩)
        simpa using this
      have hl : ((n, tm) :: bd).lookup n = some tm := by simp [List.lookup]
      refine ⟨fun z => ?_, fun t' z => ?_⟩
      · rw [hl] at z; cases z
      · rw [hl] at z; cases z
        refine ⟨y, ?_, T⟩
        rw [ih.1 no, valV_put, if_pos rfl]
    · have hl : ((m, tm) :: bd).lookup n = bd.lookup n := by
        rw [List.lookup_cons, beq_eq_false_iff_ne.mpr hn]
      rw [hl]
      refine ⟨fun z => ?_, ih.2⟩
      rw [ih.1 z, valV_put, if_neg (fun z => hn (Sum.inl.inj z))]
theorem dict_of {H : Hp} {kvs : List (Key × V)} {bd : Bd} (h : Paired (fun (kv : Key × V) (q : Int × Tm) => kv.1 = Sum.inl q.1 ∧ TmAt H kv.2 q.2) kvs bd) (nd : (bd.map (·.1)).Nodup) : DbAt H (mergeK [] kvs) bd := fun n => by
  obtain ⟨h1, h2⟩ := merged_tells h nd [] n
  cases e : bd.lookup n with
  | none => exact .inr ⟨h1 e, rfl⟩
  | some t =>
    obtain ⟨v, a, b⟩ := h2 t e
    exact .inl ⟨v, t, a, rfl, b⟩
def spPut (T : List NTab) : Sp := fun vs H Q _ => ∃ (v : V) (t : Tm) (a : Addr) (bd : Bd), vs = [v, .ref a] ∧ TmAt H v t ∧ t.size ≤ 1000 ∧ BdAt H a bd ∧ TabsN T H ∧ ∀ (v' : V) (H' : Hp), TmAt H' v' (t.put bd) → Ext T H H' → Q v' H'
section
variable {P : Program} {w : World} {K : PySem.W.Frag} {mg : Str → Option Value} {base : Heap}
/-- a def by its body, its code object told -/
theorem okC {x qual : Str} {st : Stmt} {f c : Addr} {fd : FuncData} {N ps : List Str} {k : Nat} {sp : Sp} (F : Fun K x qual st f fd) (hc : fd.code = .ref c) (S : FnScope N ps (defScope st)) (len : ∀ vs H Q E, sp vs H Q E → vs.length = ps.length)
    (walk : ∀ (A : Around) (outer : List Env) (s : Shared) (H : Hp) (vs : List V) (Q : VK) (E : XK), Room k (A.deeper (envOfC qual (defScope st) s.heap.objs.size f (.ref c))) → sp vs H Q E →
      ∃ t, PSs (cxOf CX0 P w K mg base N qual (defScope st) f (.ref c) A outer s H E).nox (defBody st) t ∧ t { nx := fun _ H' => Q .non H', rt := Q } (start N vs) H) : FnOk P w K mg base CX0 (k + 1) f fd ps sp := by
  obtain ⟨oc, od, kV, doc, pm, an, cdv, ct, osl, rfl, lk, hcd⟩ := F.ex
  obtain rfl : cdv = .ref c := hc
  refine fn_of lk hcd S len fun A outer s H vs Q E hr hsp => ?_
  obtain ⟨t, h, q⟩ := walk A outer s H vs Q E hr hsp
  exact ⟨t, h.nox, q⟩
abbrev NPut : List Str := ["term", "binding", "found", "exchanged"]
theorem scPut : FnScope NPut ["term", "binding"] (defScope sPut) := ⟨rfl, rfl, rfl, by decide +kernel, rfl, by decide +kernel, by decide +kernel⟩
theorem ok_put {f fF c Pt : Addr} {fd dF : FuncData} (F : Fun K "put" "put" sPut f fd) (hc : fd.code = .ref c) (TB : TabB base mg c Pt)
    (GF : ∀ (g c : Addr) (cl : List (Str × Addr)) (ws : List (Option V)), QnOk P w K mg base 3 fF dF ["term", "made_of"] (Held1 cl ["found"] ws) (spFoldE g c cl ws)) (kF : PySem.W.keepIn K (.ref fF) = true) (bF : Binds K dF ["term", "made_of"] []) (mF : mg "fold" = some (.ref fF))
    (mDict : mg "dict" = none) : FnOk P w K mg base CX0 4 f fd ["term", "binding"] (spPut [(Pt, nmEx)]) := by
  refine okC F hc scPut (fun vs H Q E h => ?_) (fun A outer s H vs Q E hr h => ?_)
  · obtain ⟨v, t, a, bd, rfl, _⟩ := h
    rfl
  obtain ⟨v, t, a, bd, rfl, T, sz, B, hT, q⟩ := h
  have nb : ndefB (defScope sPut) (C8.fnScope sEx) ["found"] = true := by decide +kernel
  refine ⟨_, pss_cons (ps_set (i := 2) scPut.nd rfl (Or.inr rfl) (pe_callTy (cr_dictT rfl) rfl mDict (by decide +kernel) (pa_cons (pv 1) pa_nil)))
    (pss_cons (ps_ndefMS (st := sEx) (T := [(Pt, nmEx)]) (nm := nmEx) (c := c) (P := Pt) (i := 3) rfl TB rfl (List.mem_singleton.mpr rfl) (by rfl) (fun p hp _ => by rw [List.mem_singleton.mp hp]) (ndef_free (sc := defScope sPut) nb) rfl rfl rfl scPut.nd rfl (Or.inl rfl) (.inl rfl))
    (pss_one (ps_ret (pe_callQ (fr := ["found"]) (js := [2]) (fun g c' ws => GF g c' _ ws) (fun ok => Caps.made (scope := C8.fnScope sEx) ok (ndef_free (sc := defScope sPut) nb) (ndef_fr (sc := defScope sPut) nb) rfl) ⟨rfl, rfl⟩ (fun _ => rfl) hr rfl mF kF bF (pa_cons (pv 0) (pa_cons (pv 3) pa_nil)))))), ?_⟩
  obtain ⟨ps, hp, pr, nd, bz⟩ := B
  obtain ⟨kvs, h1, h2⟩ := pairs_of (K := K) pr
  refine ⟨_, rfl, a, ps, kvs, rfl, hp, h1, fun D hD => ?_⟩
  have s1 := same_new hD (.dK (mergeK [] kvs))
  have DB := dict_of h2 nd
  refine ⟨hT.ext s1, fun g c' H1 e1 nn1 T1 hg hg1 hc1 => ?_⟩
  have u1 : Tups H H1 := (Tups.same s1).trans (Tups.ext e1)
  have hD1 := e1 _ _ (upd_same : (upd H D (.dK (mergeK [] kvs))) D = some (.dK (mergeK [] kvs))) (fun _ z => by cases z)
  refine ⟨_, rfl, _, rfl, g, c', v, t, D, bd, _, rfl, rfl, T.mono u1.1, sz, hg1, hc1, hD1, DB.mono u1.1, fun v' H' T' s' => q v' H' T' ?_⟩
  exact (Ext.same hT s1).trans ((⟨e1, T1, nn1⟩ : Ext _ _ _).trans (Ext.same T1 s'))
end
end Rp

/-! A set of ints made by a comprehension of two fors. -/
namespace Rp
open PySem PySem.Spec PyProof.Rows L2 PpSet
/-- {elt for ta in ia if fa for tb in ib if fb} -/
abbrev scx (elt ta ia : Expr) (fa : List Expr) (tb ib : Expr) (fb : List Expr) (sc : Scope) (at_ : Pos) : Expr := .SetComp elt [⟨ta, ia, fa, 0⟩, ⟨tb, ib, fb, 0⟩] sc at_
theorem scx_turnA (elt ta ia : Expr) (fa : List Expr) (tb ib : Expr) (fb : List Expr) (sc : Scope) (at_ : Pos) (cur box : Value) (en : Env) :
    compTurn (scx elt ta ia fa tb ib fb sc at_) 0 cur box en = (do
      standAt ia.pos
      match ← pyNext cur with
      | none => pure (.done .next)
      | some got =>
        letOwnedTupleGo ta cur got
        assign ta en got
        let mut fine := true
        for c in fa do
          if fine then fine ← isTrue c en (eval c en)
        if fine then
          let y ← eval ib en
          standAt ib.pos
          let y ← foldedSetIterable ib en y
          let _ ← runOwn (.compStart (scx elt ta ia fa tb ib fb sc at_) 1 (← holding [y] (pyIter y)) box en) en
        again (.compLoop (scx elt ta ia fa tb ib fb sc at_) 0 cur box en)) := by rfl
theorem scx_turnB (elt ta ia : Expr) (fa : List Expr) (tb ib : Expr) (fb : List Expr) (sc : Scope) (at_ : Pos) (cur box : Value) (en : Env) :
    compTurn (scx elt ta ia fa tb ib fb sc at_) 1 cur box en = (do
      standAt ib.pos
      match ← pyNext cur with
      | none => pure (.done .next)
      | some got =>
        letOwnedTupleGo tb cur got
        assign tb en got
        let mut fine := true
        for c in fb do
          if fine then fine ← isTrue c en (eval c en)
        if fine then
          (do let y ← eval elt en; standAt elt.pos; let _ ← call (.builtin "set.add") [box, y])
        again (.compLoop (scx elt ta ia fa tb ib fb sc at_) 1 cur box en)) := by rfl
section
variable {pr : Program} {w : World} {A : Around} {R : Result → Shared → Prop} {s : Shared} {elt ta ia tb ib : Expr} {fa fb : List Expr} {sc : Scope} {at_ : Pos} {cur box : Value} {en : Env}
/-- a clause's tests -/
abbrev testsOf (fs : List Expr) (en : Env) : Sem Bool := forIn fs true fun c r => if r = true then do let fine ← isTrue c en (eval c en); pure (ForInStep.yield fine) else pure (ForInStep.yield r)
/-- an error on the way is noted -/
abbrev noteE (pr : Program) (w : World) (A : Around) (R : Result → Shared → Prop) (en : Env) : Value → Shared → Prop := notedBy (model pr w) A en fun e s' => R (.error e) s'
theorem scx_loopA (plain : ∀ y, foldedSetIterable ib en y = pure y) (J : Nat → Shared → Prop)
    (each : ∀ n s, J n s → wpAny (model pr w) A (pyNext cur) (fun r s1 => match r with
      | none => R (.ok .next) s1
      | some got => wpAny (model pr w) A (letOwnedTupleGo ta cur got) (fun _ s2 => wpAny (model pr w) A (assign ta en got) (fun _ s3 => wpAny (model pr w) A (testsOf fa en) (fun fine s4 =>
            if fine = true then wpAny (model pr w) A (eval ib en) (fun y s5 => wpAny (model pr w) A (pyIter y) (fun cur1 s6 =>
              codeAny (model pr w) A (.compStart (scx elt ta ia fa tb ib fb sc at_) 1 cur1 box en) (fun r s' => match r with
                | .ok _ => ∃ m, m < n ∧ J m s'
                | .error _ => False) s6) (noteE pr w A R en) s5) (noteE pr w A R en) s4
            else ∃ m, m < n ∧ J m s4) (noteE pr w A R en) s3) (noteE pr w A R en) s2) (noteE pr w A R en) s1) (noteE pr w A R en) s)
    (n : Nat) (h0 : J n s) : codeAny (model pr w) A (.compLoop (scx elt ta ia fa tb ib fb sc at_) 0 cur box en) R s := by
  refine codeAny_loop rfl J (fun n s hJ => ?_) n h0
  show wpAny _ A ((compTurn (scx elt ta ia fa tb ib fb sc at_) 0 cur box en).onRaise (fun z => do noteFrame z en; theTreesLotGoes z)) _ _ s
  refine wpAny_noted ?_
  rw [scx_turnA]
  refine wpAny_bind (wpAny_standAt (wpAny_bind (wpAny_mono (each n s hJ) (fun r s1 q1 => ?_) fun _ _ z => z)))
  rcases r with _ | got
  · exact wpAny_pure q1
  · refine wpAny_bind (wpAny_mono q1 (fun _ s2 q2 => wpAny_bind (wpAny_mono q2 (fun _ s3 q3 => wpAny_bind (wpAny_mono q3 (fun fine s4 q4 => ?_) fun _ _ z => z)) fun _ _ z => z)) fun _ _ z => z)
    cases fine with
    | false => exact wpAny_pure ⟨rfl, q4⟩
    | true =>
      refine wpAny_bind (wpAny_mono q4 (fun y s5 q5 => wpAny_bind (wpAny_standAt (wpAny_bind (wpAny_of_eq (plain y) (wpAny_bind (wpAny_holding (wpAny_mono q5 (fun cur1 s6 q6 => ?_) fun _ _ z => z))))))) fun _ _ z => z)
      refine wpAny_bind (wpAny_runOwn ?_)
      rw [Around.mark_none]
      refine codeAny_mono q6 fun r s' hr => ?_
      rcases r with e | fl
      · exact hr.elim
      · first
          | exact wpAny_pure ⟨rfl, hr⟩
          | exact wpAny_bind (wpAny_pure (wpAny_pure ⟨rfl, hr⟩))
theorem scx_loopB (J : Nat → Shared → Prop)
    (each : ∀ n s, J n s → wpAny (model pr w) A (pyNext cur) (fun r s1 => match r with
      | none => R (.ok .next) s1
      | some got => wpAny (model pr w) A (letOwnedTupleGo tb cur got) (fun _ s2 => wpAny (model pr w) A (assign tb en got) (fun _ s3 => wpAny (model pr w) A (testsOf fb en) (fun fine s4 =>
            if fine = true then wpAny (model pr w) A (eval elt en) (fun y s5 => wpAny (model pr w) A (call (.builtin "set.add") [box, y]) (fun _ s6 => ∃ m, m < n ∧ J m s6) (noteE pr w A R en) s5) (noteE pr w A R en) s4
            else ∃ m, m < n ∧ J m s4) (noteE pr w A R en) s3) (noteE pr w A R en) s2) (noteE pr w A R en) s1) (noteE pr w A R en) s)
    (n : Nat) (h0 : J n s) : codeAny (model pr w) A (.compLoop (scx elt ta ia fa tb ib fb sc at_) 1 cur box en) R s := by
  refine codeAny_loop rfl J (fun n s hJ => ?_) n h0
  show wpAny _ A ((compTurn (scx elt ta ia fa tb ib fb sc at_) 1 cur box en).onRaise (fun z => do noteFrame z en; theTreesLotGoes z)) _ _ s
  refine wpAny_noted ?_
  rw [scx_turnB]
  refine wpAny_bind (wpAny_standAt (wpAny_bind (wpAny_mono (each n s hJ) (fun r s1 q1 => ?_) fun _ _ z => z)))
  rcases r with _ | got
  · exact wpAny_pure q1
  · refine wpAny_bind (wpAny_mono q1 (fun _ s2 q2 => wpAny_bind (wpAny_mono q2 (fun _ s3 q3 => wpAny_bind (wpAny_mono q3 (fun fine s4 q4 => ?_) fun _ _ z => z)) fun _ _ z => z)) fun _ _ z => z)
    cases fine with
    | false => exact wpAny_pure ⟨rfl, q4⟩
    | true => exact wpAny_bind (wpAny_bind (wpAny_mono q4 (fun y s5 q5 => wpAny_bind (wpAny_standAt (wpAny_bind (wpAny_mono q5 (fun _ s6 q6 => wpAny_pure (wpAny_pure ⟨rfl, q6⟩)) fun _ _ z => z)))) fun _ _ z => z))
theorem scx_startB (go : codeAny (model pr w) A (.compLoop (scx elt ta ia fa tb ib fb sc at_) 1 cur box en) R s)
    (own : wpAny (model pr w) A (pyIter cur) (fun c' s' => codeAny (model pr w) A (.compLoop (scx elt ta ia fa tb ib fb sc at_) 1 c' box en) R s') (noteE pr w A R en) s) :
    codeAny (model pr w) A (.compStart (scx elt ta ia fa tb ib fb sc at_) 1 cur box en) R s := by
  refine codeAny_of_tree ?_
  show wpAny _ _ ((compStart (scx elt ta ia fa tb ib fb sc at_) 1 cur box en).onRaise (fun z => do noteFrame z en; standAt theWindowsPlace)) _ _ s
  refine wpAny_notedAt ?_
  unfold compStart
  show wpAny _ _ (ask >>= _) _ _ s
  refine wpAny_bind (wpAny_askSetting (wpAny_ite ?_))
  split
  · first
      | exact wpAny_bind (wpAny_pure (wpAny_pure (And.intro rfl go)))
      | exact wpAny_pure (And.intro rfl go)
  · first
      | exact wpAny_bind (wpAny_rule (wpAny_bind (wpAny_standAt (wpAny_bind (wpAny_mono own (fun c' s' q => wpAny_pure (And.intro rfl q)) fun _ _ z => z)))))
      | (refine wpAny_bind (wpAny_rule ?_); show wpAny _ _ (standAt ib.pos >>= _) _ _ s; exact wpAny_bind (wpAny_standAt (wpAny_bind (wpAny_mono own (fun c' s' q => wpAny_pure (And.intro rfl q)) fun _ _ z => z))))
end
section
variable {X : Cx}
/-- what such a comprehension asks: the outer walk's turns (W, Nx), behind each one the inner walk's (W', Nx') -/
def tScI2 (w : World) (wi : TI) (g : TG) (tt : TT) (wi' : TI) (g' : TG) (tt' : TT) (te : TE) (vs vs' : List Nat) : TE := fun σ H Q => wi σ H fun J H1 => ∀ D, H1 D = none →
  ∃ W : Nat → Nat → Hp → Prop, (∃ m, W 0 m (upd H1 D (SetO w D (fun _ => false) 0))) ∧ ∀ i m H, W i m H → (J.stop i H ∧ Q (.ref D) H) ∨
    (J.go i H ∧ ∃ Nx : Hp → Prop, (∀ H', Nx H' → ∃ m', m' < m ∧ W (i + 1) m' H') ∧ ∀ x H', J.yld i H x H' → g x (wipe σ vs) H' fun σ2 H2 => wipe σ2 vs = wipe σ vs ∧
      tt σ2 H2 fun b H3 => if b = true then wi' σ2 H3 fun J' H4 => ∃ W' : Nat → Nat → Hp → Prop, (∃ m, W' 0 m H4) ∧ ∀ j k H, W' j k H → (J'.stop j H ∧ Nx H) ∨
        (J'.go j H ∧ ∃ Nx' : Hp → Prop, (∀ H', Nx' H' → ∃ k', k' < k ∧ W' (j + 1) k' H') ∧ ∀ x H', J'.yld j H x H' → g' x (wipe σ2 vs') H' fun σ3 H5 => wipe σ3 vs' = wipe σ2 vs' ∧
          tt' σ3 H5 fun b H6 => if b = true then te σ3 H6 fun y H7 => ∃ (n : Int) (S : Int → Bool) (c : Nat), y = .int n ∧ H7 D = some (SetO w D S c) ∧ c + 1 < scanBound ∧
            Nx' (upd H7 D (SetO w D (fun j => S j || decide (j = n)) (if S n = true then c else c + 1))) else Nx' H6)
      else Nx H3)
theorem pe_scI2 {elt ta ia tb ib : Expr} {fa fb : List Expr} {sc : Scope} {own : List (PySem.Str × Nat)} {vs' : List Nat} {at_ : Pos} {wi wi' : TI} {g g' : TG} {tt tt' : TT} {te : TE}
    (calm : X.calm = true) (nd : X.N.Nodup) (hi : PI X ta ia wi) (ok : BlkOk X.N X.env.scope sc own) (inn : ∀ i ∈ vs', i ∈ own.map (·.2))
    (hg : ∀ (s : Shared) (H : Hp) (C : Addr) (cl : List (PySem.Str × Addr)) (fp : List Addr), PG (X.blk s H sc (compEnvC sc cl C X.env) fp) ta g)
    (ht : ∀ (s : Shared) (H : Hp) (C : Addr) (cl : List (PySem.Str × Addr)) (fp : List Addr), PTs (X.blk s H sc (compEnvC sc cl C X.env) fp) fa tt)
    (hi' : ∀ (s : Shared) (H : Hp) (C : Addr) (cl : List (PySem.Str × Addr)) (fp : List Addr), PI (X.blk s H sc (compEnvC sc cl C X.env) fp) tb ib wi')
    (hg' : ∀ (s : Shared) (H : Hp) (C : Addr) (cl : List (PySem.Str × Addr)) (fp : List Addr), PG (X.blk s H sc (compEnvC sc cl C X.env) fp) tb g')
    (ht' : ∀ (s : Shared) (H : Hp) (C : Addr) (cl : List (PySem.Str × Addr)) (fp : List Addr), PTs (X.blk s H sc (compEnvC sc cl C X.env) fp) fb tt')
    (he : ∀ (s : Shared) (H : Hp) (C : Addr) (cl : List (PySem.Str × Addr)) (fp : List Addr), PE (X.blk s H sc (compEnvC sc cl C X.env) fp) elt te)
    (plain : ∀ y, foldedSetIterable ia X.env y = pure y := by intro _; rfl) (plain' : ∀ en y, foldedSetIterable ib en y = pure y := by intro _ _; rfl) :
    PE X (scx elt ta ia fa tb ib fb sc at_) (tScI2 X.w wi g tt wi' g' tt' te (own.map (·.2)) vs') := by
  refine ⟨fun pins s σ H Q I h => ?_⟩
  rw [eval_SetComp]
  have caught : ∀ y ∈ sc.names, y.2 = .free → ∃ c, X.env.cells.lookup y.1 = some c := fun y hy e =>
    (ok.free y hy e).elim (fun k => I.ok.has _ (.inl k)) fun k => I.ok.has _ (.inr k)
  refine wpAny_comprehension_free (use := none) rfl plain (closure_ok caught) ok.kind (fun y hy e => (ok.uniq y hy).trans (by rw [e])) (thn (hi.run pins s σ H _ I h) fun xv s1 hx => thn hx fun itv s2 h2 => ?_)
  obtain ⟨it, fp, tn, J, H2, rfl, I2, T, st2, f2, q⟩ := h2
  refine newSet_ok (newEnv_comp ?_)
  obtain ⟨D, hD⟩ : ∃ D, s2.heap.objs.size = D := ⟨_, rfl⟩
  rw [hD]
  obtain ⟨W, ⟨m0, w0⟩, turn⟩ := q D (I2.hok.fresh (Nat.le_of_eq hD))
  obtain ⟨s3, hs3⟩ : ∃ s3 : Shared, { s2 with heap := s2.heap.push (emptySet X.w) } = s3 := ⟨_, rfl⟩
  have h3 : s3.heap = s2.heap.push (emptySet X.w) := by rw [← hs3]
  have I3 : Inv X pins σ (upd H2 D (SetO X.w D (fun _ => false) 0)) s3 := by
    have z := I2.laid (a := D) (o := SetO X.w D (fun _ => false) 0) (t' := s2.toks) (h' := s2.heap.push (emptySet X.w)) (fun b o e => Heap.get?_push_of_some _ e) (Nat.le_of_eq hD) (by rw [← hD]; exact setO_new (setR_fresh X.w))
    exact hs3 ▸ z
  have low : ∀ b ∈ fp, b < s2.heap.objs.size := fun b hb => let ⟨o, e, _⟩ := T.obj _ _ st2 b hb; Heap.lt_size e
  have f3 : ∀ b ∈ fp, FpOk X pins (upd H2 D (SetO X.w D (fun _ => false) 0)) b ∧ b < s3.heap.objs.size := fun b hb =>
    ⟨⟨(upd_ne (by rw [← hD]; exact Nat.ne_of_lt (low b hb))).trans (f2 b hb).1, (f2 b hb).2⟩, by rw [h3, Heap.size_push]; exact Nat.lt_succ_of_lt (low b hb)⟩
  have st3 : tn 0 s3.heap := T.keep _ _ _ st2 fun b _ o e => h3 ▸ Heap.get?_push_of_some _ e
  have I4 := block_start I3 ok nd f3
  obtain ⟨H3, hH3⟩ : ∃ H3, upd H2 D (SetO X.w D (fun _ => false) 0) = H3 := ⟨_, rfl⟩
  rw [hH3] at I3 f3 I4 w0
  obtain ⟨C, hC⟩ : ∃ C, s3.heap.objs.size = C := ⟨_, rfl⟩
  rw [hC] at I4
  have pg := hg s3 H3 C (cellsFrom (C + 1) sc.names (cloFrom X.env.cells sc.names [])) fp
  have pt := ht s3 H3 C (cellsFrom (C + 1) sc.names (cloFrom X.env.cells sc.names [])) fp
  have pi' := hi' s3 H3 C (cellsFrom (C + 1) sc.names (cloFrom X.env.cells sc.names [])) fp
  have pg' := hg' s3 H3 C (cellsFrom (C + 1) sc.names (cloFrom X.env.cells sc.names [])) fp
  have pt' := ht' s3 H3 C (cellsFrom (C + 1) sc.names (cloFrom X.env.cells sc.names [])) fp
  have pe := he s3 H3 C (cellsFrom (C + 1) sc.names (cloFrom X.env.cells sc.names [])) fp
  subst hs3
  have hC' : (s2.heap.push (emptySet X.w)).objs.size = C := hC
  show codeAny _ _ (.compStart (scx elt ta ia fa tb ib fb sc at_) 0 (.ref it) (.ref D) (compEnvC sc (cellsFrom ((s2.heap.push (emptySet X.w)).objs.size + 1) sc.names (cloFrom X.env.cells sc.names [])) (s2.heap.push (emptySet X.w)).objs.size X.env))
    (compPost (model X.prog X.w) X.A X.xe none (EP X pins σ Q) (.ref D) (s2.heap.push (emptySet X.w)).objs.size) { s2 with heap := pushCells ((s2.heap.push (emptySet X.w)).push { cls := .type "dict", data := .dict #[] }) sc.names }
  rw [hC']
  obtain ⟨ce, hce⟩ : ∃ ce, compEnvC sc (cellsFrom (C + 1) sc.names (cloFrom X.env.cells sc.names [])) C X.env = ce := ⟨_, rfl⟩
  rw [hce] at I4 pg pt pi' pg' pt' pe ⊢
  have cL : ce.locals = C := by subst hce; rfl
  obtain ⟨s4, hs4⟩ : ∃ s4 : Shared, { s2 with heap := pushCells ((s2.heap.push (emptySet X.w)).push { cls := .type "dict", data := .dict #[] }) sc.names } = s4 := ⟨_, rfl⟩
  obtain ⟨Y, hY⟩ : ∃ Y, X.blk { s2 with heap := s2.heap.push (emptySet X.w) } H3 sc ce fp = Y := ⟨_, rfl⟩
  have I4 : Inv Y [] (wipe σ (own.map (·.2))) H3 s4 := hY ▸ hs4 ▸ I4
  rw [hs4]
  have st4 : tn 0 s4.heap := T.keep _ _ _ st3 fun b _ o e => by rw [← hs4]; exact pushCells_keeps _ _ _ _ (Heap.get?_push_of_some _ e)
  have rest : ∀ {σ' : L2.St} {H' : Hp} {s' : Shared}, Inv Y [] σ' H' s' → (∀ b ∈ fp, H' b = none) → ∀ b ∈ fp, FpOk Y [] H' b := by
    subst hY
    intro σ' H' s' I' hn b hb
    exact ⟨hn b hb, (I'.ok.exf b hb).1, I'.ok.exfs b hb, .inl hb, fun x c e => (I'.ok.exf b hb).2 x c e, fun p hp => absurd (show p ∈ ([] : List (Addr × Obj)) ++ [] from hp) (by simp)⟩
  obtain ⟨Go, hGo⟩ : ∃ Go : Nat → Shared → Prop, Go = fun n s' => ∃ i H', Inv Y [] (wipe σ (own.map (·.2))) H' s' ∧ tn i s'.heap ∧ (∀ b ∈ fp, H' b = none) ∧ W i n H' := ⟨_, rfl⟩
  have round : codeAny (model X.prog X.w) X.A (.compLoop (scx elt ta ia fa tb ib fb sc at_) 0 (.ref it) (.ref D) ce) (compPost (model X.prog X.w) X.A X.xe none (EP X pins σ Q) (.ref D) C) s4 := by
    refine scx_loopA (plain' ce) Go ?_ m0 (by rw [hGo]; exact ⟨0, H3, I4, st4, fun b hb => (f3 b hb).1.1, w0⟩)
    intro n s5 g5
    rw [hGo] at g5
    obtain ⟨i, H5, I5, st5, n5, w5⟩ := g5
    rcases turn i n H5 w5 with ⟨over, last⟩ | ⟨more, Nx, hNx, step⟩
    · subst hY
      refine thnF (T.done (X.blk _ H3 sc ce fp) rfl rfl rfl calm i [] s5 _ H5 (fun _ _ => False) I5 (rest I5 n5) st5 over) fun r s6 ⟨hr, I6⟩ => ?_
      subst hr
      have I7 : Inv X pins σ H5 s6 := I3.call' (ch := fp) I6.os I6.base I6.hok I6.bare fun b hb => ⟨(f3 b hb).1.2.2.2.1, (f3 b hb).1.2.1, (f3 b hb).1.2.2.2.2.1, (f3 b hb).1.2.2.2.2.2⟩
      have nC : H5 C = none := cL ▸ (show H5 ce.locals = none from I6.free)
      obtain ⟨m, hn, _⟩ := I6.loc
      have hn : s6.heap.Ns C m := cL ▸ (show s6.heap.Ns ce.locals m from hn)
      refine ⟨m, hn, fun h'' sb => ?_⟩
      obtain ⟨g0, g1, g2, g3, g4, g5⟩ := I3.fpOk (Nat.le_of_eq hC) nC
      exact ⟨.ref D, H5, I7.turned (t' := s6.toks) (fun b o hb e => (sb.2 b hb).trans e) g0 g1 g3 g4 g5, rfl, last⟩
    · have item := T.item Y (by subst hY; rfl) (by subst hY; rfl) (by subst hY; rfl) (by subst hY; exact calm) i [] s5 _ H5 (fun _ _ => False) I5 (rest I5 n5) st5 more
      rw [hY] at pg pt pi' pg' pt' pe
      have yA : Y.A = X.A := by subst hY; rfl
      have yP : Y.prog = X.prog := by subst hY; rfl
      have yw : Y.w = X.w := by subst hY; rfl
      subst hY
      refine thnF item fun r s6 ⟨u, hr, h6⟩ => ?_
      subst hr
      refine thnF h6 fun _ s7 ⟨x, H7, I7, r7, y7, st7, n7⟩ => ?_
      refine thnF (pg.run _ s7 _ H7 x u _ (I7.pinned (rest I7 n7) (T.obj _ _ st7)) r7 (step x H7 y7)) fun _ s8 ⟨σ8, H8, I8, hw8, q8⟩ => ?_
      refine thnF (pt.run _ s8 σ8 H8 _ I8 q8) fun b s9 ⟨H9, I9, q9⟩ => ?_
      -- back at the outer walk
      have back : ∀ {σ' : L2.St} {s' : Shared} {H' : Hp}, Inv (X.blk { s2 with heap := s2.heap.push (emptySet X.w) } H3 sc ce fp) ([] ++ pinsAt fp s7.heap) σ' H' s' → σ'.length = σ8.length → (∀ (j : Nat) v, (wipe σ8 (own.map (·.2)))[j]? = some (some v) → σ'[j]? = some (some v)) → Nx H' → ∃ m, m < n ∧ Go m s' := by
        intro σ' s' H' I' len same nx
        obtain ⟨m', hm, w'⟩ := hNx H' nx
        have pin : ∀ b ∈ fp, ∀ o, s7.heap.get? b = some o → s'.heap.get? b = some o ∧ H' b = none := fun b hb o e =>
          let z := I'.pin (b, o) (List.mem_append_right _ (List.mem_append_right _ (mem_pinsAt hb e))); ⟨z.1, z.2.1⟩
        refine ⟨m', hm, ?_⟩
        rw [hGo]
        refine ⟨i + 1, H', (I'.unpinned (pins := [])).weak (by rw [← hw8, wipe_length, len]) (fun j v e => same j v (by rw [hw8]; exact e)), T.keep _ _ _ st7 fun b hb o e => (pin b hb o e).1, fun b hb => ?_, w'⟩
        obtain ⟨o, e, _⟩ := T.obj _ _ st7 b hb
        exact (pin b hb o e).2
      cases b with
      | false =>
        simp only [Bool.false_eq_true, if_false] at q9 ⊢
        exact back I9 rfl (fun j v e => (wipe_some e).1) q9
      | true =>
        simp only [if_true] at q9 ⊢
        refine thnF (pi'.run _ s9 σ8 H9 _ I9 q9) fun yv s10 hx => thnF hx fun itv s11 h11 => ?_
        obtain ⟨it', fp', tn', J', H11, rfl, I11, T', st11, f11, W', ⟨m1, w1⟩, turn'⟩ := h11
        have rest' : ∀ {H' : Hp}, (∀ b ∈ fp', H' b = none) → ∀ b ∈ fp', FpOk (X.blk { s2 with heap := s2.heap.push (emptySet X.w) } H3 sc ce fp) ([] ++ pinsAt fp s7.heap) H' b := fun hn b hb => ⟨hn b hb, (f11 b hb).2⟩
        obtain ⟨Go', hGo'⟩ : ∃ Go' : Nat → Shared → Prop, Go' = fun k s' => ∃ j H', Inv (X.blk { s2 with heap := s2.heap.push (emptySet X.w) } H3 sc ce fp) ([] ++ pinsAt fp s7.heap) (wipe σ8 vs') H' s' ∧ tn' j s'.heap ∧ (∀ b ∈ fp', H' b = none) ∧ W' j k H' := ⟨_, rfl⟩
        have inner : codeAny (model X.prog X.w) X.A (.compLoop (scx elt ta ia fa tb ib fb sc at_) 1 (.ref it') (.ref D) ce)
            (fun r s' => match r with
              | .ok _ => ∃ m, m < n ∧ Go m s'
              | .error _ => False) s11 := by
          refine scx_loopB Go' ?_ m1 (by rw [hGo']; exact ⟨0, H11, I11.weak (wipe_length _ _) (fun j v e => (wipe_some e).1), st11, fun b hb => (f11 b hb).1, w1⟩)
          intro k s12 g12
          rw [hGo'] at g12
          obtain ⟨j, H12, I12, st12, n12, w12⟩ := g12
          rcases turn' j k H12 w12 with ⟨over', nx⟩ | ⟨more', Nx', hNx', step'⟩
          · refine thnF (T'.done (X.blk { s2 with heap := s2.heap.push (emptySet X.w) } H3 sc ce fp) rfl rfl rfl calm j _ s12 (wipe σ8 vs') H12 (fun _ _ => False) I12 (rest' n12) st12 over') fun r s13 ⟨hr, I13⟩ => ?_
            subst hr
            refine back I13 (wipe_length σ8 vs') (fun l v e => ?_) nx
            obtain ⟨e1, e2⟩ := wipe_some e
            rw [wipe_out fun z => e2 (inn l z)]
            exact e1
          · refine thnF (T'.item (X.blk { s2 with heap := s2.heap.push (emptySet X.w) } H3 sc ce fp) rfl rfl rfl calm j _ s12 (wipe σ8 vs') H12 (fun _ _ => False) I12 (rest' n12) st12 more') fun r s13 ⟨u', hr, h13⟩ => ?_
            subst hr
            refine thnF h13 fun _ s14 ⟨x', H14, I14, r14, y14, st14, n14⟩ => ?_
            refine thnF (pg'.run _ s14 (wipe σ8 vs') H14 x' u' _ (I14.pinned (rest' n14) (T'.obj _ _ st14)) r14 (step' x' H14 y14)) fun _ s15 ⟨σ15, H15, I15, hw15, q15⟩ => ?_
            refine thnF (pt'.run _ s15 σ15 H15 _ I15 q15) fun b' s16 ⟨H16, I16, q16⟩ => ?_
            have back' : ∀ {s' : Shared} {H' : Hp}, Inv (X.blk { s2 with heap := s2.heap.push (emptySet X.w) } H3 sc ce fp) (([] ++ pinsAt fp s7.heap) ++ pinsAt fp' s14.heap) σ15 H' s' → Nx' H' → ∃ m, m < k ∧ Go' m s' := by
              intro s' H' I' nx
              obtain ⟨m', hm, w'⟩ := hNx' H' nx
              have pin : ∀ b ∈ fp', ∀ o, s14.heap.get? b = some o → s'.heap.get? b = some o ∧ H' b = none := fun b hb o e =>
                let z := I'.pin (b, o) (List.mem_append_right _ (List.mem_append_right _ (mem_pinsAt hb e))); ⟨z.1, z.2.1⟩
              refine ⟨m', hm, ?_⟩
              rw [hGo']
              refine ⟨j + 1, H', I'.unpinned.weak (by rw [← hw15, wipe_length]) (fun l v e => by rw [← hw15] at e; exact (wipe_some e).1), T'.keep _ _ _ st14 fun b hb o e => (pin b hb o e).1, fun b hb => ?_, w'⟩
              obtain ⟨o, e, _⟩ := T'.obj _ _ st14 b hb
              exact (pin b hb o e).2
            cases b' with
            | false => simp only [Bool.false_eq_true, if_false] at q16 ⊢; exact back' I16 q16
            | true =>
              simp only [if_true] at q16 ⊢
              refine thnF (pe.run _ s16 σ15 H16 _ I16 q16) fun z s17 ⟨yv, H17, I17, r17, num, S0, c0, ey, hD17, few, nx⟩ => ?_
              subst ey
              obtain ⟨t, rfl⟩ := r17
              exact putInt (X := X.blk _ H3 sc ce fp) I17 hD17 few fun s18 I18 => back' I18 nx
        exact scx_startB inner (T'.self X.A 0 _ _ _ st11 inner)
  exact codeAny_compStart_set round (T.self X.A 0 _ _ _ st4 round)
end
end Rp

/-! ATOMs: their variables, a BINDING put into them. -/
namespace Rp
open PySem PySem.Spec PyProof.Rows L2 TL NdefX LamX StX PpSet
theorem walk_tup {K : PySem.W.Frag} {a : Addr} {xs : List V} {B : V → Hp → (Hp → Prop) → Prop} {H1 : Hp} {Done : Hp → Prop} (Pv : Nat → Hp → Prop) (h0 : Pv 0 H1) (hl : ∀ i H, i ≤ xs.length → Pv i H → SqT K H a xs)
    (hs : ∀ i x H, xs[i]? = some x → Pv i H → B x H (Pv (i + 1))) (hd : ∀ H, Pv xs.length H → Done H) :
    ∃ W : Nat → Nat → Hp → Prop, (∃ m, W 0 m H1) ∧ ∀ i m H, W i m H →
      ((Itt K a).stop i H ∧ Done H) ∨ ((Itt K a).go i H ∧ ∃ Nx : Hp → Prop, (∀ H', Nx H' → ∃ m', m' < m ∧ W (i + 1) m' H') ∧ ∀ x H', (Itt K a).yld i H x H' → B x H' Nx) := by
  refine ⟨fun i m H => m = xs.length - i ∧ i ≤ xs.length ∧ Pv i H, ⟨xs.length, by simp, Nat.zero_le _, h0⟩, ?_⟩
  rintro i m H ⟨rfl, hi, p⟩
  have q := hl i H hi p
  by_cases hlt : i < xs.length
  · refine .inr ⟨⟨xs, xs[i], q, by simp [hlt]⟩, Pv (i + 1), fun H' p' => ⟨xs.length - (i + 1), by omega, rfl, hlt, p'⟩, fun x H' y => ?_⟩
    obtain ⟨e, y⟩ := y
    subst e
    exact hs i x _ (y xs q) p
  · have e : i = xs.length := by omega
    subst e
    exact .inl ⟨⟨xs, q, Nat.le_refl _⟩, hd H p⟩
theorem walk_lst {K : PySem.W.Frag} {a : Addr} {xs : List V} {B : V → Hp → (Hp → Prop) → Prop} {H1 : Hp} {Done : Hp → Prop} (Pv : Nat → Hp → Prop) (h0 : Pv 0 H1) (hl : ∀ i H, i ≤ xs.length → Pv i H → SqL K H a xs)
    (hs : ∀ i x H, xs[i]? = some x → Pv i H → B x H (Pv (i + 1))) (hd : ∀ H, Pv xs.length H → Done H) :
    ∃ W : Nat → Nat → Hp → Prop, (∃ m, W 0 m H1) ∧ ∀ i m H, W i m H →
      ((Itl K a).stop i H ∧ Done H) ∨ ((Itl K a).go i H ∧ ∃ Nx : Hp → Prop, (∀ H', Nx H' → ∃ m', m' < m ∧ W (i + 1) m' H') ∧ ∀ x H', (Itl K a).yld i H x H' → B x H' Nx) := by
  refine ⟨fun i m H => m = xs.length - i ∧ i ≤ xs.length ∧ Pv i H, ⟨xs.length, by simp, Nat.zero_le _, h0⟩, ?_⟩
  rintro i m H ⟨rfl, hi, p⟩
  have q := hl i H hi p
  by_cases hlt : i < xs.length
  · refine .inr ⟨⟨xs, xs[i], q, by simp [hlt]⟩, Pv (i + 1), fun H' p' => ⟨xs.length - (i + 1), by omega, rfl, hlt, p'⟩, fun x H' y => ?_⟩
    obtain ⟨e, y⟩ := y
    subst e
    exact hs i x _ (y xs q) p
  · have e : i = xs.length := by omega
    subst e
    exact .inl ⟨⟨xs, q, Nat.le_refl _⟩, hd H p⟩
/-- an ATOM stands as the value v -/
def AmAt (H : Hp) (v : V) (p : Str) (ts : List Tm) : Prop := ∃ (a : Addr) (xs : List V), v = .ref a ∧ H a = some (.tup (.str p :: xs)) ∧ AllAt H xs ts
theorem AmAt.mono {H H' : Hp} {v : V} {p : Str} {ts : List Tm} (e : ∀ a xs, H a = some (.tup xs) → H' a = some (.tup xs)) : AmAt H v p ts → AmAt H' v p ts := fun ⟨a, xs, h1, h2, h3⟩ => ⟨a, xs, h1, e _ _ h2, h3.mono e⟩
/-- all but D and the tables stays -/
structure ExtB (T : List NTab) (D : Addr) (H H' : Hp) : Prop where
  ext : ∀ c o, H c = some o → c ≠ D → (∀ ps, o ≠ .tbl ps) → H' c = some o
  tab : TabsN T H'
theorem code_lst {c : Addr} {q : Str} {xs : List V} : CodeO c q ≠ .lst xs := fun z => by unfold CodeO at z; cases z
theorem tabs_but {T : List NTab} {H H' : Hp} {D : Addr} {xs : List V} (t : TabsN T H) (hD : H D = some (.lst xs)) (o : But D H H') : TabsN T H' := fun p hp => by
  obtain ⟨ps, h1, h2, h3⟩ := t p hp
  refine ⟨ps, o _ _ h1 (ne_of h1 hD (by intro z; cases z)), h2, fun pos cv hc => ?_⟩
  obtain ⟨c, e1, e2⟩ := h3 pos cv hc
  exact ⟨c, e1, o _ _ e2 (ne_of e2 hD code_lst)⟩
theorem ExtB.refl {T : List NTab} {D : Addr} {H : Hp} (t : TabsN T H) : ExtB T D H H := ⟨fun _ _ h _ _ => h, t⟩
theorem ExtB.trans {T : List NTab} {D : Addr} {H H1 H2 : Hp} (a : ExtB T D H H1) (b : ExtB T D H1 H2) : ExtB T D H H2 := ⟨fun c o h n m => b.ext c o (a.ext c o h n m) n m, b.tab⟩
theorem Ext.toB {T : List NTab} {D : Addr} {H H' : Hp} (e : Ext T H H') : ExtB T D H H' := ⟨fun c o h _ m => e.ext c o h m, e.tab⟩
theorem ExtB.but {T : List NTab} {D : Addr} {xs : List V} {H H' : Hp} (t : TabsN T H) (hD : H D = some (.lst xs)) (o : But D H H') : ExtB T D H H' := ⟨fun c u h n _ => o c u h n, tabs_but t hD o⟩
theorem ExtB.same {T : List NTab} {D : Addr} {H H' : Hp} (t : TabsN T H) (s : Same H H') : ExtB T D H H' := ⟨fun c u h _ _ => s c u h, t.ext s⟩
theorem ExtB.tups {T : List NTab} {D : Addr} {xs : List V} {H H' : Hp} (e : ExtB T D H H') (hD : H D = some (.lst xs)) : Tups H H' :=
  ⟨fun _ _ h => e.ext _ _ h (ne_of h hD (by intro z; cases z)) (fun _ z => by cases z), fun _ _ _ h => e.ext _ _ h (ne_of h hD (by intro z; cases z)) (fun _ z => by cases z)⟩
theorem ExtB.lst {T : List NTab} {D : Addr} {H H' : Hp} (e : ExtB T D H H') {a : Addr} {xs : List V} (h : H a = some (.lst xs)) (n : a ≠ D) : H' a = some (.lst xs) := e.ext _ _ h n fun _ z => by cases z
theorem nums_half : ∀ t : Tm, 2 * t.nums.length ≤ t.size + 1
  | .v n => by simp [Tm.nums, Tm.size]
  | .z => by simp [Tm.nums, Tm.size]
  | .s t => by have := nums_half t; simp only [Tm.nums, Tm.size]; omega
  | .f l r => by have := nums_half l; have := nums_half r; simp only [Tm.nums, Tm.size, List.length_append]; omega
theorem rising_few {ns ms : List Int} (h : ns.Pairwise (· < ·)) (sub : ∀ k ∈ ns, k ∈ ms) : ns.length ≤ ms.length := by
  induction ns generalizing ms with
  | nil => exact Nat.zero_le _
  | cons n r ih =>
    obtain ⟨h1, h2⟩ := List.pairwise_cons.mp h
    have hn := sub n (by simp)
    have := ih (ms := ms.erase n) h2 fun k hk => (List.mem_erase_of_ne (by have := h1 k hk; omega)).mpr (sub k (by simp [hk]))
    rw [List.length_erase_of_mem hn] at this
    have : 0 < ms.length := List.length_pos_of_mem hn
    simp only [List.length_cons]
    omega
def spAVars : Sp := fun vs H Q _ => ∃ (v : V) (p : Str) (ts : List Tm), vs = [v] ∧ AmAt H v p ts ∧ ts.length ≤ 2 ∧ (∀ t ∈ ts, t.size ≤ 40) ∧ ∀ (g : Addr) (ns : List Int) (H' : Hp), H g = none → H' g = some (.lst (ns.map V.int)) → ns.Pairwise (· < ·) → (∀ k, k ∈ ns ↔ k ∈ ts.flatMap Tm.nums) → Same H H' → Q (.ref g) H'
def spAPut (T : List NTab) : Sp := fun vs H Q _ => ∃ (v : V) (p : Str) (ts : List Tm) (a : Addr) (bd : Bd), vs = [v, .ref a] ∧ AmAt H v p ts ∧ ts.length ≤ 2 ∧ (∀ t ∈ ts, t.size ≤ 1000) ∧ BdAt H a bd ∧ TabsN T H ∧
  ∀ (v' : V) (H' : Hp), AmAt H' v' p (ts.map (Tm.put bd)) → Ext T H H' → Q v' H'
abbrev NAV : List Str := ["atom", "term", "variable"]
abbrev NAP : List Str := ["atom", "binding", "term"]
section
variable {P : Program} {w : World} {K : PySem.W.Frag} {mg : Str → Option Value} {base : Heap}
theorem scAV : FnScope NAV ["atom"] (defScope sAtomVars) := ⟨rfl, rfl, rfl, by decide +kernel, rfl, by decide +kernel, by decide +kernel⟩
theorem scAP : FnScope NAP ["atom", "binding"] (defScope sAtomPut) := ⟨rfl, rfl, rfl, by decide +kernel, rfl, by decide +kernel, by decide +kernel⟩
def teVars : TE := fun σ H Q => tCons (tVar 1) tNil σ H fun vs H1 => spVars vs H1 Q E0
theorem ok_avars {f fV : Addr} {fd dV : FuncData} (F : Fun K "atom_variables" "atom_variables" sAtomVars f fd) (GV : FnOk P w K mg base CX0 3 fV dV ["term"] spVars) (kV : PySem.W.keepIn K (.ref fV) = true) (bV : Binds K dV ["term"] []) (mV : mg "variables" = some (.ref fV))
    (mSorted : mg "sorted" = none) : FnOk P w K mg base CX0 4 f fd ["atom"] spAVars := by
  refine F.ok scAV (fun vs H Q E h => ?_) (fun cdv A outer s H vs Q E hr h => ?_)
  · obtain ⟨v, p, ts, rfl, _⟩ := h
    rfl
  obtain ⟨v, p, ts, rfl, ⟨a, xs, rfl, ha, AT⟩, t2, tz, q⟩ := h
  refine ⟨_, pss_one (ps_ret (pe_callB (cr_sortedSet rfl) (by rfl) mSorted (by decide +kernel) (pa_cons (pe_scI2 (own := [("term", 1), ("variable", 2)]) (vs' := [2]) (g := gName 1) (tt := tYes) (wi' := iList K teVars) (g' := gName 2) (tt' := tYes) (te := tVar 2) rfl scAV.nd
      (pi_tup (pe_slice sl_tup (pv 0) (po_some pe_int) po_none)) (blkOk_by (N := NAV) (sc := defScope sAtomVars) (by decide +kernel)) (by decide) (fun _ _ _ _ _ => pg_name (i := 1) scAV.nd rfl (Or.inl rfl)) (fun _ _ _ _ _ => pts_nil)
      (fun _ _ _ _ _ => pi_list (pe_call GV hr (by rfl) mV kV bV .nil pass0 (pa_cons (pv 1) pa_nil))) (fun _ _ _ _ _ => pg_name (i := 2) scAV.nd rfl (Or.inl rfl)) (fun _ _ _ _ _ => pts_nil)
      (fun _ _ _ _ _ => pv 2)) pa_nil))), ?_⟩
  refine ⟨_, rfl, 1, rfl, a, _, rfl, .inl (.inl ha), cut_part _ _, fun g hg => ?_⟩
  rw [cut_tail]
  have s1 := same_new hg (.tup xs)
  have xl := AT.len
  have hgg : (upd H g (.tup xs)) g = some (.tup xs) := upd_same
  generalize hH1 : upd H g (.tup xs) = H1 at s1 hgg
  refine ⟨g, rfl, ⟨_, .inl (.inl hgg)⟩, fun D hD => walk_tup (K := K) (a := g) (xs := xs) (fun i H2 => ∃ (S : Int → Bool) (n : Nat), H2 D = some (SetO w D S n) ∧ n ≤ 20 * i ∧ (∀ k, S k = true ↔ k ∈ (ts.take i).flatMap Tm.nums) ∧ Same H1 H2)
    ⟨_, 0, upd_same, Nat.le_refl _, fun k => by simp, same_new hD _⟩ (fun i H2 _ ⟨_, _, _, _, _, z⟩ => .inl (.inl (z _ _ hgg))) ?_ ?_⟩
  · rintro i x H2 hi ⟨S, n, hS, hn, hm, hk⟩
    obtain ⟨t, ht, Tx⟩ := AT.get hi
    have tz1 := tz t (List.mem_of_getElem? ht)
    have li : i < xs.length := (List.getElem?_eq_some_iff.mp hi).1
    refine ⟨rfl, ?_⟩
    unfold teVars
    refine ⟨_, rfl, x, t, rfl, Tx.same (s1.trans hk), by omega, fun l ns H3 hl h3 up mem s3 => ?_⟩
    have few := rising_few up fun k hk => (mem k).1 hk
    have half := nums_half t
    have lD : l ≠ D := (ne_of_none hS hl).symm
    have lim : (100 : Nat) < scanBound := by decide
    refine ⟨l, rfl, ⟨_, .inl (.inl h3)⟩, walk_lst (K := K) (a := l) (xs := ns.map V.int) (fun j H4 => ∃ (S' : Int → Bool) (n' : Nat), H4 D = some (SetO w D S' n') ∧ n' ≤ n + j ∧ (∀ k, S' k = true ↔ (k ∈ (ts.take i).flatMap Tm.nums ∨ k ∈ ns.take j)) ∧ But D H3 H4)
      ⟨S, n, s3 _ _ hS, by omega, fun k => by rw [hm k]; simp, But.refl _ _⟩ (fun j H4 _ ⟨_, _, _, _, _, z⟩ => .inl (.inl (z _ _ h3 lD))) ?_ ?_⟩
    · rintro j y H4 hj ⟨S', n', hS', hn', hm', o4⟩
      rw [List.getElem?_map] at hj
      obtain ⟨m, hm1, rfl⟩ : ∃ m, ns[j]? = some m ∧ y = .int m := by
        cases e : ns[j]? with
        | none => rw [e] at hj; cases hj
        | some m => rw [e] at hj; exact ⟨m, rfl, (by simpa using hj.symm)⟩
      have lj : j < ns.length := (List.getElem?_eq_some_iff.mp hm1).1
      refine ⟨rfl, _, rfl, m, S', n', rfl, hS', Nat.lt_of_le_of_lt (by omega : n' + 1 ≤ 100) lim, ?_⟩
      refine ⟨_, _, upd_same, ?_, fun k => ?_, fun c o z nc => ?_⟩
      · split <;> omega
      · have tk : ns.take (j + 1) = ns.take j ++ [m] := by rw [List.take_add_one, hm1]; rfl
        rw [tk, Bool.or_eq_true, hm' k, List.mem_append, List.mem_singleton, decide_eq_true_eq, or_assoc]
      · rw [upd_ne nc]; exact o4 _ _ z nc
    · rintro H4 ⟨S', n', hS', hn', hm', o4⟩
      rw [List.length_map] at hn' hm'
      have tk : ts.take (i + 1) = ts.take i ++ [t] := by rw [List.take_add_one, ht]; rfl
      refine ⟨S', n', hS', by omega, fun k => ?_, fun c o z => o4 _ _ (s3 _ _ (hk _ _ z)) (ne_of_none z hD)⟩
      rw [hm' k, List.take_length, tk, List.flatMap_append, List.mem_append, mem k]
      simp
  · rintro H2 ⟨S, n, hS, hn, hm, hk⟩
    refine ⟨D, S, n, rfl, hS, by omega, fun ns p2 up mem len hp2 => ?_⟩
    refine q p2 ns _ ?_ upd_same up (fun k => ?_) ((s1.trans hk).trans (same_new hp2 _))
    · exact same_none (s1.trans hk) _ hp2
    · rw [mem k, hm k, xl, List.take_length]
def tePut (K : PySem.W.Frag) (T : List NTab) : TE := fun σ H Q => tCons (tVar 2) (tCons (tVar 1) tNil) σ H fun vs H1 => spPut T vs H1 Q E0
theorem ok_aput {T : List NTab} {f fU : Addr} {fd dU : FuncData} (F : Fun K "atom_put" "atom_put" sAtomPut f fd) (GU : FnOk P w K mg base CX0 4 fU dU ["term", "binding"] (spPut T)) (kU : PySem.W.keepIn K (.ref fU) = true) (bU : Binds K dU ["term", "binding"] []) (mU : mg "put" = some (.ref fU)) :
    FnOk P w K mg base CX0 5 f fd ["atom", "binding"] (spAPut T) := by
  refine F.ok scAP (fun vs H Q E h => ?_) (fun cdv A outer s H vs Q E hr h => ?_)
  · obtain ⟨v, p, ts, a, bd, rfl, _⟩ := h
    rfl
  obtain ⟨v, p, ts, ab, bd, rfl, ⟨a, xs, rfl, ha, AT⟩, t2, tz, B, hT, q⟩ := h
  refine ⟨_, pss_one (ps_ret (pe_tup (pa_cons (pe_ix ix_tup (pv 0) pe_int (fun _ _ => rfl)) (pa_star (pe_lc (own := [("term", 2)]) (g := gName 2) (tt := tYes) (te := tePut K T) rfl scAP.nd (pi_tup (pe_slice sl_tup (pv 0) (po_some pe_int) po_none))
      (blkOk_by (N := NAP) (sc := defScope sAtomPut) (by decide +kernel)) (fun _ _ _ _ _ => pg_name (i := 2) scAP.nd rfl (Or.inl rfl)) (fun _ _ _ _ _ => pts_nil)
      (fun _ _ _ _ _ => pe_call GU hr (by rfl) mU kU bU .nil pass0 (pa_cons (pv 2) (pa_cons (pv 1) pa_nil)))) pa_nil)))), ?_⟩
  refine ⟨_, rfl, _, _, _, _, rfl, rfl, .inl (.inl ha), at_of (j := 0) rfl rfl, ?_⟩
  refine ⟨_, rfl, 1, rfl, a, _, rfl, .inl (.inl ha), cut_part _ _, fun g hg => ?_⟩
  rw [cut_tail]
  have s1 := same_new hg (.tup xs)
  have xl := AT.len
  have hgg : (upd H g (.tup xs)) g = some (.tup xs) := upd_same
  generalize hH1 : upd H g (.tup xs) = H1 at s1 hgg
  refine ⟨g, rfl, ⟨_, .inl (.inl hgg)⟩, fun D hD => walk_tup (K := K) (a := g) (xs := xs) (fun i H2 => ∃ ys : List V, H2 D = some (.lst ys) ∧ AllAt H2 ys ((ts.take i).map (Tm.put bd)) ∧ ys.length = i ∧ ExtB T D (upd H1 D (.lst [])) H2 ∧ ∀ b, H2 b = none → H b = none)
    ⟨[], upd_same, trivial, rfl, ExtB.refl ((hT.ext s1).ext (same_new hD _)), fun b z => same_none (s1.trans (same_new hD _)) b z⟩ (fun i H2 _ ⟨_, _, _, _, e, _⟩ => .inl (.inl ((e.tups upd_same).1 _ _ ((same_new hD _) _ _ hgg)))) ?_ ?_⟩
  · rintro i x H2 hi ⟨ys, h2, A2, yl, e2, nn⟩
    obtain ⟨t, ht, Tx⟩ := AT.get hi
    have li : i < xs.length := (List.getElem?_eq_some_iff.mp hi).1
    have u2 : Tups H H2 := (Tups.same (s1.trans (same_new hD _))).trans (e2.tups upd_same)
    have tk : ts.take (i + 1) = ts.take i ++ [t] := by rw [List.take_add_one, ht]; rfl
    refine ⟨rfl, ?_⟩
    unfold tePut
    refine ⟨_, rfl, _, rfl, x, t, ab, bd, rfl, Tx.mono u2.1, tz t (List.mem_of_getElem? ht), B.mono u2, e2.tab, fun v' H3 T3 e3 => ?_⟩
    have h3 := e3.lst h2
    have u4 : Tups H3 (upd H3 D (.lst (ys ++ [v']))) := Tups.but (but_upd _) h3
    have big : (10 : Nat) < sizeLine := by decide
    refine ⟨ys, h3, by omega, ys ++ [v'], upd_same, ?_, by rw [List.length_append, yl]; rfl, (e2.trans e3.toB).trans (ExtB.but e3.tab h3 (but_upd _)), fun b z => nn b (e3.nn b (upd_none z))⟩
    rw [tk, List.map_append]
    exact ((A2.mono e3.tups.1).mono u4.1).append ⟨T3.mono u4.1, trivial⟩
  · rintro H2 ⟨ys, h2, A2, yl, e2, nn⟩
    rw [xl, List.take_length] at A2
    have u2 : Tups H H2 := (Tups.same (s1.trans (same_new hD _))).trans (e2.tups upd_same)
    refine ⟨D, ys, rfl, .inr (.inl (.inl h2)), ?_, fun c hc => ?_⟩
    · have := A2.len
      rw [List.length_map] at this
      have big : (10 : Nat) < sizeLine := by decide
      show (_ :: (ys ++ [])).length ≤ _
      rw [List.append_nil, List.length_cons]; omega
    · have s3 := same_new hc (.tup (V.str p :: (ys ++ [])))
      refine q (.ref c) _ ⟨c, ys, rfl, by rw [upd_same, List.append_nil], A2.mono (Tups.same s3).1⟩ ⟨fun b o z m => ?_, e2.tab.ext s3, fun b z => nn b (upd_none z)⟩
      have z1 := s1 _ _ z
      exact s3 _ _ (e2.ext _ _ ((same_new hD _) _ _ z1) (ne_of_none z1 hD) m)
end
end Rp

/-! t + u of tuples, t maybe empty: then u itself. -/
namespace Rp
open PySem PySem.Spec PyProof.Rows L2 HT
def rCatE (K : PySem.W.Frag) : R2 := fun x y H Q => ∃ (a b : Addr) (xs ys : List V), x = .ref a ∧ y = .ref b ∧ SqT K H a xs ∧ SqT K H b ys ∧ xs.length + ys.length ≤ sizeLine ∧
  (xs = [] → Q (.ref b) H) ∧ (xs ≠ [] → ys = [] → Q (.ref a) H) ∧ (xs ≠ [] → ys ≠ [] → ∀ p, H p = none → Q (.ref p) (upd H p (.tup (xs ++ ys))))
theorem op_catE {X : Cx} : OpR X (binaryOp .Add) (rCatE X.K) := by
  intro pins s σ H x y v u Q I rx ry h
  obtain ⟨a, b, xs, ys, ex, ey, ha, hb, hz, q0, q1, q2⟩ := h
  by_cases he : xs = []
  · subst ex ey
    cases rx
    cases ry
    obtain ⟨its, r1, p1, _⟩ := I.tuple ha
    obtain ⟨its2, r2, p2, _⟩ := I.tuple hb
    subst he
    cases r1
    obtain ⟨⟨c1, d1, t1, s1⟩, g1, e1, n1, k1⟩ := id p1
    obtain ⟨⟨c2, d2, t2, s2⟩, g2, e2, n2, k2⟩ := id p2
    simp only at e1 k1 e2 k2
    subst e1 k1 e2 k2
    exact concat_meets ⟨_, g1, rfl⟩ ⟨_, g2, rfl⟩ noFill_tuple_add seq_tuple_add PySem.F.slot_tuple_add PySem.F.entry_tuple_add (PySem.F.args_tuple_add_2 _ _)
      (tuple_addW0 a b _ its2.toArray n1 n2 d1 d2 s1 s2 (by simp)) ⟨g1, g2, ⟨.ref b, H, I, rfl, q0 rfl⟩⟩
  · exact op_catT pins s σ H x y v u Q I rx ry ⟨a, b, xs, ys, ex, ey, ha, hb, he, hz, q1 he, q2 he⟩
end Rp

/-! a, *b = t, a tuple of one item at least. -/
namespace Rp
open PySem PySem.Spec PySem.Calls PyProof.Rows L2 PySem.W
section
variable {prog : Program} {w : World} {A : Around} {E : Value → Shared → Prop} {s : Shared}
theorem unpack_starT {l : Addr} {items : Array Value} {n i : Nat} {Q : List Value → Shared → Prop} (isT : IsTup s.heap l items) (calm : A.handled = none) (hi : i < n) (hn : n ≤ items.size + 1) (few : items.size ≤ 16384)
    (go : ∀ (h' : Heap) (tk : Nat), (∀ b o, s.heap.get? b = some o → h'.get? b = some o) → Q (items.toList.take i ++ [.ref h'.objs.size] ++ (items.toList.drop i).drop (items.size + 1 - n))
      { s with heap := h'.push (seqObj "list" ((items.toList.drop i).take (items.size + 1 - n)).toArray 0), toks := tk }) : wpAny (model prog w) A (unpackItems (.ref l) n (some i)) Q E s := by
  have apart : l ≠ s.heap.objs.size := by obtain ⟨o, ho, _⟩ := isT; exact Nat.ne_of_lt (Heap.lt_size ho)
  unfold unpackItems; refine wpAny_bind ?_; unfold notIterableAtAll
  refine wpAny_bind (wpAny_specialOf isT.typeIs slot_tuple_iter.lookup (wpAny_pure ?_)); simp only [Bool.false_eq_true, if_false]
  refine wpAny_bind (wpAny_holding (iter_tuple isT (wpAny_bind (wpAny_holding (draw_tuple apart i 0 _ _ ⟨_, Heap.get?_push_size _ rfl, rfl, rfl⟩ (isT.push _) (by omega) fun h₁ it1 sb1 => ?_)))))
  have isT1 : IsTup h₁ l items := (isT.push _).extBut sb1.extBut apart
  rw [Nat.zero_add] at it1
  obtain ⟨oi, hoi, _⟩ := id it1
  obtain ⟨ol, hol, _⟩ := id isT1
  rw [List.drop_zero, if_neg (show ¬ ((items.toList.take i).length < i) by rw [List.length_take, Array.length_toList]; omega)]
  refine wpAny_bind (wpAny_holding (kun_collect (s := { s with heap := h₁ }) (T := "tuple_iterator") (.inr (.inr (.inr rfl))) (Walks.tuple (A := A.in1) calm s.heap.objs.size l apart items) (fun j u st => st.1.typeIs) (k := i) (by omega) ⟨it1, isT1⟩
    (Heap.lt_size hoi) (Heap.lt_size hol) (fun h₂ tk old => ?_) (by rw [sizeLine_eq]; omega)))
  have rest : (items.toList.drop i).length = items.size - i := by rw [List.length_drop, Array.length_toList]
  show wpAny _ _ (if (items.toList.drop i).length < n - 1 - i then _ else _) _ _ _; rw [if_neg (by rw [rest]; omega)]
  show wpAny _ _ (newList ((items.toList.drop i).take ((items.toList.drop i).length - (n - 1 - i))) >>= fun d => pure (items.toList.take i ++ [d] ++ (items.toList.drop i).drop ((items.toList.drop i).length - (n - 1 - i)))) _ _ _
  rw [show (items.toList.drop i).length - (n - 1 - i) = items.size + 1 - n by rw [rest]; omega]
  refine wpAny_bind (wpAny_newList (wpAny_pure (go h₂ tk fun b o z => old b o (Nat.ne_of_lt (Heap.lt_size z)) (sb1.extBut b o (Nat.ne_of_lt (Heap.lt_size z)) (Heap.get?_push_of_some _ z)))) (by rw [List.length_take, rest, sizeLine_eq]; omega))
end
section
variable {X : Cx} {pos : Pos}
/-- (a, *b) = a tuple: the first item, a new list of the others -/
def gStarT (K : PySem.W.Frag) (t : TGs) : TG := fun v σ H Q => ∃ (a : Addr) (x : V) (xs : List V), v = .ref a ∧ SqT K H a (x :: xs) ∧ xs.length ≤ 16000 ∧ ∀ p, H p = none → t [x, .ref p] σ (upd H p (.lst xs)) Q
theorem pg_starT {es : List Expr} {k : Nat} {t : TGs} (calm : X.calm = true) (h : PGs X es t) (hn : (assignEach es X.env).length = 2 := by rfl) (hst : (assignEach es X.env).findIdx? (·.1) = some 1 := by rfl) : PG X (.Tuple es k pos) (gStarT X.K t) := by
  refine ⟨fun pins s σ H v u Q I r hw => ?_⟩
  obtain ⟨a, x, xs, rfl, sq, few, go⟩ := hw
  cases r
  obtain ⟨its, rv, isT, _⟩ := I.tuple sq
  cases rv with
  | @cons _ v0 _ vs r0 rr =>
    have lv := rr.length
    rw [assign_Tuple]
    refine wpAny_bind (wpAny_standAt ?_)
    unfold unpack
    rw [hn, hst]
    refine wpAny_bind (wpAny_holding (unpack_starT isT (I.ok.hd calm) (by decide) (by simp) (by simp; omega) fun h' tk old => ?_))
    have J : Inv X pins σ H { s with heap := h', toks := tk } := I.kept old
    have big : (20000 : Nat) ≤ sizeLine := by decide
    have K1 : Inv X pins σ (upd H h'.objs.size (.lst xs)) { s with heap := h'.push (seqObj "list" vs.toArray 0), toks := tk } :=
      J.laid (t' := tk) (fun b o z => Heap.get?_push_of_some _ z) (Nat.le_refl _) ⟨by omega, vs, 0, rr, Heap.get?_push_size _ rfl⟩
    have e1 : ((v0 :: vs).toArray.toList.drop 1).take ((v0 :: vs).toArray.size + 1 - 2) = vs := by simp
    have e2 : (v0 :: vs).toArray.toList.take 1 ++ [Value.ref h'.objs.size] ++ ((v0 :: vs).toArray.toList.drop 1).drop ((v0 :: vs).toArray.size + 1 - 2) = [v0, .ref h'.objs.size] := by simp
    rw [e1, e2]
    exact h.run pins _ σ _ [x, .ref h'.objs.size] _ Q K1 (.cons r0 (.cons rfl .nil)) (go _ (J.hok.fresh (Nat.le_refl _)))
end
end Rp

set_option maxHeartbeats 16000000
/-! ATOMs, SAYINGs where they stand; the law's names. -/
namespace Rp
open PySem PySem.Spec PyProof.Rows L2 TL StX
theorem join1 (a x : Str) : Txt.join a [x] = x := by rw [TL.join_eq]; simp [Str.join]
theorem join2 (a x y : Str) : Txt.join a [x, y] = x ++ a ++ y := by rw [TL.join_eq]; simp [Str.join]
theorem slen (a b : Str) : (a ++ b).length = a.length + b.length := Str.length_append a b
theorem tm_ok : ∀ t : Tm, (tmD t).canLay0 = true ∧ (tmD t).depth ≤ t.deep + 1 ∧ nd (tmD t) ≤ 2 * t.size
  | .v n => ⟨rfl, by simp [tmD, PyData.depth], by simp [tmD, nd, Tm.size]⟩
  | .z => ⟨by decide +kernel, by simp [tmD, PyData.depth, PyData.depthAll], by simp [tmD, nd, ndAll, Tm.size]⟩
  | .s t => by
    have ih := tm_ok t
    have a : PyData.canLay0 (.str "s") = true := by decide +kernel
    refine ⟨?_, ?_, ?_⟩
    · simp only [tmD, PyData.canLay0, PyData.canLayAll0, Bool.and_true, Bool.and_eq_true]; exact ⟨by simpa [PyData.canLay0] using a, ih.1⟩
    · simp only [tmD, PyData.depth, PyData.depthAll, Tm.deep]; omega
    · simp only [tmD, nd, ndAll, Tm.size]; omega
  | .f l r => by
    have ih := tm_ok l
    have ih2 := tm_ok r
    have a : PyData.canLay0 (.str "f") = true := by decide +kernel
    refine ⟨?_, ?_, ?_⟩
    · simp only [tmD, PyData.canLay0, PyData.canLayAll0, Bool.and_true, Bool.and_eq_true]; exact ⟨by simpa [PyData.canLay0] using a, ih.1, ih2.1⟩
    · simp only [tmD, PyData.depth, PyData.depthAll, Tm.deep]; omega
    · simp only [tmD, nd, ndAll, Tm.size]; omega
theorem atAt_same {H H' : Hp} {v : V} {a : At} (h : AtAt H v a) (s : Same H H') : AtAt H' v a := by
  obtain ⟨p, xs, e, h1, h2⟩ := h
  exact ⟨p, xs, e, s _ _ h1, h2.mono fun b zs z => s _ _ z⟩
def AtsAt (H : Hp) : List V → List At → Prop
  | [], [] => True
  | v :: xs, a :: as => AtAt H v a ∧ AtsAt H xs as
  | _, _ => False
theorem AtsAt.len {H : Hp} : ∀ {xs : List V} {as : List At}, AtsAt H xs as → xs.length = as.length
  | [], [], _ => rfl
  | _ :: _, _ :: _, h => congrArg (· + 1) (AtsAt.len h.2)
theorem AtsAt.same {H H' : Hp} (s : Same H H') : ∀ {xs : List V} {as : List At}, AtsAt H xs as → AtsAt H' xs as
  | [], [], _ => trivial
  | _ :: _, _ :: _, h => ⟨atAt_same h.1 s, AtsAt.same s h.2⟩
theorem AtsAt.get {H : Hp} : ∀ {xs : List V} {as : List At} {i : Nat} {x : V}, AtsAt H xs as → xs[i]? = some x → ∃ a, as[i]? = some a ∧ AtAt H x a
  | v :: xs, a :: as, 0, x, h, e => ⟨a, rfl, by have : v = x := by simpa using e
                                                subst this; exact h.1⟩
  | _ :: xs, _ :: as, i + 1, x, h, e => by simpa using AtsAt.get h.2 (by simpa using e)
theorem AtsAt.append {H : Hp} : ∀ {xs ys : List V} {as bs : List At}, AtsAt H xs as → AtsAt H ys bs → AtsAt H (xs ++ ys) (as ++ bs)
  | [], _, [], _, _, h => h
  | _ :: xs, _, _ :: as, _, h, h' => ⟨h.1, AtsAt.append h.2 h'⟩
structure AtsOk (as : List At) : Prop where
  few : as.length ≤ 6
  ok : ∀ a ∈ as, AtOk 50 a
theorem atAt_mono {H H' : Hp} (e : ∀ a xs, H a = some (.tup xs) → H' a = some (.tup xs)) {v : V} {a : At} (h : AtAt H v a) : AtAt H' v a := by
  obtain ⟨p, xs, r, h1, h2⟩ := h
  exact ⟨p, xs, r, e _ _ h1, h2.mono e⟩
theorem AtsAt.mono {H H' : Hp} (e : ∀ a xs, H a = some (.tup xs) → H' a = some (.tup xs)) : ∀ {xs : List V} {as : List At}, AtsAt H xs as → AtsAt H' xs as
  | [], [], _ => trivial
  | _ :: _, _ :: _, h => ⟨atAt_mono e h.1, AtsAt.mono e h.2⟩
theorem all_dp {K : PySem.W.Frag} {H : Hp} : ∀ {xs : List V} {ts : List Tm}, AllAt H xs ts → DpAll K H xs (ts.map tmD)
  | [], [], _ => .nil
  | _ :: _, _ :: _, h => .cons (h.1.dat (b := (0 : Nat))).dp (all_dp h.2)
theorem at_dp {K : PySem.W.Frag} {H : Hp} {v : V} {a : At} (h : AtAt H v a) : Dp K H v (atD a) := by
  obtain ⟨p, xs, rfl, h1, h2⟩ := h
  exact .tup (.inl (.inl h1)) (.cons (.str _) (all_dp h2))
theorem ats_dp {K : PySem.W.Frag} {H : Hp} : ∀ {xs : List V} {as : List At}, AtsAt H xs as → DpAll K H xs (as.map atD)
  | [], [], _ => .nil
  | _ :: _, _ :: _, h => .cons (at_dp h.1) (ats_dp h.2)
theorem name_lay {x : Str} (h : NameOk x) : PyData.canLay0 (.str x) = true := by
  show x.cps.all (· < 0x110000) = true
  rw [Array.all_eq_true']
  intro c hc
  have := h.low c (Array.mem_toList_iff.mpr hc)
  exact decide_eq_true (by omega)
theorem tms_lay : ∀ {ts : List Tm}, (∀ t ∈ ts, t.size ≤ 50) → PyData.canLayAll0 (ts.map tmD) = true ∧ PyData.depthAll (ts.map tmD) ≤ 51
  | [], _ => ⟨rfl, by decide⟩
  | t :: ts, h => by
    have ih := tms_lay (ts := ts) fun u hu => h u (by simp [hu])
    have d1 := Tm.deep_lt t
    have z := h t (by simp)
    obtain ⟨c1, c2, _⟩ : (tmD t).canLay0 = true ∧ (tmD t).depth ≤ t.deep + 1 ∧ nd (tmD t) ≤ 2 * t.size := tm_ok t
    simp only [List.map_cons, PyData.canLayAll0, PyData.depthAll, c1, ih.1]
    exact ⟨rfl, by omega⟩
theorem at_lay {a : At} (ok : AtOk 50 a) : (atD a).canLay0 = true ∧ (atD a).depth ≤ 52 := by
  have h := tms_lay (ts := a.ts) fun t ht => (ok.sm t ht).2
  refine ⟨?_, ?_⟩
  · show PyData.canLayAll0 (.str a.nm :: a.ts.map tmD) = true
    simp only [PyData.canLayAll0, name_lay ok.nm, h.1]
    rfl
  · show PyData.depthAll (.str a.nm :: a.ts.map tmD) + 1 ≤ 52
    simp only [PyData.depthAll, PyData.depth]
    omega
theorem ats_lay : ∀ {as : List At}, (∀ a ∈ as, AtOk 50 a) → PyData.canLayAll0 (as.map atD) = true ∧ PyData.depthAll (as.map atD) ≤ 52
  | [], _ => ⟨rfl, by decide⟩
  | a :: as, h => by
    have ih := ats_lay (as := as) fun b hb => h b (by simp [hb])
    have z := at_lay (h a (by simp))
    simp only [List.map_cons, PyData.canLayAll0, PyData.depthAll, z.1, ih.1]
    exact ⟨rfl, by omega⟩
theorem ats_shaped {as : List At} (h : ∀ a ∈ as, AtOk 50 a) : SeqAt.shaped (.list (as.map atD)) = true := by
  have z := ats_lay h
  refine shaped_of ?_ ?_
  · show PyData.canLayAll0 _ = true
    exact z.1
  · show PyData.depthAll _ + 1 ≤ 64
    omega
theorem at_shaped {a : At} (h : AtOk 50 a) : SeqAt.shaped (atD a) = true := shaped_of (at_lay h).1 (by have := (at_lay h).2; omega)
theorem notin_ats {as : List At} {a : At} (h : a ∉ as) : (as.map atD).any (fun z => PyData.eqv z (atD a)) = false := by rw [in_ats, decide_eq_false h]
theorem AtOk.more {z y : Nat} {a : At} (h : AtOk z a) (le : z ≤ y) : AtOk y a := ⟨h.nm, h.one, h.two, fun t ht => ⟨(h.sm t ht).1, Nat.le_trans (h.sm t ht).2 le⟩⟩
theorem unl_nd (as : List At) : (unl as).Nodup := by
  have all : ∀ (as acc : List At), acc.Nodup → (unlG acc as).Nodup := by
    intro as
    induction as with
    | nil => intro acc h; exact h
    | cons a as ih =>
      intro acc h
      have e : unlG acc (a :: as) = unlG (if a ∈ acc then acc else acc ++ [a]) as := rfl
      rw [e]
      by_cases m : a ∈ acc
      · rw [if_pos m]; exact ih _ h
      · rw [if_neg m]
        refine ih _ (List.nodup_append.mpr ⟨h, by simp, fun x hx y hy e' => ?_⟩)
        obtain rfl : y = a := by simpa using hy
        exact m (e' ▸ hx)
  exact all as [] (by simp)
structure Sy where
  hs : List At
  gl : At
def SyAt (H : Hp) (v : V) (s : Sy) : Prop := ∃ (p q : Addr) (vg : V) (xs : List V), v = .ref p ∧ H p = some (.tup [.ref q, vg]) ∧ H q = some (.tup xs) ∧ AtsAt H xs s.hs ∧ AtAt H vg s.gl
structure SyOk (s : Sy) : Prop where
  hs : AtsOk s.hs
  nd : s.hs.Nodup
  gl : AtOk 50 s.gl
theorem syAt_mono {H H' : Hp} (e : ∀ a xs, H a = some (.tup xs) → H' a = some (.tup xs)) {v : V} {s : Sy} (h : SyAt H v s) : SyAt H' v s := by
  obtain ⟨p, q, vg, xs, rfl, h1, h2, h3, h4⟩ := h
  exact ⟨p, q, vg, xs, rfl, e _ _ h1, e _ _ h2, h3.mono e, atAt_mono e h4⟩
theorem SyAt.same {H H' : Hp} {v : V} {s : Sy} (h : SyAt H v s) (e : Same H H') : SyAt H' v s := syAt_mono (fun a xs z => e _ _ z) h
theorem cut_to {xs : List V} (n : Nat) : cutV xs none (some (n : Int)) = xs.take n := by
  unfold cutV
  rw [HT.sIx_none, HT.sIx_nat, List.drop_zero, Nat.sub_zero]
  rcases Nat.le_total n xs.length with h | h
  · rw [Nat.min_eq_left h]
  · rw [Nat.min_eq_right h, List.take_length, List.take_of_length_le h]
theorem cut_mid {xs : List V} (n m : Nat) : ∃ a b, cutV xs (some (n : Int)) (some (m : Int)) = (xs.drop (min n xs.length)).take b ∧ a = b := ⟨_, _, by unfold cutV; rw [HT.sIx_nat, HT.sIx_nat], rfl⟩
theorem eqv_lnil {ds : List PyData} : PyData.eqv (.list ds) (.list []) = ds.isEmpty := by
  cases ds <;> simp [PyData.eqv, PyData.eqvAll]
theorem ixN_int {n : Nat} {i : Int} (h : 0 ≤ i ∧ i < n) : ixN n i = some i.toNat := by unfold ixN; rw [if_pos h.1, if_pos h.2]
theorem but_none {H H' : Hp} {b : Addr} {j : Nat} (o : But b H H') (B : BoxAt H' b j) {D : Addr} (h : H' D = none) : H D = none := by
  cases e : H D with
  | none => rfl
  | some u =>
    have nb : D ≠ b := by
      rintro rfl
      obtain ⟨ys, hb⟩ := B.some
      rw [hb] at h; cases h
    have := o _ _ e nb
    rw [h] at this; cases this
theorem BoxAt.upd {H : Hp} {b D : Addr} {j : Nat} (B : BoxAt H b j) (n : D ≠ b) (o : HO) : BoxAt (L2.upd H D o) b j := by
  obtain ⟨x, y, z, h, r⟩ := B.ex
  exact ⟨x, y, z, by rw [upd_ne n.symm]; exact h, r⟩
def Low (x : Str) : Prop := ∀ c ∈ tl x, 97 ≤ c ∧ c ≤ 122
theorem low_cut {z : Str} (h : Low z) (lo hi : Option Int) : Low (cutS z lo hi) := by
  intro c hc
  have hc : c ∈ (z.cps.toList.drop (HT.sIx z.length 0 lo)).take (HT.sIx z.length z.length hi - HT.sIx z.length 0 lo) := hc
  exact h c (List.mem_of_mem_drop (List.mem_of_mem_take hc))
theorem cutS_parts {z : Str} {k : Nat} (h : k ≤ z.length) : (cutS z none (some (k : Int))).length = k ∧ (cutS z (some (k : Int)) none).length = z.length - k := by
  have e : z.cps.toList.length = z.length := Array.length_toList
  constructor
  · show (((z.cps.toList.drop (HT.sIx z.length 0 none)).take (HT.sIx z.length z.length (some (k : Int)) - HT.sIx z.length 0 none)).toArray).size = k
    rw [List.size_toArray, HT.sIx_none, HT.sIx_nat, List.length_take, List.length_drop, e]
    omega
  · show (((z.cps.toList.drop (HT.sIx z.length 0 (some (k : Int)))).take (HT.sIx z.length z.length none - HT.sIx z.length 0 (some (k : Int)))).toArray).size = _
    rw [List.size_toArray, HT.sIx_none, HT.sIx_nat, List.length_take, List.length_drop, e]
    omega
theorem low_append {a b : Str} (ha : Low a) (hb : Low b) : Low (a ++ b) := by
  intro c hc
  rw [tl_append] at hc
  rcases List.mem_append.mp hc with hc | hc
  · exact ha c hc
  · exact hb c hc
theorem low_one {c : Nat} (h : 97 ≤ c ∧ c ≤ 122) : Low ⟨#[c]⟩ := by
  intro d hd
  have hd : d ∈ [c] := hd
  simp at hd
  omega
theorem low_join : ∀ ys : List Str, (∀ y ∈ ys, y.length = 1 ∧ Low y) → (Txt.join "" ys).length = ys.length ∧ Low (Txt.join "" ys)
  | [], _ => ⟨by decide +kernel, fun c hc => by have : tl (Txt.join "" []) = [] := by decide +kernel
                                                rw [this] at hc; simp at hc⟩
  | [x], h => by rw [join1]; exact h x (by simp)
  | x :: y :: l, h => by
    have ih := low_join (y :: l) fun z hz => h z (by simp at hz ⊢; exact .inr hz)
    have hx := h x (by simp)
    rw [TL.join_eq] at ih ⊢
    have e0 : ("" : Str).length = 0 := by decide +kernel
    have le : Low ("" : Str) := fun c hc => by have : tl ("" : Str) = [] := by decide +kernel
                                               rw [this] at hc; simp at hc
    refine ⟨?_, low_append (low_append hx.2 le) ih.2⟩
    show (x ++ "" ++ Str.join "" (y :: l)).length = _
    rw [slen, slen, e0, hx.1, ih.1]
    simp only [List.length_cons]
    omega
theorem letter_at {i : Int} (h : 0 ≤ i ∧ i < 26) : ∃ c, atI letters.cps.toList i = some c ∧ (97 ≤ c ∧ c ≤ 122) ∧ (c : Int) = 97 + i := by
  have all : ∀ k : Fin 26, atI letters.cps.toList (k.val : Int) = some (97 + k.val) := by decide +kernel
  obtain ⟨k, rfl⟩ := Int.eq_ofNat_of_zero_le h.1
  exact ⟨_, all ⟨k, by omega⟩, ⟨by show 97 ≤ 97 + k; omega, by show 97 + k ≤ 122; omega⟩, by show ((97 + k : Nat) : Int) = _; omega⟩
/-- words alike but for one sign -/
def Named (pre post : Str) (r d : Int) (ws : List Str) : Prop := ∀ (x : Str) (k : Nat), ws[k]? = some x → ∃ c : Nat, x = pre ++ ⟨#[c]⟩ ++ post ∧ (c : Int) = 97 + (r + d * (k : Int)) % 26
theorem Named.snoc {pre post : Str} {r d : Int} {ws : List Str} (h : Named pre post r d ws) {y : Str} (hy : ∃ c : Nat, y = pre ++ ⟨#[c]⟩ ++ post ∧ (c : Int) = 97 + (r + d * (ws.length : Int)) % 26) : Named pre post r d (ws ++ [y]) := by
  intro x k hx
  by_cases hk : k < ws.length
  · rw [List.getElem?_append_left hk] at hx
    exact h x k hx
  · rw [List.getElem?_append_right (by omega)] at hx
    by_cases e : k = ws.length
    · subst e
      simp at hx
      subst hx
      exact hy
    · rw [List.getElem?_eq_none (by simp; omega)] at hx
      cases hx
theorem Named.len {pre post : Str} {r d : Int} {ws : List Str} (h : Named pre post r d ws) : ∀ x ∈ ws, x.length = pre.length + 1 + post.length := by
  intro x hx
  obtain ⟨k, hk, rfl⟩ := List.getElem_of_mem hx
  obtain ⟨c, e, _⟩ := h _ k (List.getElem?_eq_getElem hk)
  rw [e, slen, slen]
  rfl
theorem Named.nodup {pre post : Str} {r d : Int} {ws : List Str} (h : Named pre post r d ws) (w4 : ws.length ≤ 4) (hd : d = 1 ∨ d = 3 ∨ d = 7 ∨ d = 25) : ws.Nodup := by
  refine List.pairwise_iff_getElem.mpr fun i j hi hj lt e => ?_
  obtain ⟨c, e1, c1⟩ := h _ i (List.getElem?_eq_getElem hi)
  obtain ⟨c', e2, c2⟩ := h _ j (List.getElem?_eq_getElem hj)
  rw [e1, e2] at e
  have e := congrArg tl e
  simp only [tl_append, List.append_assoc] at e
  have e := List.append_cancel_left e
  have cc : c = c' := by
    have t1 : tl (⟨#[c]⟩ : Str) = [c] := rfl
    have t2 : tl (⟨#[c']⟩ : Str) = [c'] := rfl
    rw [t1, t2] at e
    simpa using e
  subst cc
  rw [c1] at c2
  have j4 : j = 1 ∨ j = 2 ∨ j = 3 := by omega
  have i4 : i = 0 ∨ i = 1 ∨ i = 2 := by omega
  rcases hd with rfl | rfl | rfl | rfl <;> omega
theorem iff_nodup {ws : List Str} (h : ws.Nodup) (l : ∀ x ∈ ws, ∀ y ∈ ws, x.length = y.length) : (ws.map fun x : Str => if x = ("if" : Str) then ("iff" : Str) else x).Nodup := by
  refine List.pairwise_map.mpr ?_
  refine List.Pairwise.imp_of_mem (R := (· ≠ ·)) (fun {a b} ha hb ne e => ?_) h
  have l2 : ("if" : Str).length = 2 := by decide +kernel
  have l3 : ("iff" : Str).length = 3 := by decide +kernel
  have lab := l a ha b hb
  by_cases h1 : a = ("if" : Str)
  · by_cases h2 : b = ("if" : Str)
    · exact ne (h1.trans h2.symm)
    · simp only [if_pos h1, if_neg h2] at e
      rw [← e, h1] at lab
      omega
  · by_cases h2 : b = ("if" : Str)
    · simp only [if_neg h1, if_pos h2] at e
      rw [e, h2] at lab
      omega
    · simp only [if_neg h1, if_neg h2] at e
      exact ne e
def spWords : Sp := fun vs H Q _ => ∃ (b : Addr) (j n : Nat), vs = [.ref b, .int (n : Nat)] ∧ 1 ≤ n ∧ n ≤ 4 ∧ BoxAt H b j ∧ j + 10 ≤ 1000000 ∧
  ∀ (p : Addr) (ws : List Str) (H' : Hp), H p = none → H' p = some (.lst (ws.map V.str)) → ws.length = n → (∀ x ∈ ws, NameOk x) → ws.Nodup → BoxAt H' b (j + 10) → But b H H' → Q (.ref p) H'
def rMod : R2 := rI (fun _ j => 0 < j) fun i j => .int (i % j)
def rMulI : R2 := rI CMul fun i j => .int (i * j)
def rAddI : R2 := rI0 fun i j => .int (i + j)
def rAddS : R2 := fun x y H Q => ∃ i j, x = .str i ∧ y = .str j ∧ i.length + j.length ≤ sizeLine ∧ Q (.str (i ++ j)) H
theorem op_modP {X : Cx} : OpR X (binaryOp .Mod) rMod := op_mod
theorem op_mulI {X : Cx} : OpR X (binaryOp .Mult) rMulI := op_mul
theorem op_addI {X : Cx} : OpR X (binaryOp .Add) rAddI := op_add
theorem op_addS {X : Cx} : OpR X (binaryOp .Add) rAddS := op_add_str
def teLetter : TE := tOp rIxS (tVar 2) (tCall spTake [] E0 (tCons (tVar 0) (tCons (tC (.int 26)) tNil)))
def teName : TE := tOp rAddS (tOp rAddS (tSl rSlS (tVar 5) tNoPart (tPart (tVar 6))) (tOp rIxS (tVar 2) (tOp rMod (tOp rAddI (tVar 3) (tOp rMulI (tVar 4) (tVar 8))) (tC (.int 26))))) (tSl rSlS (tVar 5) (tPart (tVar 6)) tNoPart)
def teIff : TE := tIf (tTest (tOp rEq (tVar 9) (tC (.str "if")))) (tC (.str "iff")) (tVar 9)
theorem TmAt.box {H H' : Hp} {b : Addr} {v : V} {t : Tm} {j : Nat} (T : TmAt H v t) (o : But b H H') (B : BoxAt H b j) : TmAt H' v t := by
  obtain ⟨ys, hb⟩ := B.some
  exact T.mono fun a xs z => o _ _ z (ne_of z hb (by intro e; cases e))
theorem AtAt.box {H H' : Hp} {b : Addr} {v : V} {a : At} {j : Nat} (T : AtAt H v a) (o : But b H H') (B : BoxAt H b j) : AtAt H' v a := by
  obtain ⟨ys, hb⟩ := B.some
  exact atAt_mono (fun a xs z => o _ _ z (ne_of z hb (by intro e; cases e))) T
theorem AtsAt.box {H H' : Hp} {b : Addr} {xs : List V} {as : List At} {j : Nat} (T : AtsAt H xs as) (o : But b H H') (B : BoxAt H b j) : AtsAt H' xs as := by
  obtain ⟨ys, hb⟩ := B.some
  exact T.mono fun a xs z => o _ _ z (ne_of z hb (by intro e; cases e))
section
variable {P : Program} {w : World} {K : PySem.W.Frag} {mg : Str → Option Value} {base : Heap}
abbrev NW : List Str := ["_law_box_here", "_law_count", "_law_letters", "_law_begun", "_law_by", "_law_tail", "_law_at", "_law_found", "_law_k", "_law_name"]
theorem scWords : FnScope NW ["_law_box_here", "_law_count"] (defScope sNames) := ⟨rfl, rfl, rfl, by decide +kernel, rfl, by decide +kernel, by decide +kernel⟩
theorem ok_words {f fT : Addr} {fd fdT : FuncData} (F : Fun K "_law_names" "_law_names" sNames f fd) (FT : Fun K "_law_take" "_law_take" sTake fT fdT) (bT : Binds K fdT ["_law_box_here", "_law_reach"] []) (mT : mg "_law_take" = some (.ref fT))
    (mRange : mg "range" = none) (mLen : mg "len" = none) : FnOk P w K mg base CX0 2 f fd ["_law_box_here", "_law_count"] spWords := by
  have GT : FnOk P w K mg base CX0 1 fT fdT ["_law_box_here", "_law_reach"] spTake := ok_take FT
  refine F.ok scWords (fun vs H Q E h => ?_) (fun cdv A outer s H vs Q E hr h => ?_)
  · obtain ⟨b, j, n, rfl, _⟩ := h
    rfl
  obtain ⟨b, j, n, rfl, n1, n4, B, hj, q⟩ := h
  refine ⟨_, pss_cons (ps_asg (pe_tup (pa_cons pe_str (pa_cons (pe_call GT hr (by rfl) mT FT.kp bT .nil pass0 (pa_cons (pv 0) (pa_cons pe_int pa_nil))) (pa_cons (pe_ix ix_list (pe_lst (pa_cons pe_int (pa_cons pe_int (pa_cons pe_int (pa_cons pe_int pa_nil))))) (pe_call GT hr (by rfl) mT FT.kp bT .nil pass0 (pa_cons (pv 0) (pa_cons pe_int pa_nil))) (fun _ _ => rfl)) pa_nil))))
      (pg_tup (by rfl) (pgs_cons (pg_name (i := 2) scWords.nd rfl (Or.inr rfl)) (pgs_cons (pg_name (i := 3) scWords.nd rfl (Or.inr rfl)) (pgs_cons (pg_name (i := 4) scWords.nd rfl (Or.inr rfl)) pgs_nil)))))
    (pss_cons (ps_set (i := 5) scWords.nd rfl (Or.inr rfl) (pe_bm PySem.F.plainAttrs_str PySem.F.slot_str_join PySem.F.type_str_join mt_join pe_str (pa_cons
      (pe_lc (own := [("_law_k", 8)]) (g := gName 8) (tt := tYes) (te := teLetter) rfl scWords.nd (pi_range1 (by rfl) mRange (pa_cons (pe_call GT hr (by rfl) mT FT.kp bT .nil pass0 (pa_cons (pv 0) (pa_cons pe_int pa_nil))) pa_nil))
        (blkOk_by (N := NW) (sc := defScope sNames) (by decide +kernel)) (fun _ _ _ _ _ => pg_name (i := 8) scWords.nd rfl (Or.inl rfl)) (fun _ _ _ _ _ => pts_nil)
        (fun _ _ _ _ _ => pe_ix ix_str (pv 2) (pe_call GT hr (by rfl) mT FT.kp bT .nil pass0 (pa_cons (pv 0) (pa_cons pe_int pa_nil))) (fun _ _ => rfl))) pa_nil)))
    (pss_cons (ps_set (i := 6) scWords.nd rfl (Or.inr rfl) (pe_call GT hr (by rfl) mT FT.kp bT .nil pass0 (pa_cons (pv 0) (pa_cons (pe_op op_addI (pe_callB call_len_str (by rfl) mLen PySem.boot_len (pa_cons (pv 5) pa_nil)) pe_int) pa_nil))))
    (pss_cons (ps_setLc (i := 7) (own := [("_law_k", 8)]) (g := gName 8) (tt := tYes) (te := teName) rfl scWords.nd rfl rfl (by rfl) (pi_range1 (by rfl) mRange (pa_cons (pv 1) pa_nil))
        (blkOk_by (N := NW) (sc := defScope sNames) (by decide +kernel)) (fun _ _ _ _ _ => pg_name (i := 8) scWords.nd rfl (Or.inl rfl)) (fun _ _ _ _ _ => pts_nil)
        (fun _ _ _ _ _ => pe_op op_addS (pe_op op_addS (pe_slice sl_str (pv 5) po_none (po_some (pv 6))) (pe_ix ix_str (pv 2) (pe_op op_modP (pe_op op_addI (pv 3) (pe_op op_mulI (pv 4) (pv 8))) pe_int) (fun _ _ => rfl))) (pe_slice sl_str (pv 5) (po_some (pv 6)) po_none)))
    (pss_one (ps_ret (pe_lc (own := [("_law_name", 9)]) (g := gName 9) (tt := tYes) (te := teIff) rfl scWords.nd (pi_list (pv 7))
        (blkOk_by (N := NW) (sc := defScope sNames) (by decide +kernel)) (fun _ _ _ _ _ => pg_name (i := 9) scWords.nd rfl (Or.inl rfl)) (fun _ _ _ _ _ => pts_nil)
        (fun _ _ _ _ _ => pe_ifExp (pt_cmpR op_eq (pv 9) pe_str (nomark _)) pe_str (pv 9)))))))), ?_⟩
  have big : (10000 : Nat) ≤ sizeLine := by decide
  have l0 : ("" : Str).length = 0 := by decide +kernel
  have ll : letters.length = 26 := by decide +kernel
  refine ⟨_, rfl, b, _, j, rfl, B, by omega, by decide, by decide, fun r1 H1 a0 a1 B1 o1 => ?_⟩
  refine ⟨(by show 4 ≤ sizeLine; decide), fun d hd => ?_⟩
  have s2 := same_new hd (.lst [V.int 1, V.int 3, V.int 7, V.int 25])
  refine ⟨_, rfl, b, _, _, rfl, B1.same s2, by omega, by decide, by decide, fun r2 H3 b0 b1 B3 o3 => ?_⟩
  obtain ⟨y1, hb1⟩ := B1.some
  have db : d ≠ b := (ne_of_none hb1 hd).symm
  have hd3 := o3 _ _ upd_same db
  obtain ⟨by_, hat, hby⟩ : ∃ n : Int, atI [V.int 1, V.int 3, V.int 7, V.int 25] r2 = some (.int n) ∧ (n = 1 ∨ n = 3 ∨ n = 7 ∨ n = 25) := by
    rcases (by omega : r2 = 0 ∨ r2 = 1 ∨ r2 = 2 ∨ r2 = 3) with e | e | e | e <;> subst e
    · exact ⟨_, at_of (j := 0) rfl rfl, by omega⟩
    · exact ⟨_, at_of (j := 1) rfl rfl, by omega⟩
    · exact ⟨_, at_of (j := 2) rfl rfl, by omega⟩
    · exact ⟨_, at_of (j := 3) rfl rfl, by omega⟩
  refine ⟨d, _, _, _, rfl, rfl, .inl (.inl hd3), hat, (by show 3 ≤ sizeLine; decide), fun t ht => ?_⟩
  have s4 := same_new ht (.tup [V.str letters, V.int r1, V.int by_])
  refine ⟨t, _, rfl, .inl (.inl upd_same), rfl, _, _, rfl, _, _, rfl, _, _, rfl, rfl, ?_⟩
  have B4 := B3.same s4
  refine ⟨rfl, _, rfl, b, _, _, rfl, B4, by omega, by decide, by decide, fun m3 H6 c0 c1 B6 o6 => ?_⟩
  have o06 : But b H H6 := o1.trans ((but_of s2).trans (o3.trans ((but_of s4).trans o6)))
  refine ⟨_, rfl, by omega, by omega, fun D hD => lc_range (lo := 0) (fun i H7 => ∃ ys : List Str, H7 D = some (.lst (ys.map V.str)) ∧ ys.length = i ∧ (∀ y ∈ ys, y.length = 1 ∧ Low y) ∧ BoxAt H7 b (j + 3 + i) ∧ But b H H7)
    ⟨[], upd_same, rfl, by simp, (B6.same (same_new hD _)).more (by omega), o06.trans (but_of (same_new hD _))⟩ ?_ ?_⟩
  · rintro i H7 hi ⟨ys, h7, yl, yo, B7, o7⟩
    have Db : D ≠ b := by
      obtain ⟨y6, hb6⟩ := B6.some
      exact (ne_of_none hb6 hD).symm
    refine ⟨rfl, ?_⟩
    unfold teLetter
    refine ⟨_, rfl, _, rfl, b, _, _, rfl, B7, by omega, by decide, by decide, fun r H8 d0 d1 B8 o8 => ?_⟩
    obtain ⟨c, hc, cl, _⟩ := letter_at ⟨d0, d1⟩
    refine ⟨letters, _, c, rfl, rfl, by omega, hc, ys.map V.str, o8 _ _ h7 Db, by rw [List.length_map]; omega, ys ++ [⟨#[c]⟩], ?_, by simp [yl], ?_, (B8.upd Db _).more (by omega), ?_⟩
    · rw [upd_same, List.map_append]; rfl
    · intro y hy
      rcases List.mem_append.mp hy with hy | hy
      · exact yo y hy
      · obtain rfl : y = ⟨#[c]⟩ := by simpa using hy
        exact ⟨rfl, low_one cl⟩
    · intro x o z nb
      have xD : x ≠ D := ne_of_none z (but_none o06 B6 hD)
      rw [upd_ne xD]
      exact o8 _ _ (o7 _ _ z nb) nb
  · rintro H7 ⟨ys, h7, yl, yo, B7, o7⟩
    obtain ⟨jl, jw⟩ := low_join ys yo
    have sum1 : ∀ zs : List Str, (∀ y ∈ zs, y.length = 1 ∧ Low y) → (zs.map (·.length)).sum = zs.length := by
      intro zs
      induction zs with
      | nil => intro _; rfl
      | cons z zs ih =>
        intro h
        rw [List.map_cons, List.sum_cons, ih fun y hy => h y (by simp [hy]), (h z (by simp)).1, List.length_cons]
        omega
    refine ⟨"", D, ys, rfl, rfl, .inl (.inl (.inl h7)), by rw [l0, sum1 ys yo]; omega, ?_⟩
    generalize Txt.join "" ys = tail at jl jw
    have tl5 : tail.length ≤ 5 := by omega
    refine ⟨_, rfl, _, rfl, tail, rfl, by omega, _, _, rfl, rfl, b, _, _, rfl, B7, by omega, by omega, by omega, fun r8 H8 e0 e1 B8 o8 => ?_⟩
    obtain ⟨k, rfl⟩ := Int.eq_ofNat_of_zero_le e0
    obtain ⟨p1, p2⟩ := cutS_parts (z := tail) (k := k) (by omega)
    have w1 := low_cut jw none (some (k : Int))
    have w2 := low_cut jw (some (k : Int)) none
    have o08 := o7.trans o8
    refine ⟨_, rfl, _, rfl, by omega, by omega, fun D2 hD2 => lc_range (lo := 0) (fun i H9 => ∃ ws : List Str, H9 D2 = some (.lst (ws.map V.str)) ∧ ws.length = i ∧ (∀ x ∈ ws, 1 ≤ x.length ∧ x.length ≤ 6 ∧ Low x) ∧ Named (cutS tail none (some (k : Int))) (cutS tail (some (k : Int)) none) r1 by_ ws ∧ Same H8 H9) ⟨[], upd_same, rfl, by simp, fun x i h => by simp at h, same_new hD2 _⟩ ?_ ?_⟩
    · rintro i H9 hi ⟨ws, h9, wl, wo, wn, s9⟩
      refine ⟨rfl, ?_⟩
      unfold teName
      have i4 : i < 4 := by omega
      obtain ⟨c, hc, cl, ce⟩ := letter_at (i := (r1 + by_ * (0 + (i : Int))) % 26) (by omega)
      have one : (⟨#[c]⟩ : Str).length = 1 := rfl
      refine ⟨_, rfl, _, rfl, (k : Int), rfl, tail, rfl, by omega, ?_⟩
      refine ⟨_, rfl, _, rfl, _, rfl, _, rfl, _, _, rfl, rfl, .inl ⟨by omega, by omega⟩, _, _, rfl, rfl, _, _, rfl, rfl, (by show (0 : Int) < 26; decide), letters, _, c, rfl, rfl, by omega, hc, ?_⟩
      refine ⟨_, _, rfl, rfl, by rw [p1, one]; omega, ?_⟩
      refine ⟨_, rfl, _, rfl, (k : Int), rfl, tail, rfl, by omega, ?_⟩
      refine ⟨_, _, rfl, rfl, by rw [slen, p1, p2, one]; omega, ?_⟩
      refine ⟨ws.map V.str, h9, by rw [List.length_map]; omega, ws ++ [cutS tail none (some (k : Int)) ++ ⟨#[c]⟩ ++ cutS tail (some (k : Int)) none], by rw [upd_same, List.map_append]; rfl, by simp [wl], ?_, wn.snoc ⟨c, rfl, by rw [ce, wl]; simp⟩, ?_⟩
      · intro x hx
        rcases List.mem_append.mp hx with hx | hx
        · exact wo x hx
        · obtain rfl : x = _ := List.mem_singleton.mp hx
          refine ⟨?_, ?_, low_append (low_append w1 (low_one cl)) w2⟩
          · rw [slen, slen, p1, p2, one]; omega
          · rw [slen, slen, p1, p2, one]; omega
      · intro x o z
        rw [upd_ne (ne_of_none z hD2)]
        exact s9 _ _ z
    · rintro H9 ⟨ws, h9, wl, wo, wn, s9⟩
      have wl4 : ws.length = n := by rw [wl]; omega
      refine ⟨_, rfl, D2, rfl, ⟨_, .inl (.inl h9)⟩, fun D3 hD3 => lc_list (K := K) (a := D2) (xs := ws.map V.str) (fun i H10 => H10 D3 = some (.lst (((ws.take i).map fun x : Str => if x = ("if" : Str) then ("iff" : Str) else x).map V.str)) ∧ Same H9 H10) ⟨upd_same, same_new hD3 _⟩ (fun i H10 _ h => .inl (.inl (h.2 _ _ h9))) ?_ ?_⟩
      · rintro i x H10 hi ⟨h10, s10⟩
        rw [List.getElem?_map] at hi
        obtain ⟨y, hy, rfl⟩ : ∃ y, ws[i]? = some y ∧ x = .str y := by
          cases hq : ws[i]? with
          | none => rw [hq] at hi; cases hi
          | some p => rw [hq] at hi; exact ⟨p, rfl, by simpa using hi.symm⟩
        have tk : ws.take (i + 1) = ws.take i ++ [y] := by rw [List.take_add_one, hy]; rfl
        refine ⟨rfl, ?_⟩
        unfold teIff
        have fin : ∀ z : Str, z = (if y = ("if" : Str) then ("iff" : Str) else y) → ∃ acc, H10 D3 = some (.lst acc) ∧ acc.length < sizeLine ∧ (upd H10 D3 (.lst (acc ++ [V.str z]))) D3 = some (.lst (((ws.take (i + 1)).map fun x : Str => if x = ("if" : Str) then ("iff" : Str) else x).map V.str)) ∧ Same H9 (upd H10 D3 (.lst (acc ++ [V.str z]))) := by
          rintro z rfl
          refine ⟨_, h10, ?_, ?_, ?_⟩
          · rw [List.length_map, List.length_map, List.length_take]; omega
          · rw [upd_same, tk, List.map_append, List.map_append]; rfl
          · intro x o z
            rw [upd_ne (ne_of_none z hD3)]
            exact s10 _ _ z
        by_cases hif : y = ("if" : Str)
        · exact ⟨_, rfl, rfl, true, congrArg V.bl (decide_eq_true (by rw [hif])), iteT (fin _ (if_pos hif).symm)⟩
        · exact ⟨_, rfl, rfl, false, congrArg V.bl (decide_eq_false fun z => hif (V.str.inj z)), iteF ⟨_, rfl, fin _ (if_neg hif).symm⟩⟩
      · rintro H10 ⟨h10, s10⟩
        rw [List.length_map, List.take_length] at h10
        have o09 : But b H H9 := o08.trans (but_of s9)
        refine q D3 _ H10 (but_none o09 (B8.same s9) hD3) h10 (by rw [List.length_map, wl4]) ?_ (iff_nodup (wn.nodup (by omega) hby) fun x hx y hy => by rw [wn.len x hx, wn.len y hy]) (((B8.same s9).same s10).more (by omega)) (o09.trans (but_of s10))
        intro x hx
        obtain ⟨y, hy, rfl⟩ := List.mem_map.mp hx
        by_cases hif : y = ("if" : Str)
        · rw [if_pos hif]
          exact ⟨by decide +kernel, by decide +kernel, by decide +kernel, by decide +kernel⟩
        · rw [if_neg hif]
          obtain ⟨g1, g2, g3⟩ := wo y hy
          exact ⟨g1, g2, g3, hif⟩
end
end Rp

set_option maxHeartbeats 16000000
/-! The law's terms; atoms without copies. -/
namespace Rp
open PySem PySem.Spec PyProof.Rows L2 TL StX
theorem dp_ints {K : PySem.W.Frag} {H : Hp} : ∀ l : List Int, DpAll K H (l.map V.int) (l.map PyData.int)
  | [] => .nil
  | n :: l => .cons (.int n) (dp_ints l)
theorem ints_shaped (l : List Int) : SeqAt.shaped (.list (l.map PyData.int)) = true := by
  have c : PyData.canLayAll0 (l.map PyData.int) = true := by
    induction l with
    | nil => rfl
    | cons a l ih => show (true && PyData.canLayAll0 (l.map PyData.int)) = true; rw [ih]; rfl
  have d : PyData.depthAll (l.map PyData.int) ≤ 1 := by
    induction l with
    | nil => decide
    | cons a l ih =>
      have := ih (by
        have c' : (true && PyData.canLayAll0 (l.map PyData.int)) = true := c
        simpa using c')
      simp only [List.map_cons, PyData.depthAll, PyData.depth]; omega
  refine shaped_of c ?_
  show PyData.depthAll _ + 1 ≤ 64
  omega
def spLTerm (n : Nat) : Sp := fun vs H Q _ => ∃ (b p : Addr) (ks : List Int) (j d : Nat), vs = [.ref b, .ref p, .int d] ∧ BoxAt H b j ∧ H p = some (.lst (ks.map V.int)) ∧ (∀ k ∈ ks, 0 ≤ k ∧ k ≤ 99) ∧ ks.length ≤ 200 ∧ p ≠ b ∧ d < n ∧ d ≤ 2 ∧ j + (4 * 2 ^ d - 1) ≤ 1000000 ∧
  ∀ (v : V) (t : Tm) (H' : Hp), TmAt H' v t → t.small → t.size + 1 ≤ 2 ^ (d + 1) → BoxAt H' b (j + (4 * 2 ^ d - 1)) → But b H H' → Q v H'
def spUnlikeL : Sp := fun vs H Q _ => ∃ (q : Addr) (xs : List V) (as : List At), vs = [.ref q] ∧ H q = some (.lst xs) ∧ AtsAt H xs as ∧ AtsOk as ∧
  ∀ (p : Addr) (ys : List V) (H' : Hp), H' p = some (.tup ys) → AtsAt H' ys (unl as) → Same H H' → Q (.ref p) H'
def teLeaf (K : PySem.W.Frag) : TE := tIf (tAnd (tTest (tOp (rNeD K) (tVar 1) (tLst tNil))) (tTest (tOp (rI0 fun i j => .bl (decide (j < i))) (tCall spTake [] E0 (tCons (tVar 0) (tCons (tC (.int 3)) tNil))) (tC (.int 0)))))
  (tCall spPick [] E0 (tCons (tVar 0) (tCons (tVar 1) tNil))) (tTup (tCons (tC (.str "0")) tNil))
theorem leaf_ok {K : PySem.W.Frag} {H : Hp} {b p : Addr} {ks : List Int} {j : Nat} {r : List (Option V)} {Q : V → Hp → Prop} (B : BoxAt H b j) (hp : H p = some (.lst (ks.map V.int))) (pk : ∀ k ∈ ks, 0 ≤ k ∧ k ≤ 99) (pl : ks.length ≤ 200) (pb : p ≠ b) (hj : j + 2 ≤ 1000000)
    (q : ∀ (v : V) (t : Tm) (H' : Hp), TmAt H' v t → t.small → t.size = 1 → BoxAt H' b (j + 2) → But b H H' → Q v H') : teLeaf K (some (.ref b) :: some (.ref p) :: r) H Q := by
  unfold teLeaf
  refine ⟨_, rfl, (by show 0 ≤ sizeLine; decide), fun l hl => ?_⟩
  have s1 := same_new hl (.lst ([] : List V))
  have B1 := B.same s1
  have hp1 := s1 _ _ hp
  refine ⟨.list (ks.map .int), .list [], .lst (.inl (.inl hp1)) (dp_ints ks), .lst (.inl (.inl upd_same)) .nil, ints_shaped _, ints_shaped [], !(ks.map PyData.int).isEmpty, congrArg (fun z => V.bl (!z)) eqv_lnil, ?_⟩
  generalize upd H l (.lst ([] : List V)) = H1 at s1 B1 hp1 ⊢
  have zero : ∀ (H2 : Hp) (j2 : Nat), BoxAt H2 b j2 → j2 ≤ j + 2 → But b H1 H2 → ∀ c, H2 c = none → Q (.ref c) (upd H2 c (.tup [V.str "0"])) := fun H2 j2 B2 le o2 c hc => by
    have s3 := same_new hc (.tup [V.str "0"])
    exact q (.ref c) .z _ (.z upd_same) (fun k hk => by simp [Tm.nums] at hk) rfl ((B2.same s3).more le) ((but_of s1).trans (o2.trans (but_of s3)))
  cases ks with
  | nil => exact iteF (iteF ⟨(by show 1 ≤ sizeLine; decide), fun c hc => zero H1 j B1 (by omega) (But.refl _ _) c hc⟩)
  | cons k0 ks =>
    refine iteT ?_
    refine ⟨_, rfl, b, _, j, rfl, B1, by omega, by decide, by decide, fun r3 H2 c0 c1 B2 o2 => ?_⟩
    have hp2 := o2 _ _ hp1 pb
    refine ⟨_, _, rfl, rfl, decide ((0 : Int) < r3), rfl, ?_⟩
    by_cases h3 : (0 : Int) < r3
    · rw [decide_eq_true h3]
      refine iteT ⟨_, rfl, _, rfl, b, p, _, _, rfl, B2, by omega, hp2, pb, by simp, by rw [List.length_map]; omega, fun v H3 hv B3 o3 => ?_⟩
      obtain ⟨m, hm, rfl⟩ := List.mem_map.mp hv
      have m9 := pk m hm
      exact q _ (.v m) H3 (.v m) (fun k hk => by simp [Tm.nums] at hk; subst hk; exact m9) rfl (B3.more (by omega)) ((but_of s1).trans (o2.trans o3))
    · rw [decide_eq_false h3]
      exact iteF ⟨(by show 1 ≤ sizeLine; decide), fun c hc => zero H2 _ B2 (by omega) o2 c hc⟩
section
variable {P : Program} {w : World} {K : PySem.W.Frag} {mg : Str → Option Value} {base : Heap}
abbrev NT : List Str := ["_law_box_here", "_law_pool", "_law_deep", "_law_way", "_law_one"]
theorem scLTerm : FnScope NT ["_law_box_here", "_law_pool", "_law_deep"] (defScope sTermL) := ⟨rfl, rfl, rfl, by decide +kernel, rfl, by decide +kernel, by decide +kernel⟩
theorem ok_lterm {n : Nat} {f fT fP : Addr} {fd fdT dP : FuncData} (F : Fun K "_law_term" "_law_term" sTermL f fd) (b2 : Binds K fd ["_law_box_here", "_law_pool", "_law_deep"] []) (mF : mg "_law_term" = some (.ref f))
    (G : FnOk P w K mg base CX0 (n + 2) f fd ["_law_box_here", "_law_pool", "_law_deep"] (spLTerm n))
    (GT : FnOk P w K mg base CX0 1 fT fdT ["_law_box_here", "_law_reach"] spTake) (kT : PySem.W.keepIn K (.ref fT) = true) (bT : Binds K fdT ["_law_box_here", "_law_reach"] []) (mT : mg "_law_take" = some (.ref fT))
    (GP : FnOk P w K mg base CX0 2 fP dP ["_law_box_here", "_law_things"] spPick) (kP : PySem.W.keepIn K (.ref fP) = true) (bP : Binds K dP ["_law_box_here", "_law_things"] []) (mP : mg "_law_pick" = some (.ref fP)) :
    FnOk P w K mg base CX0 (n + 3) f fd ["_law_box_here", "_law_pool", "_law_deep"] (spLTerm (n + 1)) := by
  refine F.ok scLTerm (fun vs H Q E h => ?_) (fun cdv A outer s H vs Q E hr h => ?_)
  · obtain ⟨b, p, ks, j, d, rfl, _⟩ := h
    rfl
  obtain ⟨b, p, ks, j, d, rfl, B, hp, pk, pl, pb, dn, d4, hj, q⟩ := h
  have r1 : Room 1 _ := hr.mono (by omega)
  have r2 : Room 2 _ := hr.mono (by omega)
  refine ⟨_, pss_cons (ps_set (i := 3) scLTerm.nd rfl (Or.inl rfl) (pe_call GT r1 rfl mT kT bT .nil pass0 (pa_cons (pv 0) (pa_cons pe_int pa_nil))))
    (pss_cons (ps_if (PW.pt (pw_or (pt_cmpR op_eq (pv 2) pe_int (nomark _)) (pw_or1 (pt_cmpR op_lt (pv 3) pe_int (nomark _))))) (pss_one (ps_ret (pe_ifExp (PW.pt (pw_and (pt_cmpR (op_neD hr.units) (pv 1) (pe_lst pa_nil) (nomark _))
        (pw_and1 (pt_cmpR op_gt (pe_call GT r1 rfl mT kT bT .nil pass0 (pa_cons (pv 0) (pa_cons pe_int pa_nil))) pe_int (nomark _)))))
        (pe_call GP r2 rfl mP kP bP .nil pass0 (pa_cons (pv 0) (pa_cons (pv 1) pa_nil))) (pe_tup (pa_cons pe_str pa_nil))))) pss_nil)
    (pss_cons (ps_if (pt_cmpR op_lt (pv 3) pe_int (nomark _)) (pss_one (ps_ret (pe_tup (pa_cons pe_str (pa_cons (pe_call G hr rfl mF F.kp b2 .nil pass0 (pa_cons (pv 0) (pa_cons (pv 1) (pa_cons (pe_op op_sub (pv 2) pe_int) pa_nil)))) pa_nil))))) pss_nil)
    (pss_cons (ps_set (i := 4) scLTerm.nd rfl (Or.inl rfl) (pe_call G hr rfl mF F.kp b2 .nil pass0 (pa_cons (pv 0) (pa_cons (pv 1) (pa_cons (pe_op op_sub (pv 2) pe_int) pa_nil)))))
    (pss_one (ps_ret (pe_tup (pa_cons pe_str (pa_cons (pv 4) (pa_cons (pe_call G hr rfl mF F.kp b2 .nil pass0 (pa_cons (pv 0) (pa_cons (pv 1) (pa_cons (pe_op op_sub (pv 2) pe_int) pa_nil)))) pa_nil))))))))), ?_⟩
  have p1 : 1 ≤ 2 ^ d := Nat.one_le_two_pow
  have p2 : 2 ^ (d + 1) = 2 * 2 ^ d := by rw [Nat.pow_succ]; omega
  refine ⟨_, rfl, b, _, j, rfl, B, by omega, by decide, by decide, fun way H1 w0 w5 B1 o1 => ?_⟩
  have hp1 := o1 _ _ hp pb
  by_cases h0 : d = 0
  · refine ⟨_, rfl, rfl, true, congrArg V.bl (decide_eq_true (by rw [h0]; rfl)), iteT ?_⟩
    exact leaf_ok B1 hp1 pk pl pb (by omega) fun v t H2 T sm sz B2 o2 => q v t H2 T sm (by omega) (B2.more (by omega)) (o1.trans o2)
  · refine ⟨_, rfl, rfl, false, congrArg V.bl (decide_eq_false (fun z => h0 (by injection z with z; omega))), iteF ?_⟩
    refine ⟨_, rfl, _, _, rfl, rfl, decide (way < 2), rfl, ?_⟩
    by_cases h2 : way < 2
    · rw [decide_eq_true h2]
      refine iteT ?_
      exact leaf_ok B1 hp1 pk pl pb (by omega) fun v t H2 T sm sz B2 o2 => q v t H2 T sm (by omega) (B2.more (by omega)) (o1.trans o2)
    · rw [decide_eq_false h2]
      refine iteF ?_
      obtain ⟨e, rfl⟩ : ∃ e, d = e + 1 := ⟨d - 1, by omega⟩
      have e1 : ([V.ref b, V.ref p, V.int (((e + 1 : Nat) : Int) - 1)] : List V) = [V.ref b, V.ref p, V.int (e : Nat)] := by rw [show (((e + 1 : Nat) : Int) - 1) = (e : Nat) by omega]
      have p0 : 1 ≤ 2 ^ e := Nat.one_le_two_pow
      have p3 : 2 ^ (e + 1) = 2 * 2 ^ e := by rw [Nat.pow_succ]; omega
      refine ⟨_, rfl, _, _, rfl, rfl, decide (way < 4), rfl, ?_⟩
      by_cases h3 : way < 4
      · rw [decide_eq_true h3]
        refine iteT ⟨_, rfl, _, rfl, _, rfl, _, _, rfl, rfl, b, p, ks, _, e, e1, B1, hp1, pk, pl, pb, by omega, by omega, by omega, fun v t H2 T sm sz B2 o2 => ?_⟩
        refine ⟨(by show 2 ≤ sizeLine; decide), fun c hc => ?_⟩
        have s3 := same_new hc (.tup [V.str "s", v])
        exact q (.ref c) (.s t) _ (.s upd_same (T.same s3)) sm (by rw [p2]; simp only [Tm.size]; omega) ((B2.same s3).more (by omega)) (o1.trans (o2.trans (but_of s3)))
      · rw [decide_eq_false h3]
        refine iteF ⟨_, rfl, _, rfl, _, rfl, _, _, rfl, rfl, b, p, ks, _, e, e1, B1, hp1, pk, pl, pb, by omega, by omega, by omega, fun v t H2 T sm sz B2 o2 => ?_⟩
        have hp2 := o2 _ _ hp1 pb
        refine ⟨_, rfl, _, rfl, _, rfl, _, rfl, _, _, rfl, rfl, b, p, ks, _, e, e1, B2, hp2, pk, pl, pb, by omega, by omega, by omega, fun v' t' H3 T' sm' sz' B3 o3 => ?_⟩
        refine ⟨(by show 3 ≤ sizeLine; decide), fun c hc => ?_⟩
        have s4 := same_new hc (.tup [V.str "f", v, v'])
        exact q (.ref c) (.f t t') _ (.f upd_same ((T.box o3 B2).same s4) (T'.same s4)) (fun k hk => by
            rcases List.mem_append.mp hk with hk | hk
            · exact sm k hk
            · exact sm' k hk) (by rw [p2]; simp only [Tm.size]; omega) ((B3.same s4).more (by omega)) (o1.trans (o2.trans (o3.trans (but_of s4))))
theorem lterm_ok {f fT fP : Addr} {fd fdT dP : FuncData} (F : Fun K "_law_term" "_law_term" sTermL f fd) (b2 : Binds K fd ["_law_box_here", "_law_pool", "_law_deep"] []) (mF : mg "_law_term" = some (.ref f))
    (GT : FnOk P w K mg base CX0 1 fT fdT ["_law_box_here", "_law_reach"] spTake) (kT : PySem.W.keepIn K (.ref fT) = true) (bT : Binds K fdT ["_law_box_here", "_law_reach"] []) (mT : mg "_law_take" = some (.ref fT))
    (GP : FnOk P w K mg base CX0 2 fP dP ["_law_box_here", "_law_things"] spPick) (kP : PySem.W.keepIn K (.ref fP) = true) (bP : Binds K dP ["_law_box_here", "_law_things"] []) (mP : mg "_law_pick" = some (.ref fP)) :
    ∀ n : Nat, FnOk P w K mg base CX0 (n + 2) f fd ["_law_box_here", "_law_pool", "_law_deep"] (spLTerm n)
  | 0 => none_left fun vs H Q E h => by
    obtain ⟨b, p, ks, j, d, _, _, _, _, _, _, h, _⟩ := h
    omega
  | n + 1 => ok_lterm F b2 mF (lterm_ok F b2 mF GT kT bT mT GP kP bP mP n) GT kT bT mT GP kP bP mP
theorem scUnlikeL2 : FnScope ["_law_atoms", "_law_found", "_law_atom_here"] ["_law_atoms"] (defScope sUnlikeL) := ⟨rfl, rfl, rfl, by decide +kernel, rfl, by decide +kernel, by decide +kernel⟩
theorem ok_unlikel {f : Addr} {fd : FuncData} (F : Fun K "_law_unlike" "_law_unlike" sUnlikeL f fd) (mTuple : mg "tuple" = none) : FnOk P w K mg base CX0 1 f fd ["_law_atoms"] spUnlikeL := by
  refine F.ok scUnlikeL2 (fun vs H Q E h => ?_) (fun cdv A outer s H vs Q E hr h => ?_)
  · obtain ⟨q, xs, as, rfl, _⟩ := h
    rfl
  obtain ⟨q, xs, as, rfl, hq, A1, ok, fin⟩ := h
  refine ⟨_, pss_cons (ps_set (i := 1) scUnlikeL2.nd rfl (Or.inl rfl) (pe_lst pa_nil))
    (pss_cons (ps_for PassesOwn.never rfl (pi_list (pv 0)) (pg_name (i := 2) scUnlikeL2.nd rfl (Or.inl rfl))
      (pss_one (ps_if (pt_cmpR (op_notInD (hu65 hr)) (pv 2) (pv 1) (by rfl)) (pss_one (ps_expr (pe_bm PySem.F.plainAttrs_list PySem.F.slot_list_append PySem.F.type_list_append mt_append (pv 1) (pa_cons (pv 2) pa_nil)))) pss_nil)))
    (pss_one (ps_ret (pe_callTy call_tuple_of (by rfl) mTuple (by decide +kernel) (pa_cons (pv 1) pa_nil))))), ?_⟩
  have big : (10000 : Nat) ≤ sizeLine := by decide
  have xl := A1.len
  have o6 := ok.few
  refine ⟨(by show 0 ≤ sizeLine; decide), fun l hl => ?_⟩
  have s1 := same_new hl (.lst ([] : List V))
  have hq1 := s1 _ _ hq
  have lq : q ≠ l := ne_of_none hq hl
  refine ⟨_, rfl, q, rfl, ⟨_, .inl (.inl hq1)⟩, for_list (K := K) (a := q) (xs := xs) (fun i σ H2 => ∃ (x2 : Option V) (ys : List V), σ = [some (.ref q), some (.ref l), x2] ∧ H2 l = some (.lst ys) ∧ AtsAt H2 ys (unl (as.take i)) ∧ Same H H2)
    ⟨none, [], rfl, upd_same, trivial, s1⟩ (fun i σ H2 _ ⟨_, _, _, _, _, h⟩ => .inl (.inl (h _ _ hq))) ?_ ?_⟩
  · rintro i x σ H2 hi ⟨x2, ys, rfl, h2, A2, s2⟩
    obtain ⟨a, ha, T⟩ := A1.get hi
    have am := List.mem_of_getElem? ha
    have li : i < as.length := (List.getElem?_eq_some_iff.mp ha).1
    have yl := A2.len
    have ul := unl_le (as := as.take i)
    rw [List.length_take] at ul
    have tk : as.take (i + 1) = as.take i ++ [a] := by rw [List.take_add_one, ha]; rfl
    have T2 := atAt_same T s2
    refine ⟨_, rfl, _, rfl, atD a, (unl (as.take i)).map atD, at_dp T2, .lst (.inl (.inl h2)) (ats_dp A2), at_shaped (ok.ok a am), ats_shaped fun b hb => ok.ok b (List.mem_of_mem_take (mem_unl hb)), ?_⟩
    by_cases nin : a ∈ unl (as.take i)
    · refine ⟨false, by rw [in_ats, decide_eq_true nin]; rfl, iteF ?_⟩
      exact ⟨_, ys, rfl, h2, by rw [tk, unl_snoc, if_pos nin]; exact A2, s2⟩
    · refine ⟨true, by rw [notin_ats nin]; rfl, iteT ?_⟩
      refine ⟨_, rfl, .inl ⟨rfl, _, .inl (.inl h2)⟩, _, rfl, l, _, _, rfl, rfl, h2, by omega, ?_⟩
      have keep : ∀ b zs, H2 b = some (.tup zs) → (upd H2 l (.lst (ys ++ [x]))) b = some (.tup zs) := fun b zs z => by rw [upd_ne (ne_of z h2 (by intro e; cases e))]; exact z
      refine ⟨_, ys ++ [x], rfl, upd_same, by rw [tk, unl_snoc, if_neg nin]; exact (A2.mono keep).append ⟨atAt_mono keep T2, trivial⟩, ?_⟩
      intro c o z
      rw [upd_ne (ne_of_none z hl)]
      exact s2 _ _ z
  · rintro σ H2 ⟨x2, ys, rfl, h2, A2, s2⟩
    rw [xl, List.take_length] at A2
    exact ⟨_, rfl, l, _, rfl, .inl ⟨.inl (.inl h2), fun p hp => fin p ys _ upd_same (A2.same (same_new hp _)) (s2.trans (same_new hp _))⟩⟩
theorem ok_unlt {f : Addr} {fd : FuncData} (F : Fun K "unlike" "unlike" sUnlike f fd) (mTuple : mg "tuple" = none) : FnOk P w K mg base CX0 1 f fd ["atoms"] spUnlikeL := by
  refine F.ok scUnlike (fun vs H Q E h => ?_) (fun cdv A outer s H vs Q E hr h => ?_)
  · obtain ⟨q, xs, as, rfl, _⟩ := h
    rfl
  obtain ⟨q, xs, as, rfl, hq, A1, ok, fin⟩ := h
  refine ⟨_, pss_cons (ps_set (i := 1) scUnlike.nd rfl (Or.inl rfl) (pe_lst pa_nil))
    (pss_cons (ps_for PassesOwn.never rfl (pi_list (pv 0)) (pg_name (i := 2) scUnlike.nd rfl (Or.inl rfl))
      (pss_one (ps_if (pt_cmpR (op_notInD (hu65 hr)) (pv 2) (pv 1) (by rfl)) (pss_one (ps_expr (pe_bm PySem.F.plainAttrs_list PySem.F.slot_list_append PySem.F.type_list_append mt_append (pv 1) (pa_cons (pv 2) pa_nil)))) pss_nil)))
    (pss_one (ps_ret (pe_callTy call_tuple_of (by rfl) mTuple (by decide +kernel) (pa_cons (pv 1) pa_nil))))), ?_⟩
  have big : (10000 : Nat) ≤ sizeLine := by decide
  have xl := A1.len
  have o6 := ok.few
  refine ⟨(by show 0 ≤ sizeLine; decide), fun l hl => ?_⟩
  have s1 := same_new hl (.lst ([] : List V))
  have hq1 := s1 _ _ hq
  have lq : q ≠ l := ne_of_none hq hl
  refine ⟨_, rfl, q, rfl, ⟨_, .inl (.inl hq1)⟩, for_list (K := K) (a := q) (xs := xs) (fun i σ H2 => ∃ (x2 : Option V) (ys : List V), σ = [some (.ref q), some (.ref l), x2] ∧ H2 l = some (.lst ys) ∧ AtsAt H2 ys (unl (as.take i)) ∧ Same H H2)
    ⟨none, [], rfl, upd_same, trivial, s1⟩ (fun i σ H2 _ ⟨_, _, _, _, _, h⟩ => .inl (.inl (h _ _ hq))) ?_ ?_⟩
  · rintro i x σ H2 hi ⟨x2, ys, rfl, h2, A2, s2⟩
    obtain ⟨a, ha, T⟩ := A1.get hi
    have am := List.mem_of_getElem? ha
    have li : i < as.length := (List.getElem?_eq_some_iff.mp ha).1
    have yl := A2.len
    have ul := unl_le (as := as.take i)
    rw [List.length_take] at ul
    have tk : as.take (i + 1) = as.take i ++ [a] := by rw [List.take_add_one, ha]; rfl
    have T2 := atAt_same T s2
    refine ⟨_, rfl, _, rfl, atD a, (unl (as.take i)).map atD, at_dp T2, .lst (.inl (.inl h2)) (ats_dp A2), at_shaped (ok.ok a am), ats_shaped fun b hb => ok.ok b (List.mem_of_mem_take (mem_unl hb)), ?_⟩
    by_cases nin : a ∈ unl (as.take i)
    · refine ⟨false, by rw [in_ats, decide_eq_true nin]; rfl, iteF ?_⟩
      exact ⟨_, ys, rfl, h2, by rw [tk, unl_snoc, if_pos nin]; exact A2, s2⟩
    · refine ⟨true, by rw [notin_ats nin]; rfl, iteT ?_⟩
      refine ⟨_, rfl, .inl ⟨rfl, _, .inl (.inl h2)⟩, _, rfl, l, _, _, rfl, rfl, h2, by omega, ?_⟩
      have keep : ∀ b zs, H2 b = some (.tup zs) → (upd H2 l (.lst (ys ++ [x]))) b = some (.tup zs) := fun b zs z => by rw [upd_ne (ne_of z h2 (by intro e; cases e))]; exact z
      refine ⟨_, ys ++ [x], rfl, upd_same, by rw [tk, unl_snoc, if_neg nin]; exact (A2.mono keep).append ⟨atAt_mono keep T2, trivial⟩, ?_⟩
      intro c o z
      rw [upd_ne (ne_of_none z hl)]
      exact s2 _ _ z
  · rintro σ H2 ⟨x2, ys, rfl, h2, A2, s2⟩
    rw [xl, List.take_length] at A2
    exact ⟨_, rfl, l, _, rfl, .inl ⟨.inl (.inl h2), fun p hp => fin p ys _ upd_same (A2.same (same_new hp _)) (s2.trans (same_new hp _))⟩⟩
end
end Rp

set_option maxHeartbeats 16000000
/-! The law's shapes, atoms, sayings. -/
namespace Rp
open PySem PySem.Spec PyProof.Rows L2 TL StX
abbrev KVs := List (L2.Key × V)
def ShE (v : V) : Prop := ∃ m : Nat, v = .int (m : Nat) ∧ 1 ≤ m ∧ m ≤ 2
def ShOk (ws : List Str) (kvs : KVs) : Prop := ∀ x ∈ ws, ∃ v, valV kvs (.inr x) = some v ∧ ShE v
theorem merge_has : ∀ {more acc : KVs} {k : L2.Key}, (∀ kv ∈ more, ShE kv.2) → ((∃ v, valV acc k = some v ∧ ShE v) ∨ k ∈ more.map (·.1)) → ∃ v, valV (mergeK acc more) k = some v ∧ ShE v
  | [], acc, k, _, h => by
    rcases h with h | h
    · exact h
    · simp at h
  | kv :: more, acc, k, e, h => by
    have e1 : mergeK acc (kv :: more) = mergeK (putK acc kv.1 kv.2) more := rfl
    rw [e1]
    refine merge_has (fun z hz => e z (by simp [hz])) ?_
    by_cases z : k = kv.1
    · exact .inl ⟨kv.2, by rw [valV_put, if_pos z], e kv (by simp)⟩
    · rcases h with ⟨v, h1, h2⟩ | h
      · exact .inl ⟨v, by rw [valV_put, if_neg z]; exact h1, h2⟩
      · simp only [List.map_cons, List.mem_cons] at h
        exact .inr (h.resolve_left z)
def PairsAt (H : Hp) : List Addr → KVs → Prop
  | [], [] => True
  | p :: ps, kv :: kvs => H p = some (.tup [kV kv.1, kv.2]) ∧ PairsAt H ps kvs
  | _, _ => False
theorem PairsAt.mono {H H' : Hp} (e : ∀ a xs, H a = some (.tup xs) → H' a = some (.tup xs)) : ∀ {ps : List Addr} {kvs : KVs}, PairsAt H ps kvs → PairsAt H' ps kvs
  | [], [], _ => trivial
  | _ :: _, _ :: _, h => ⟨e _ _ h.1, PairsAt.mono e h.2⟩
theorem PairsAt.len {H : Hp} : ∀ {ps : List Addr} {kvs : KVs}, PairsAt H ps kvs → ps.length = kvs.length
  | [], [], _ => rfl
  | _ :: _, _ :: _, h => congrArg (· + 1) (PairsAt.len h.2)
theorem PairsAt.snoc {H : Hp} {p : Addr} {kv : L2.Key × V} (hp : H p = some (.tup [kV kv.1, kv.2])) : ∀ {ps : List Addr} {kvs : KVs}, PairsAt H ps kvs → PairsAt H (ps ++ [p]) (kvs ++ [kv])
  | [], [], _ => ⟨hp, trivial⟩
  | _ :: _, _ :: _, h => ⟨h.1, PairsAt.snoc hp h.2⟩
theorem PairsAt.paired {K : PySem.W.Frag} {H : Hp} : ∀ {ps : List Addr} {kvs : KVs}, PairsAt H ps kvs → Paired (fun p (kv : L2.Key × V) => SqT K H p [kV kv.1, kv.2]) ps kvs
  | [], [], _ => .nil
  | _ :: _, _ :: _, h => .cons (.inl (.inl h.1)) (PairsAt.paired h.2)
theorem ne_box {H : Hp} {a b : Addr} {j : Nat} (B : BoxAt H b j) (h : H a = none) : a ≠ b := by
  obtain ⟨y, hb⟩ := B.some
  exact (ne_of_none hb h).symm
theorem ne_boxT {H : Hp} {a b : Addr} {j : Nat} {o : HO} (B : BoxAt H b j) (h : H a = some o) (n : ∀ xs, o ≠ .lst xs) : a ≠ b := by
  obtain ⟨y, hb⟩ := B.some
  rintro rfl
  rw [hb] at h
  exact n _ (Option.some.inj h).symm
/-- tuples stay, a list taken anew -/
theorem keepU {H : Hp} {D : Addr} {xs : List V} {o : HO} (h : H D = some (.lst xs)) : ∀ q zs, H q = some (.tup zs) → (upd H D o) q = some (.tup zs) := fun q zs z => by
  rw [upd_ne (ne_of z h (by intro e; cases e))]; exact z
theorem keepB {H H' : Hp} {b : Addr} {j : Nat} (B : BoxAt H b j) (o : But b H H') : ∀ q zs, H q = some (.tup zs) → H' q = some (.tup zs) := fun q zs z => o _ _ z (ne_boxT B z (by intro xs e; cases e))
theorem but_new {H : Hp} {b D : Addr} {H0 H1 : Hp} {o : HO} (hD : H D = none) (h : But b H H0) (h' : ∀ x u, H0 x = some u → x ≠ b → H1 x = some u) : But b H (upd H1 D o) := by
  intro x u z nb
  rw [upd_ne (ne_of_none z hD)]
  exact h' _ _ (h _ _ z nb) nb
def spShapes : Sp := fun vs H Q _ => ∃ (b p : Addr) (ws : List Str) (j : Nat), vs = [.ref b, .ref p] ∧ BoxAt H b j ∧ H p = some (.lst (ws.map V.str)) ∧ p ≠ b ∧ ws.length ≤ 4 ∧ j + 4 ≤ 1000000 ∧
  ∀ (d : Addr) (kvs : KVs) (H' : Hp), H d = none → H' d = some (.dK kvs) → ShOk ws kvs → BoxAt H' b (j + 4) → But b H H' → Q (.ref d) H'
structure Wrd (H : Hp) (b d p pp : Addr) (ws : List Str) (ks : List Int) (kvs : KVs) : Prop where
  hd : H d = some (.dK kvs)
  sh : ShOk ws kvs
  hp : H p = some (.lst (ws.map V.str))
  hq : H pp = some (.lst (ks.map V.int))
  pk : ∀ k ∈ ks, 0 ≤ k ∧ k ≤ 99
  pl : ks.length ≤ 200
  pb : p ≠ b
  qb : pp ≠ b
  nm : ∀ x ∈ ws, NameOk x
  one : 1 ≤ ws.length
  four : ws.length ≤ 4
theorem Wrd.db {H : Hp} {b d p pp : Addr} {ws : List Str} {ks : List Int} {kvs : KVs} {j : Nat} (W : Wrd H b d p pp ws ks kvs) (B : BoxAt H b j) : d ≠ b := ne_boxT B W.hd (by intro xs e; cases e)
theorem Wrd.but {H H' : Hp} {b d p pp : Addr} {ws : List Str} {ks : List Int} {kvs : KVs} {j : Nat} (W : Wrd H b d p pp ws ks kvs) (B : BoxAt H b j) (o : But b H H') : Wrd H' b d p pp ws ks kvs :=
  ⟨o _ _ W.hd (W.db B), W.sh, o _ _ W.hp W.pb, o _ _ W.hq W.qb, W.pk, W.pl, W.pb, W.qb, W.nm, W.one, W.four⟩
theorem Wrd.same {H H' : Hp} {b d p pp : Addr} {ws : List Str} {ks : List Int} {kvs : KVs} (W : Wrd H b d p pp ws ks kvs) (o : Same H H') : Wrd H' b d p pp ws ks kvs :=
  ⟨o _ _ W.hd, W.sh, o _ _ W.hp, o _ _ W.hq, W.pk, W.pl, W.pb, W.qb, W.nm, W.one, W.four⟩
def spAtomL : Sp := fun vs H Q _ => ∃ (b d p pp : Addr) (ws : List Str) (ks : List Int) (kvs : KVs) (j m : Nat), vs = [.ref b, .ref d, .ref p, .ref pp, .int m] ∧ BoxAt H b j ∧ Wrd H b d p pp ws ks kvs ∧ m ≤ 2 ∧ j + 31 ≤ 1000000 ∧
  ∀ (v : V) (a : At) (H' : Hp), AtAt H' v a → AtOk 7 a → BoxAt H' b (j + 31) → But b H H' → Q v H'
def spSayingL : Sp := fun vs H Q _ => ∃ (b d p pp : Addr) (ws : List Str) (ks : List Int) (kvs : KVs) (j m : Nat), vs = [.ref b, .ref d, .ref p, .ref pp, .int m] ∧ BoxAt H b j ∧ Wrd H b d p pp ws ks kvs ∧ m ≤ 6 ∧ j + 300 ≤ 1000000 ∧
  ∀ (v : V) (s : Sy) (H' : Hp), SyAt H' v s → SyOk s → s.hs.length ≤ m → (∀ a ∈ s.hs, AtOk 7 a) → AtOk 7 s.gl → BoxAt H' b (j + 300) → But b H H' → Q v H'
section
variable {P : Program} {w : World} {K : PySem.W.Frag} {mg : Str → Option Value} {base : Heap}
theorem scShapes : FnScope ["_law_box_here", "_law_names_here", "_law_name"] ["_law_box_here", "_law_names_here"] (defScope sShapes) := ⟨rfl, rfl, rfl, by decide +kernel, rfl, by decide +kernel, by decide +kernel⟩
def tePair (K : PySem.W.Frag) : TE := tTup (tCons (tVar 2) (tCons (tOp (rIxL K) (tLst (tCons (tC (.int 1)) (tCons (tC (.int 1)) (tCons (tC (.int 1)) (tCons (tC (.int 2)) tNil))))) (tCall spTake [] E0 (tCons (tVar 0) (tCons (tC (.int 4)) tNil)))) tNil))
theorem ok_shapes {f fT : Addr} {fd fdT : FuncData} (F : Fun K "_law_shapes" "_law_shapes" sShapes f fd)
    (GT : FnOk P w K mg base CX0 1 fT fdT ["_law_box_here", "_law_reach"] spTake) (kT : PySem.W.keepIn K (.ref fT) = true) (bT : Binds K fdT ["_law_box_here", "_law_reach"] []) (mT : mg "_law_take" = some (.ref fT))
    (mDict : mg "dict" = none) : FnOk P w K mg base CX0 2 f fd ["_law_box_here", "_law_names_here"] spShapes := by
  refine F.ok scShapes (fun vs H Q E h => ?_) (fun cdv A outer s H vs Q E hr h => ?_)
  · obtain ⟨b, p, ws, j, rfl, _⟩ := h
    rfl
  obtain ⟨b, p, ws, j, rfl, B, hp, pb, w4, hj, q⟩ := h
  refine ⟨_, pss_one (ps_ret (pe_callTy (call_dictP rfl) (by rfl) mDict (by decide +kernel) (pa_cons (pe_lc (own := [("_law_name", 2)]) (g := gName 2) (tt := tYes) (te := tePair K) rfl scShapes.nd (pi_list (pv 1))
        (blkOk_by (N := ["_law_box_here", "_law_names_here", "_law_name"]) (sc := defScope sShapes) (by decide +kernel)) (fun _ _ _ _ _ => pg_name (i := 2) scShapes.nd rfl (Or.inl rfl)) (fun _ _ _ _ _ => pts_nil)
        (fun _ _ _ _ _ => pe_tup (pa_cons (pv 2) (pa_cons (pe_ix ix_list (pe_lst (pa_cons pe_int (pa_cons pe_int (pa_cons pe_int (pa_cons pe_int pa_nil))))) (pe_call GT hr (by rfl) mT kT bT .nil pass0 (pa_cons (pv 0) (pa_cons pe_int pa_nil))) (fun _ _ => rfl)) pa_nil)))) pa_nil))), ?_⟩
  have big : (10000 : Nat) ≤ sizeLine := by decide
  refine ⟨_, rfl, p, rfl, ⟨_, .inl (.inl hp)⟩, fun D hD => lc_list (K := K) (a := p) (xs := ws.map V.str) (fun i H2 => ∃ (ps : List Addr) (kvs : KVs), H2 D = some (.lst (ps.map V.ref)) ∧ PairsAt H2 ps kvs ∧ kvs.map (·.1) = (ws.take i).map Sum.inr ∧ (∀ kv ∈ kvs, ShE kv.2) ∧ BoxAt H2 b (j + i) ∧ H2 p = some (.lst (ws.map V.str)) ∧ But b H H2)
    ⟨[], [], upd_same, trivial, rfl, by simp, (B.same (same_new hD _)).more (by omega), same_new hD _ _ _ hp, but_of (same_new hD _)⟩ (fun i H2 _ ⟨_, _, _, _, _, _, _, h, _⟩ => .inl (.inl h)) ?_ ?_⟩
  · rintro i x H2 hi ⟨ps, kvs, h2, A2, kl, ke, B2, hp2, o2⟩
    rw [List.getElem?_map] at hi
    obtain ⟨y, hy, rfl⟩ : ∃ y, ws[i]? = some y ∧ x = .str y := by
      cases hq : ws[i]? with
      | none => rw [hq] at hi; cases hi
      | some p => rw [hq] at hi; exact ⟨p, rfl, by simpa using hi.symm⟩
    have li : i < ws.length := (List.getElem?_eq_some_iff.mp hy).1
    have Db : D ≠ b := ne_box B hD
    have Dp : D ≠ p := (ne_of_none hp hD).symm
    have pl := A2.len
    have kl2 : kvs.length ≤ 4 := by
      have := congrArg List.length kl
      rw [List.length_map, List.length_map, List.length_take] at this
      omega
    refine ⟨rfl, ?_⟩
    unfold tePair
    refine ⟨_, rfl, (by show 4 ≤ sizeLine; decide), fun c hc => ?_⟩
    have s3 := same_new hc (.lst [V.int 1, V.int 1, V.int 1, V.int 2])
    have B3 := B2.same s3
    have cb : c ≠ b := ne_box B2 hc
    refine ⟨_, rfl, b, _, _, rfl, B3, by omega, by decide, by decide, fun r H4 r0 r4 B4 o4 => ?_⟩
    have hc4 := o4 _ _ upd_same cb
    obtain ⟨m, hat, hm⟩ : ∃ m : Nat, atI [V.int 1, V.int 1, V.int 1, V.int 2] r = some (.int (m : Nat)) ∧ 1 ≤ m ∧ m ≤ 2 := by
      rcases (by omega : r = 0 ∨ r = 1 ∨ r = 2 ∨ r = 3) with e | e | e | e <;> subst e
      · exact ⟨1, at_of (j := 0) rfl rfl, by omega, by omega⟩
      · exact ⟨1, at_of (j := 1) rfl rfl, by omega, by omega⟩
      · exact ⟨1, at_of (j := 2) rfl rfl, by omega, by omega⟩
      · exact ⟨2, at_of (j := 3) rfl rfl, by omega, by omega⟩
    refine ⟨c, _, _, _, rfl, rfl, .inl (.inl hc4), hat, (by show 2 ≤ sizeLine; decide), fun t ht => ?_⟩
    have s4 := same_new ht (.tup [V.str y, V.int (m : Nat)])
    have hD4 := s4 _ _ (o4 _ _ (s3 _ _ h2) Db)
    have keep : ∀ a zs, H2 a = some (.tup zs) → (upd (upd H4 t (.tup [V.str y, V.int (m : Nat)])) D (.lst (ps.map V.ref ++ [.ref t]))) a = some (.tup zs) := fun a zs z =>
      keepU hD4 _ _ (s4 _ _ (keepB B3 o4 _ _ (s3 _ _ z)))
    have tD : t ≠ D := (ne_of_none (o4 _ _ (s3 _ _ h2) Db) ht).symm
    refine ⟨_, hD4, by rw [List.length_map]; omega, ps ++ [t], kvs ++ [(.inr y, .int (m : Nat))], by rw [upd_same, List.map_append]; rfl, PairsAt.snoc (by rw [upd_ne tD, upd_same]; rfl) (A2.mono keep), ?_, ?_, ((B4.same s4).upd Db _).more (by omega), ?_, ?_⟩
    · have tk : ws.take (i + 1) = ws.take i ++ [y] := by rw [List.take_add_one, hy]; rfl
      rw [tk, List.map_append, List.map_append, kl]; rfl
    · intro kv hkv
      rcases List.mem_append.mp hkv with hkv | hkv
      · exact ke kv hkv
      · obtain rfl : kv = (.inr y, .int (m : Nat)) := by simpa using hkv
        exact ⟨m, rfl, hm.1, hm.2⟩
    · rw [upd_ne Dp.symm]
      exact s4 _ _ (o4 _ _ (s3 _ _ hp2) pb)
    · exact but_new hD o2 fun a o z nb => s4 _ _ (o4 _ _ (s3 _ _ z) nb)
  · rintro H2 ⟨ps, kvs, h2, A2, kl, ke, B2, hp2, o2⟩
    rw [List.length_map] at B2
    rw [List.length_map, List.take_length] at kl
    refine ⟨D, ps, kvs, rfl, .inl (.inl h2), A2.paired, fun d hd => ?_⟩
    have s3 := same_new hd (.dK (mergeK [] kvs))
    have hd0 : H d = none := but_none o2 B2 hd
    exact q d _ _ hd0 upd_same (fun x hx => merge_has ke (.inr (by rw [kl]; exact List.mem_map.mpr ⟨x, hx, rfl⟩))) ((B2.same s3).more (by omega)) (o2.trans (but_of s3))
abbrev NA : List Str := ["_law_box_here", "_law_shapes_here", "_law_names_here", "_law_pool", "_law_deep", "_law_word", "_law_part"]
theorem scAtomL : FnScope NA ["_law_box_here", "_law_shapes_here", "_law_names_here", "_law_pool", "_law_deep"] (defScope sAtomL) := ⟨rfl, rfl, rfl, by decide +kernel, rfl, by decide +kernel, by decide +kernel⟩
def teTm : TE := tCall (spLTerm 3) [] E0 (tCons (tVar 0) (tCons (tVar 3) (tCons (tVar 4) tNil)))
theorem ok_atoml {f fP fTm : Addr} {fd dP dTm : FuncData} (F : Fun K "_law_atom" "_law_atom" sAtomL f fd)
    (GP : FnOk P w K mg base CX0 2 fP dP ["_law_box_here", "_law_things"] spPick) (kP : PySem.W.keepIn K (.ref fP) = true) (bP : Binds K dP ["_law_box_here", "_law_things"] []) (mP : mg "_law_pick" = some (.ref fP))
    (GTm : FnOk P w K mg base CX0 5 fTm dTm ["_law_box_here", "_law_pool", "_law_deep"] (spLTerm 3)) (kTm : PySem.W.keepIn K (.ref fTm) = true) (bTm : Binds K dTm ["_law_box_here", "_law_pool", "_law_deep"] []) (mTm : mg "_law_term" = some (.ref fTm))
    (mRange : mg "range" = none) (mTuple : mg "tuple" = none) : FnOk P w K mg base CX0 6 f fd ["_law_box_here", "_law_shapes_here", "_law_names_here", "_law_pool", "_law_deep"] spAtomL := by
  refine F.ok scAtomL (fun vs H Q E h => ?_) (fun cdv A outer s H vs Q E hr h => ?_)
  · obtain ⟨b, d, p, pp, ws, ks, kvs, j, m, rfl, _⟩ := h
    rfl
  obtain ⟨b, d, p, pp, ws, ks, kvs, j, m, rfl, B, W, m2, hj, q⟩ := h
  have r2 : Room 2 _ := hr.mono (by decide)
  refine ⟨_, pss_cons (ps_set (i := 5) scAtomL.nd rfl (Or.inl rfl) (pe_call GP r2 rfl mP kP bP .nil pass0 (pa_cons (pv 0) (pa_cons (pv 2) pa_nil))))
    (pss_one (ps_ret (pe_op op_catT (pe_tup (pa_cons (pv 5) pa_nil)) (pe_callTy call_tuple_of (by rfl) mTuple (by decide +kernel) (pa_cons
      (pe_lc (own := [("_law_part", 6)]) (g := gName 6) (tt := tYes) (te := teTm) rfl scAtomL.nd (pi_range1 (by rfl) mRange (pa_cons (pe_dget (hu_of hr) (pv 1) (pv 5) (fun _ _ => rfl)) pa_nil)) (blkOk_by (N := NA) (sc := defScope sAtomL) (by decide +kernel))
        (fun _ _ _ _ _ => pg_name (i := 6) scAtomL.nd rfl (Or.inl rfl)) (fun _ _ _ _ _ => pts_nil) (fun _ _ _ _ _ => pe_call GTm hr (by rfl) mTm kTm bTm .nil pass0 (pa_cons (pv 0) (pa_cons (pv 3) (pa_cons (pv 4) pa_nil))))) pa_nil))))), ?_⟩
  have big : (10000 : Nat) ≤ sizeLine := by decide
  have pw1 : 2 ^ m ≤ 2 ^ 2 := Nat.pow_le_pow_right (by decide) m2
  have pw2 : 2 ^ (m + 1) ≤ 2 ^ 3 := Nat.pow_le_pow_right (by decide) (by omega)
  have w4 := W.four
  have w1 := W.one
  refine ⟨_, rfl, _, rfl, b, p, _, j, rfl, B, by omega, W.hp, W.pb, by rw [List.length_map]; omega, by rw [List.length_map]; omega, fun v H1 hv B1 o1 => ?_⟩
  obtain ⟨x, hx, rfl⟩ := List.mem_map.mp hv
  have W1 := W.but B o1
  obtain ⟨_, hval, mm, rfl, mm1, mm2⟩ := W1.sh x hx
  refine ⟨_, rfl, (by show 1 ≤ sizeLine; decide), fun t ht => ?_⟩
  have s2 := same_new ht (.tup [V.str x])
  have W2 := W1.same s2
  have B2 := B1.same s2
  refine ⟨_, rfl, _, rfl, d, _, rfl, by rw [← hval]; exact DGet.k (k := Sum.inr x) W2.hd, _, rfl, by omega, by omega, fun D hD => lc_range (lo := 0) (fun e H3 => ∃ (xs : List V) (ts : List Tm), H3 D = some (.lst xs) ∧ AllAt H3 xs ts ∧ ts.length = e ∧ (∀ u ∈ ts, u.small ∧ u.size ≤ 7) ∧ BoxAt H3 b (j + 1 + 15 * e) ∧ But b (upd H1 t (.tup [V.str x])) H3)
    ⟨[], [], upd_same, trivial, rfl, by simp, (B2.same (same_new hD _)).more (by omega), but_of (same_new hD _)⟩ ?_ ?_⟩
  · rintro e H3 he ⟨xs, ts, h3, A3, tl, tk, B3, o3⟩
    have Db : D ≠ b := ne_box B2 hD
    have xl := A3.len
    have W3 := W2.but B2 o3
    refine ⟨rfl, ?_⟩
    unfold teTm
    refine ⟨_, rfl, _, rfl, _, rfl, b, pp, ks, _, m, rfl, B3, W3.hq, W3.pk, W3.pl, W3.qb, by omega, m2, by omega, fun v u H4 T sm sz B4 o4 => ?_⟩
    have h4 := o4 _ _ h3 Db
    refine ⟨xs, h4, by omega, xs ++ [v], ts ++ [u], upd_same, (A3.mono fun q zs z => keepU h4 _ _ (keepB B3 o4 _ _ z)).append ⟨T.mono (keepU h4), trivial⟩, by simp [tl], fun y hy => ?_, (B4.upd Db _).more (by omega), ?_⟩
    · rcases List.mem_append.mp hy with hy | hy
      · exact tk y hy
      · obtain rfl : y = u := by simpa using hy
        exact ⟨sm, by omega⟩
    · exact but_new hD o3 o4
  · rintro H3 ⟨xs, ts, h3, A3, tl, tk, B3, o3⟩
    have tl2 : ts.length = mm := by rw [tl]; omega
    have xl := A3.len
    refine ⟨D, xs, rfl, .inl ⟨.inl (.inl h3), fun g hg => ?_⟩⟩
    have s4 := same_new hg (.tup xs)
    have ht3 := keepB B2 o3 _ _ (upd_same : (upd H1 t (.tup [V.str x])) t = _)
    refine ⟨t, g, [V.str x], xs, rfl, rfl, .inl (.inl (s4 _ _ ht3)), .inl (.inl upd_same), by simp, by simp; omega, fun e => ?_, fun _ t2 ht2 => ?_⟩
    · rw [e] at xl; simp at xl; omega
    · have s5 := same_new ht2 (.tup ([V.str x] ++ xs))
      exact q _ ⟨x, ts⟩ _ ⟨t2, xs, rfl, upd_same, A3.mono fun q zs z => s5 _ _ (s4 _ _ z)⟩ ⟨W.nm x hx, by show 1 ≤ ts.length; omega, by show ts.length ≤ 2; omega, tk⟩ (((B3.same s4).same s5).more (by omega))
        (o1.trans ((but_of s2).trans (o3.trans ((but_of s4).trans (but_of s5)))))
abbrev NSy : List Str := ["_law_box_here", "_law_shapes_here", "_law_names_here", "_law_pool", "_law_count", "_law_hyps", "_law_turn"]
theorem scSayingL : FnScope NSy ["_law_box_here", "_law_shapes_here", "_law_names_here", "_law_pool", "_law_count"] (defScope sSayingL) := ⟨rfl, rfl, rfl, by decide +kernel, rfl, by decide +kernel, by decide +kernel⟩
def teAtom : TE := tCall spAtomL [] E0 (tCons (tVar 0) (tCons (tVar 1) (tCons (tVar 2) (tCons (tVar 3) (tCons (tCall spTake [] E0 (tCons (tVar 0) (tCons (tC (.int 2)) tNil))) tNil)))))
theorem ok_sayingl {f fT fA fU : Addr} {fd dT dA dU : FuncData} (F : Fun K "_law_saying" "_law_saying" sSayingL f fd)
    (GT : FnOk P w K mg base CX0 1 fT dT ["_law_box_here", "_law_reach"] spTake) (kT : PySem.W.keepIn K (.ref fT) = true) (bT : Binds K dT ["_law_box_here", "_law_reach"] []) (mT : mg "_law_take" = some (.ref fT))
    (GA : FnOk P w K mg base CX0 6 fA dA ["_law_box_here", "_law_shapes_here", "_law_names_here", "_law_pool", "_law_deep"] spAtomL) (kA : PySem.W.keepIn K (.ref fA) = true) (bA : Binds K dA ["_law_box_here", "_law_shapes_here", "_law_names_here", "_law_pool", "_law_deep"] []) (mA : mg "_law_atom" = some (.ref fA))
    (GU : FnOk P w K mg base CX0 1 fU dU ["_law_atoms"] spUnlikeL) (kU : PySem.W.keepIn K (.ref fU) = true) (bU : Binds K dU ["_law_atoms"] []) (mU : mg "_law_unlike" = some (.ref fU))
    (mRange : mg "range" = none) : FnOk P w K mg base CX0 7 f fd ["_law_box_here", "_law_shapes_here", "_law_names_here", "_law_pool", "_law_count"] spSayingL := by
  refine F.ok scSayingL (fun vs H Q E h => ?_) (fun cdv A outer s H vs Q E hr h => ?_)
  · obtain ⟨b, d, p, pp, ws, ks, kvs, j, m, rfl, _⟩ := h
    rfl
  obtain ⟨b, d, p, pp, ws, ks, kvs, j, m, rfl, B, W, m3, hj, q⟩ := h
  have r1 : Room 1 _ := hr.mono (by decide)
  refine ⟨_, pss_cons (ps_setLc (i := 5) (own := [("_law_turn", 6)]) (g := gName 6) (tt := tYes) (te := teAtom) rfl scSayingL.nd rfl rfl (by rfl) (pi_range1 (by rfl) mRange (pa_cons (pe_call GT r1 (by rfl) mT kT bT .nil pass0 (pa_cons (pv 0) (pa_cons (pe_op op_addI (pv 4) pe_int) pa_nil))) pa_nil))
        (blkOk_by (N := NSy) (sc := defScope sSayingL) (by decide +kernel)) (fun _ _ _ _ _ => pg_name (i := 6) scSayingL.nd rfl (Or.inl rfl)) (fun _ _ _ _ _ => pts_nil)
        (fun _ _ _ _ _ => pe_call GA hr (by rfl) mA kA bA .nil pass0 (pa_cons (pv 0) (pa_cons (pv 1) (pa_cons (pv 2) (pa_cons (pv 3) (pa_cons (pe_call GT r1 (by rfl) mT kT bT .nil pass0 (pa_cons (pv 0) (pa_cons pe_int pa_nil))) pa_nil)))))))
    (pss_one (ps_ret (pe_tup (pa_cons (pe_call GU r1 (by rfl) mU kU bU .nil pass0 (pa_cons (pv 5) pa_nil)) (pa_cons (pe_call GA hr (by rfl) mA kA bA .nil pass0 (pa_cons (pv 0) (pa_cons (pv 1) (pa_cons (pv 2) (pa_cons (pv 3) (pa_cons (pe_call GT r1 (by rfl) mT kT bT .nil pass0 (pa_cons (pv 0) (pa_cons pe_int pa_nil))) pa_nil)))))) pa_nil))))), ?_⟩
  have big : (10000 : Nat) ≤ sizeLine := by decide
  refine ⟨_, rfl, _, rfl, _, _, rfl, rfl, b, _, j, rfl, B, by omega, by omega, by omega, fun c H1 c0 c1 B1 o1 => ?_⟩
  have W1 := W.but B o1
  refine ⟨_, rfl, by omega, by omega, fun D hD => lc_range (lo := 0) (fun e H3 => ∃ (xs : List V) (as : List At), H3 D = some (.lst xs) ∧ AtsAt H3 xs as ∧ as.length = e ∧ (∀ a ∈ as, AtOk 7 a) ∧ BoxAt H3 b (j + 1 + 32 * e) ∧ But b H1 H3)
    ⟨[], [], upd_same, trivial, rfl, by simp, (B1.same (same_new hD _)).more (by omega), but_of (same_new hD _)⟩ ?_ ?_⟩
  · rintro e H3 he ⟨xs, as, h3, A3, al, ao, B3, o3⟩
    have Db : D ≠ b := ne_box B1 hD
    have xl := A3.len
    have W3 := W1.but B1 o3
    refine ⟨rfl, ?_⟩
    unfold teAtom
    refine ⟨_, rfl, _, rfl, _, rfl, _, rfl, _, rfl, b, _, _, rfl, B3, by omega, by decide, by decide, fun z H4 z0 z1 B4 o4 => ?_⟩
    obtain ⟨mz, rfl⟩ := Int.eq_ofNat_of_zero_le z0
    have W4 := W3.but B3 o4
    refine ⟨b, d, p, pp, ws, ks, kvs, _, mz, rfl, B4, W4, by omega, by omega, fun v a H5 A5 ok5 B5 o5 => ?_⟩
    have h5 := o5 _ _ (o4 _ _ h3 Db) Db
    refine ⟨xs, h5, by omega, xs ++ [v], as ++ [a], upd_same, (A3.mono fun q zs z => keepU h5 _ _ (keepB B4 o5 _ _ (keepB B3 o4 _ _ z))).append ⟨atAt_mono (keepU h5) A5, trivial⟩, by simp [al], fun y hy => ?_, (B5.upd Db _).more (by omega), ?_⟩
    · rcases List.mem_append.mp hy with hy | hy
      · exact ao y hy
      · obtain rfl : y = a := by simpa using hy
        exact ok5
    · exact but_new hD o3 (o4.trans o5)
  · rintro H3 ⟨xs, as, h3, A3, al, ao, B3, o3⟩
    have al3 : as.length ≤ m := by omega
    have W3 := W1.but B1 o3
    refine ⟨_, rfl, D, xs, as, rfl, h3, A3, AtsOk.mk (by omega) (fun a ha => (ao a ha).more (by decide)), fun g ys H4 hg A4 s4 => ?_⟩
    have B4 := B3.same s4
    have W4 := W3.same s4
    refine ⟨_, rfl, _, rfl, _, rfl, _, rfl, _, rfl, b, _, _, rfl, B4, by omega, by decide, by decide, fun z H5 z0 z1 B5 o5 => ?_⟩
    obtain ⟨mz, rfl⟩ := Int.eq_ofNat_of_zero_le z0
    have W5 := W4.but B4 o5
    refine ⟨b, d, p, pp, ws, ks, kvs, _, mz, rfl, B5, W5, by omega, by omega, fun v a H6 A6 ok6 B6 o6 => ⟨(by show 2 ≤ sizeLine; decide), fun t ht => ?_⟩⟩
    have s7 := same_new ht (.tup [V.ref g, v])
    exact q _ ⟨unl as, a⟩ _ ⟨t, g, v, ys, rfl, upd_same, s7 _ _ (keepB B5 o6 _ _ (keepB B4 o5 _ _ hg)), A4.mono fun q zs z => s7 _ _ (keepB B5 o6 _ _ (keepB B4 o5 _ _ z)), atAt_same A6 s7⟩ ⟨AtsOk.mk (by have := unl_le (as := as); show (unl as).length ≤ 6; omega) (fun a ha => (ao a (mem_unl ha)).more (by decide)), unl_nd as, ok6.more (by decide)⟩ (Nat.le_trans unl_le al3) (fun a ha => ao a (mem_unl ha)) ok6 ((B6.same s7).more (by omega))
      (o1.trans (o3.trans ((but_of s4).trans (o5.trans (o6.trans (but_of s7))))))
end
end Rp

/-! A tuple times one: the tuple itself; a tuple times one or two. -/
namespace Rp
open PySem PySem.Spec PyProof.Rows L2
theorem once_meets (p : Addr) (its : Array Value) (m : Nat) (od : Option Addr) (ss : Array (Option Value)) (u : Tok) : Meets (Builtin.«tuple.__mul__» ⟨[.ref p, .int 1 u], []⟩)
    (fun _ R s => s.heap.get? p = some ⟨.type "tuple", od, .seq its m, ss⟩ ∧ R (.ok (.ret (.ref p))) s) :=
  .of_wp fun pr w A R s h => by
    obtain ⟨hp, g, d, tk, os⟩ := s
    obtain ⟨hl, h⟩ := h
    have f1 := AutoSeq1.idx_int
    have one : (its.isEmpty || (1 : Int) == 1) = true := by simp
    wp_walk using wpAny_loadPart' hl
    repeat (first
      | (refine wpAny_ite_false (by decide) ?_; wp_walk using wpAny_loadPart' hl)
      | (refine wpAny_ite_true (decide_eq_true one) ?_; wp_walk using wpAny_loadPart' hl))
    all_goals first | exact ⟨_, rfl, h⟩ | exact h | trivial
def rRepO (K : PySem.W.Frag) : R2 := fun x y H Q => ∃ (l : Addr) (k : Int) (xs : List V), x = .ref l ∧ y = .int k ∧ SqT K H l xs ∧ xs ≠ [] ∧ 1 ≤ k ∧ k ≤ 1000 ∧ xs.length ≤ 1000 ∧ (k = 1 → Q (.ref l) H) ∧
  (2 ≤ k → ∀ p, H p = none → Q (.ref p) (upd H p (.tup (List.replicate k.toNat xs).flatten)))
theorem op_repO {X : Cx} : OpR X (binaryOp .Mult) (rRepO X.K) := by
  intro pins s σ H x y v u Q I rx ry h
  obtain ⟨l, k, xs, ex, ey, ht, ne, k1, k2, sz, qs, qn⟩ := h
  by_cases two : 2 ≤ k
  · exact op_repT pins s σ H x y v u Q I rx ry ⟨l, k, xs, ex, ey, ht, ne, two, k2, sz, qn two⟩
  · obtain rfl : k = 1 := by omega
    subst ex ey
    cases rx
    obtain ⟨t, rfl⟩ := ry
    obtain ⟨its, r, q1, q2⟩ := I.tuple ht
    obtain ⟨⟨c1, d1, t1, s1⟩, g1, e1, n1, f1⟩ := id q1
    simp only at e1 f1
    subst e1 f1
    exact wpAny_binaryOp_repeat_ref (T := "tuple") (U := "int") (by decide) ⟨_, g1, rfl⟩ (fun s' => typeIs_int s' 1 t) noFill_tuple_mul F.fills_int_mul F.slot_int_rmul repeat_tuple F.slot_int_index.lookup
      (call_meets F.slot_int_rmul (typeIs_int s 1 t) F.entry_int_rmul (F.args_int_rmul_2 _ _) (int_rmul_tuple 1 t l its.toArray n1 d1 s1)
        ⟨g1, rfl, ⟨_, g1, rfl⟩, call_meets F.slot_tuple_mul ⟨_, g1, rfl⟩ F.entry_tuple_mul (F.args_tuple_mul_2 _ _) (once_meets l its.toArray n1 d1 s1 t) ⟨g1, ⟨.ref l, H, I, rfl, qs rfl⟩⟩⟩)
end Rp

set_option maxHeartbeats 16000000
/-! The law's rules, that it lets go; its beginning. -/
namespace Rp
open PySem PySem.Spec PyProof.Rows L2 TL StX
/-- the shapes and the words stand -/
structure Wsh (H : Hp) (b d p : Addr) (ws : List Str) (kvs : KVs) : Prop where
  hd : H d = some (.dK kvs)
  sh : ShOk ws kvs
  hp : H p = some (.lst (ws.map V.str))
  pb : p ≠ b
  one : 1 ≤ ws.length
  four : ws.length ≤ 4
theorem Wsh.db {H : Hp} {b d p : Addr} {ws : List Str} {kvs : KVs} {j : Nat} (W : Wsh H b d p ws kvs) (B : BoxAt H b j) : d ≠ b := ne_boxT B W.hd (by intro xs e; cases e)
theorem Wsh.but {H H' : Hp} {b d p : Addr} {ws : List Str} {kvs : KVs} {j : Nat} (W : Wsh H b d p ws kvs) (B : BoxAt H b j) (o : But b H H') : Wsh H' b d p ws kvs :=
  ⟨o _ _ W.hd (W.db B), W.sh, o _ _ W.hp W.pb, W.pb, W.one, W.four⟩
def spRuleL : Sp := fun vs H Q _ => ∃ (b d p : Addr) (ws : List Str) (kvs : KVs) (j : Nat), vs = [.ref b, .ref d, .ref p] ∧ BoxAt H b j ∧ Wsh H b d p ws kvs ∧ j + 30 ≤ 1000000 ∧
  ∀ (v : V) (H' : Hp), BoxAt H' b (j + 30) → But b H H' → Q v H'
theorem Same.gen {H H' : Hp} (s : Same H H') : ∃ H2, H' = H2 ∧ Same H H2 := ⟨_, rfl, s⟩
def teCnt (K : PySem.W.Frag) : TE := tIf (tTest (tOp (rI0 fun i j => .bl (decide (j < i))) (tVar 5) (tC (.int 0)))) (tOp (rIxL K) (tLst (tCons (tC (.int 0)) (tCons (tC (.int 1)) (tCons (tC (.int 1)) (tCons (tC (.int 2)) (tCons (tC (.int 1)) (tCons (tC (.int 3)) tNil))))))) (tCall spTake [] E0 (tCons (tVar 0) (tCons (tC (.int 6)) tNil)))) (tC (.int 0))
theorem cnt_ok {K : PySem.W.Frag} {σ : L2.St} {H : Hp} {Q : V → Hp → Prop} {b : Addr} {j fr : Nat} (e0 : σ[0]? = some (some (.ref b))) (e5 : σ[5]? = some (some (.int (fr : Nat)))) (B : BoxAt H b j) (hj : j + 1 ≤ 1000000)
    (q : ∀ (n : Nat) (H' : Hp), n ≤ 3 → (0 < n → 0 < fr) → BoxAt H' b (j + 1) → But b H H' → Q (.int (n : Nat)) H') : teCnt K σ H Q := by
  refine ⟨_, e5, _, _, rfl, rfl, decide ((0 : Int) < (fr : Nat)), rfl, ?_⟩
  by_cases h : (0 : Int) < (fr : Nat)
  · rw [decide_eq_true h]
    refine iteT ⟨(by show 6 ≤ sizeLine; decide), fun a ha => ?_⟩
    have s1 := same_new ha (.lst [V.int 0, V.int 1, V.int 1, V.int 2, V.int 1, V.int 3])
    refine ⟨_, e0, b, _, _, rfl, B.same s1, by omega, by decide, by decide, fun r H2 c0 c1 B2 o2 => ?_⟩
    obtain ⟨k, rfl⟩ := Int.eq_ofNat_of_zero_le c0
    have k6 : k < 6 := by omega
    obtain ⟨z, hz, z3⟩ : ∃ z : Nat, [V.int 0, V.int 1, V.int 1, V.int 2, V.int 1, V.int 3][k]? = some (.int (z : Nat)) ∧ z ≤ 3 := by
      match k, k6 with
      | 0, _ => exact ⟨0, rfl, by omega⟩
      | 1, _ => exact ⟨1, rfl, by omega⟩
      | 2, _ => exact ⟨1, rfl, by omega⟩
      | 3, _ => exact ⟨2, rfl, by omega⟩
      | 4, _ => exact ⟨1, rfl, by omega⟩
      | 5, _ => exact ⟨3, rfl, by omega⟩
    exact ⟨a, _, _, _, rfl, rfl, .inl (.inl (o2 _ _ upd_same (ne_box B ha))), at_of (j := k) rfl hz, q z H2 z3 (fun _ => by omega) B2 ((but_of s1).trans o2)⟩
  · rw [decide_eq_false h]
    exact iteF (q 0 H (by omega) (fun h => nomatch h) (B.more (by omega)) (But.refl b H))
def teArgR : TE := tCall spTake [] E0 (tCons (tVar 0) (tCons (tVar 5) tNil))
section
variable {P : Program} {w : World} {K : PySem.W.Frag} {mg : Str → Option Value} {base : Heap}
abbrev NRl : List Str := ["_law_box_here", "_law_shapes_here", "_law_names_here", "_law_word", "_law_terms", "_law_fresh", "_law_turn", "_law_way", "_law_body", "_law_own", "_law_part"]
theorem scRuleL : FnScope NRl ["_law_box_here", "_law_shapes_here", "_law_names_here"] (defScope sRuleL) := ⟨rfl, rfl, rfl, by decide +kernel, rfl, by decide +kernel, by decide +kernel⟩
theorem ok_rulel {f fT fP : Addr} {fd fdT dP : FuncData} (F : Fun K "_law_rule" "_law_rule" sRuleL f fd)
    (GT : FnOk P w K mg base CX0 1 fT fdT ["_law_box_here", "_law_reach"] spTake) (kT : PySem.W.keepIn K (.ref fT) = true) (bT : Binds K fdT ["_law_box_here", "_law_reach"] []) (mT : mg "_law_take" = some (.ref fT))
    (GP : FnOk P w K mg base CX0 2 fP dP ["_law_box_here", "_law_things"] spPick) (kP : PySem.W.keepIn K (.ref fP) = true) (bP : Binds K dP ["_law_box_here", "_law_things"] []) (mP : mg "_law_pick" = some (.ref fP))
    (mRange : mg "range" = none) (mTuple : mg "tuple" = none) : FnOk P w K mg base CX0 3 f fd ["_law_box_here", "_law_shapes_here", "_law_names_here"] spRuleL := by
  refine F.ok scRuleL (fun vs H Q E h => ?_) (fun cdv A outer s H vs Q E hr h => ?_)
  · obtain ⟨b, d, p, ws, kvs, j, rfl, _⟩ := h
    rfl
  obtain ⟨b, d, p, ws, kvs, j, rfl, B, W, hj, q⟩ := h
  have r1 : Room 1 _ := hr.mono (by decide)
  refine ⟨_, pss_cons (ps_asg (pe_tup (pa_cons (pe_call GP hr rfl mP kP bP .nil pass0 (pa_cons (pv 0) (pa_cons (pv 2) pa_nil))) (pa_cons (pe_lst pa_nil) (pa_cons pe_int pa_nil))))
      (pg_tup (by rfl) (pgs_cons (pg_name (i := 3) scRuleL.nd rfl (Or.inl rfl)) (pgs_cons (pg_name (i := 4) scRuleL.nd rfl (Or.inl rfl)) (pgs_cons (pg_name (i := 5) scRuleL.nd rfl (Or.inr rfl)) pgs_nil)))))
    (pss_cons (ps_for PassesOwn.never rfl (pi_range1 (by rfl) mRange (pa_cons (pe_dget (hu_of hr) (pv 1) (pv 3) (fun _ _ => rfl)) pa_nil)) (pg_name (i := 6) scRuleL.nd rfl (Or.inl rfl))
      (pss_cons (ps_set (i := 7) scRuleL.nd rfl (Or.inl rfl) (pe_call GT r1 rfl mT kT bT .nil pass0 (pa_cons (pv 0) (pa_cons pe_int pa_nil))))
      (pss_cons (ps_expr (pe_bm PySem.F.plainAttrs_list PySem.F.slot_list_append PySem.F.type_list_append mt_append (pv 4) (pa_cons (pe_ix ix_list (pe_lst (pa_cons (pe_tup (pa_cons pe_str pa_nil)) (pa_cons (pv 5) (pa_cons (pe_tup (pa_cons pe_str (pa_cons (pv 5) pa_nil))) (pa_cons (pe_tup (pa_cons pe_str (pa_cons (pv 5) pa_nil))) (pa_cons (pe_tup (pa_cons pe_str (pa_cons (pv 5) pa_nil)))
          (pa_cons (pe_tup (pa_cons pe_str (pa_cons (pv 5) (pa_cons (pe_op op_add (pv 5) pe_int) pa_nil)))) pa_nil))))))) (pv 7) (fun _ _ => rfl)) pa_nil)))
      (pss_one (ps_set (i := 5) scRuleL.nd rfl (Or.inr rfl) (pe_op op_add (pv 5) (pe_ix ix_list (pe_lst (pa_cons pe_int (pa_cons pe_int (pa_cons pe_int (pa_cons pe_int (pa_cons pe_int (pa_cons pe_int pa_nil))))))) (pv 7) (fun _ _ => rfl))))))))
    (pss_cons (ps_set (i := 8) scRuleL.nd rfl (Or.inl rfl) (pe_lst pa_nil))
    (pss_cons (ps_for PassesOwn.never rfl (pi_range1 (by rfl) mRange (pa_cons (pe_ifExp (pt_cmpR op_gt (pv 5) pe_int (nomark _)) (pe_ix ix_list (pe_lst (pa_cons pe_int (pa_cons pe_int (pa_cons pe_int (pa_cons pe_int (pa_cons pe_int (pa_cons pe_int pa_nil))))))) (pe_call GT r1 rfl mT kT bT .nil pass0 (pa_cons (pv 0) (pa_cons pe_int pa_nil))) (fun _ _ => rfl)) pe_int) pa_nil)) (pg_name (i := 6) scRuleL.nd rfl (Or.inl rfl))
      (pss_cons (ps_set (i := 9) scRuleL.nd rfl (Or.inl rfl) (pe_call GP hr rfl mP kP bP .nil pass0 (pa_cons (pv 0) (pa_cons (pv 2) pa_nil))))
      (pss_one (ps_expr (pe_bm PySem.F.plainAttrs_list PySem.F.slot_list_append PySem.F.type_list_append mt_append (pv 8) (pa_cons (pe_op op_catT (pe_tup (pa_cons (pv 9) pa_nil)) (pe_callTy call_tuple_of (by rfl) mTuple (by decide +kernel) (pa_cons
        (pe_lc (own := [("_law_part", 10)]) (g := gName 10) (tt := tYes) (te := teArgR) rfl scRuleL.nd (pi_range1 (by rfl) mRange (pa_cons (pe_dget (hu_of hr) (pv 1) (pv 9) (fun _ _ => rfl)) pa_nil)) (blkOk_by (N := NRl) (sc := defScope sRuleL) (by decide +kernel))
          (fun _ _ _ _ _ => pg_name (i := 10) scRuleL.nd rfl (Or.inl rfl)) (fun _ _ _ _ _ => pts_nil) (fun _ _ _ _ _ => pe_call GT r1 (by rfl) mT kT bT .nil pass0 (pa_cons (pv 0) (pa_cons (pv 5) pa_nil)))) pa_nil))) pa_nil))))))
    (pss_one (ps_ret (pe_tup (pa_cons (pe_op op_catT (pe_tup (pa_cons (pv 3) pa_nil)) (pe_callTy call_tuple_of (by rfl) mTuple (by decide +kernel) (pa_cons (pv 4) pa_nil))) (pa_cons (pe_callTy call_tuple_of (by rfl) mTuple (by decide +kernel) (pa_cons (pv 8) pa_nil)) pa_nil)))))))), ?_⟩
  have big : (10000 : Nat) ≤ sizeLine := by decide
  have w4 := W.four
  have w1 := W.one
  have pick : ∀ {H1 : Hp} {j1 : Nat}, BoxAt H1 b j1 → Wsh H1 b d p ws kvs → j1 + 1 ≤ 1000000 → True := fun _ _ _ => trivial
  refine ⟨_, rfl, _, rfl, b, p, _, j, rfl, B, by omega, W.hp, W.pb, by rw [List.length_map]; omega, by rw [List.length_map]; omega, fun v H1 hv B1 o1 => ?_⟩
  obtain ⟨x, hx, rfl⟩ := List.mem_map.mp hv
  have W1 := W.but B o1
  refine ⟨(by show 0 ≤ sizeLine; decide), fun l hl => ⟨(by show 3 ≤ sizeLine; decide), fun t ht => ?_⟩⟩
  have s2 := same_new hl (.lst ([] : List V))
  have s3 := same_new ht (.tup [V.str x, V.ref l, V.int 0])
  have lb : l ≠ b := ne_box B1 hl
  have hl0 : H l = none := but_none o1 B1 hl
  refine ⟨t, _, rfl, .inl (.inl upd_same), rfl, _, _, rfl, _, _, rfl, _, _, rfl, rfl, ?_⟩
  have o3 : But b H _ := o1.trans (but_of (s2.trans s3))
  have B3 := (B1.same s2).same s3
  have hl3 := s3 _ _ (upd_same : (upd H1 l (.lst ([] : List V))) l = _)
  generalize upd (upd H1 l (.lst ([] : List V))) t (.tup [V.str x, V.ref l, V.int 0]) = H3 at o3 B3 hl3 ⊢
  have W3 := W.but B o3
  obtain ⟨_, hval, mm, rfl, mm1, mm2⟩ := W3.sh x hx
  refine ⟨_, rfl, _, rfl, d, _, rfl, by rw [← hval]; exact DGet.k (k := Sum.inr x) W3.hd, _, rfl, by omega, by omega, for_range (lo := 0) (n := ((mm : Nat) : Int).toNat) (fun i σ H6 => ∃ (xs : List V) (fr : Nat) (x6 x7 : Option V), σ = [some (.ref b), some (.ref d), some (.ref p), some (.str x), some (.ref l), some (.int (fr : Nat)), x6, x7, none, none, none] ∧
      H6 l = some (.lst xs) ∧ xs.length = i ∧ fr ≤ 2 * i ∧ BoxAt H6 b (j + 1 + i) ∧ But b H H6)
    ⟨[], 0, none, none, rfl, hl3, rfl, by omega, B3, o3⟩ ?_ ?_⟩
  · rintro i σ H6 hi ⟨xs, fr, x6, x7, rfl, h6l, xl, fl, B6, o6⟩
    refine ⟨_, rfl, b, _, _, rfl, B6, by omega, by decide, by decide, fun way H7 y0 y6 B7 o7 => ?_⟩
    have h7l := o7 _ _ h6l lb
    obtain ⟨k, rfl⟩ := Int.eq_ofNat_of_zero_le y0
    have k6 : k < 6 := by omega
    refine ⟨_, rfl, .inl ⟨rfl, _, .inl (.inl h7l)⟩, (by show 1 ≤ sizeLine; decide), fun a1 ha1 => ⟨_, rfl, ⟨_, rfl, (by show 2 ≤ sizeLine; decide), fun a2 ha2 => ⟨_, rfl, (by show 2 ≤ sizeLine; decide), fun a3 ha3 => ⟨_, rfl, (by show 2 ≤ sizeLine; decide), fun a4 ha4 => ⟨_, rfl, _, rfl, _, _, rfl, rfl, (by show 3 ≤ sizeLine; decide), fun a5 ha5 => ⟨(by show 6 ≤ sizeLine; decide), fun a6 ha6 => ?_⟩⟩⟩⟩⟩⟩⟩
    have q1 := same_new ha1 (.tup [V.str "0"])
    have q2 := same_new ha2 (.tup [V.str "s", V.int (fr : Nat)])
    have q3 := same_new ha3 (.tup [V.str "s", V.int (fr : Nat)])
    have q4 := same_new ha4 (.tup [V.str "s", V.int (fr : Nat)])
    have q5 := same_new ha5 (.tup [V.str "f", V.int (fr : Nat), V.int ((fr : Nat) + 1)])
    have q6 := same_new ha6 (.lst [V.ref a1, V.int (fr : Nat), V.ref a2, V.ref a3, V.ref a4, V.ref a5])
    have sA := q1.trans (q2.trans (q3.trans (q4.trans (q5.trans q6))))
    obtain ⟨y, hy⟩ : ∃ y, [V.ref a1, V.int (fr : Nat), V.ref a2, V.ref a3, V.ref a4, V.ref a5][k]? = some y := ⟨_, List.getElem?_eq_getElem (by simpa using k6)⟩
    obtain ⟨H8, e8, sA⟩ := Same.gen sA
    have e6 : H8 a6 = some (.lst [V.ref a1, V.int (fr : Nat), V.ref a2, V.ref a3, V.ref a4, V.ref a5]) := by rw [← e8]; exact upd_same
    have h8l := sA _ _ h7l
    have B8 := B7.same sA
    refine ⟨_, rfl, a6, _, _, y, rfl, rfl, .inl (.inl upd_same), at_of (j := k) rfl hy, ?_⟩
    rw [e8]
    refine ⟨l, _, _, rfl, rfl, h8l, by omega, ?_⟩
    have o8 := but_new hl0 (o6.trans o7) (o := .lst (xs ++ [y])) fun z u hz nb => sA _ _ hz
    have B9 := B8.upd lb (.lst (xs ++ [y]))
    have h9l : (upd H8 l (.lst (xs ++ [y]))) l = some (.lst (xs ++ [y])) := upd_same
    generalize upd H8 l (.lst (xs ++ [y])) = H9 at o8 B9 h9l ⊢
    refine ⟨_, rfl, (by show 6 ≤ sizeLine; decide), fun a7 ha7 => ?_⟩
    have q7 := same_new ha7 (.lst [V.int 0, V.int 1, V.int 1, V.int 1, V.int 1, V.int 2])
    obtain ⟨z, hz, z2⟩ : ∃ z : Nat, [V.int 0, V.int 1, V.int 1, V.int 1, V.int 1, V.int 2][k]? = some (.int (z : Nat)) ∧ z ≤ 2 := by
      match k, k6 with
      | 0, _ => exact ⟨0, rfl, by omega⟩
      | 1, _ => exact ⟨1, rfl, by omega⟩
      | 2, _ => exact ⟨1, rfl, by omega⟩
      | 3, _ => exact ⟨1, rfl, by omega⟩
      | 4, _ => exact ⟨1, rfl, by omega⟩
      | 5, _ => exact ⟨2, rfl, by omega⟩
    refine ⟨_, rfl, a7, _, _, _, rfl, rfl, .inl (.inl upd_same), at_of (j := k) rfl hz, _, _, rfl, rfl, ?_⟩
    exact ⟨xs ++ [y], fr + z, _, _, rfl, q7 _ _ h9l, by simp [xl], by omega, (B9.same q7).more (by omega), o8.trans (but_of q7)⟩
  · rintro σ H6 ⟨xs, fr, x6, x7, rfl, h6l, xl, fl, B6, o6⟩
    have xl2 : xs.length ≤ 2 := by omega
    refine ⟨(by show 0 ≤ sizeLine; decide), fun l2 hl2 => ?_⟩
    have s7 := same_new hl2 (.lst ([] : List V))
    have l2b : l2 ≠ b := ne_box B6 hl2
    have hl20 : H l2 = none := but_none o6 B6 hl2
    have ll : l ≠ l2 := ne_of_none h6l hl2
    have h7l := s7 _ _ h6l
    have B7 := (B6.same s7).more (k := j + 4) (by omega)
    have o7 := o6.trans (but_of s7)
    have h7 : (upd H6 l2 (.lst ([] : List V))) l2 = some (.lst []) := upd_same
    generalize upd H6 l2 (.lst ([] : List V)) = H7 at h7l B7 o7 h7 ⊢
    refine cnt_ok (H := H7) rfl rfl B7 (by omega) fun n H8 n3 nf B8 o8' => ?_
    have h8l := o8' _ _ h7l lb
    have h82 := o8' _ _ h7 l2b
    have o8 := o7.trans o8'
    refine ⟨_, rfl, by omega, by omega, for_range (lo := 0) (n := ((n : Nat) : Int).toNat) (fun i σ H9 => ∃ (ys : List V) (x6 x9 : Option V), σ = [some (.ref b), some (.ref d), some (.ref p), some (.str x), some (.ref l), some (.int (fr : Nat)), x6, x7, some (.ref l2), x9, none] ∧
      H9 l2 = some (.lst ys) ∧ ys.length = i ∧ H9 l = some (.lst xs) ∧ BoxAt H9 b (j + 5 + 5 * i) ∧ But b H H9)
      ⟨[], _, none, rfl, h82, rfl, h8l, B8, o8⟩ ?_ ?_⟩
    · rintro i σ H9 hi ⟨ys, x6', x9, rfl, h9, yl, h9l, B9, o9⟩
      have fp : 0 < fr := nf (by omega)
      have W9 := W.but B o9
      refine ⟨_, rfl, _, rfl, b, p, _, _, rfl, B9, by omega, W9.hp, W.pb, by rw [List.length_map]; omega, by rw [List.length_map]; omega, fun v H10 hv B10 o10 => ?_⟩
      obtain ⟨x2, hx2, rfl⟩ := List.mem_map.mp hv
      have h10 := o10 _ _ h9 l2b
      refine ⟨_, rfl, .inl ⟨rfl, _, .inl (.inl h10)⟩, _, rfl, (by show 1 ≤ sizeLine; decide), fun t1 ht1 => ?_⟩
      have s11 := same_new ht1 (.tup [V.str x2])
      have t1b : t1 ≠ b := ne_box B10 ht1
      have et1 : (upd H10 t1 (.tup [V.str x2])) t1 = some (.tup [V.str x2]) := upd_same
      have B11 := B10.same s11
      have o11 := (o9.trans o10).trans (but_of s11)
      have h11 := s11 _ _ h10
      have h11l := s11 _ _ (o10 _ _ h9l lb)
      generalize upd H10 t1 (.tup [V.str x2]) = H11 at et1 B11 o11 h11 h11l ⊢
      have W11 := W.but B o11
      obtain ⟨_, hval2, m2, rfl, m21, m22⟩ := W11.sh x2 hx2
      refine ⟨_, rfl, _, rfl, d, _, rfl, by rw [← hval2]; exact DGet.k (k := Sum.inr x2) W11.hd, _, rfl, by omega, by omega, fun D hD => lc_range (lo := 0) (fun r H12 => ∃ zs : List V, H12 D = some (.lst zs) ∧ zs.length = r ∧ BoxAt H12 b (j + 5 + 5 * i + 1 + r) ∧ But b H11 H12)
        ⟨[], upd_same, rfl, (B11.same (same_new hD _)).more (by omega), but_of (same_new hD _)⟩ ?_ ?_⟩
      · rintro r H12 hr' ⟨zs, h12, zl, B12, o12⟩
        have Db : D ≠ b := ne_box B11 hD
        refine ⟨rfl, ?_⟩
        unfold teArgR
        refine ⟨_, rfl, _, rfl, b, _, _, rfl, B12, by omega, by omega, by omega, fun z H13 z0 z1 B13 o13 => ?_⟩
        exact ⟨zs, o13 _ _ h12 Db, by omega, zs ++ [.int z], upd_same, by simp [zl], (B13.upd Db _).more (by omega), but_new hD o12 o13⟩
      · rintro H12 ⟨zs, h12, zl, B12, o12⟩
        have zl2 : zs.length ≤ 2 := by omega
        refine ⟨D, zs, rfl, .inl ⟨.inl (.inl h12), fun g hg => ?_⟩⟩
        have s13 := same_new hg (.tup zs)
        have fin2 : ∀ (v : V) (H14 : Hp), Same H12 H14 → ∃ l0 xs0 y0, V.ref l2 = V.ref l0 ∧ [v] = [y0] ∧ H14 l0 = some (.lst xs0) ∧ xs0.length < sizeLine ∧
            (∃ (ys : List V) (x6 x9 : Option V), ([some (.ref b), some (.ref d), some (.ref p), some (.str x), some (.ref l), some (.int (fr : Nat)), some (.int (0 + (i : Int))), x7, some (.ref l2), some (.str x2), none] : L2.St) = [some (.ref b), some (.ref d), some (.ref p), some (.str x), some (.ref l), some (.int (fr : Nat)), x6, x7, some (.ref l2), x9, none] ∧
              (upd H14 l0 (.lst (xs0 ++ [y0]))) l2 = some (.lst ys) ∧ ys.length = i + 1 ∧ (upd H14 l0 (.lst (xs0 ++ [y0]))) l = some (.lst xs) ∧ BoxAt (upd H14 l0 (.lst (xs0 ++ [y0]))) b (j + 5 + 5 * (i + 1)) ∧ But b H (upd H14 l0 (.lst (xs0 ++ [y0])))) := by
          intro v H14 s14
          have h14 := s14 _ _ (o12 _ _ h11 l2b)
          refine ⟨l2, ys, v, rfl, rfl, h14, by omega, ys ++ [v], _, _, rfl, upd_same, by simp [yl], ?_, ((B12.same s14).upd l2b _).more (by omega), but_new hl20 (o11.trans o12) fun z u hz _ => s14 _ _ hz⟩
          rw [upd_ne ll]
          exact s14 _ _ (o12 _ _ h11l lb)
        refine ⟨t1, g, [V.str x2], zs, rfl, rfl, .inl (.inl (s13 _ _ (o12 _ _ et1 t1b))), .inl (.inl upd_same), by simp, by simp; omega, fun _ => fin2 _ _ s13, fun _ t2 ht2 => fin2 _ _ (s13.trans (same_new ht2 _))⟩
    · rintro σ H9 ⟨ys, x6', x9, rfl, h9, yl, h9l, B9, o9⟩
      have yl3 : ys.length ≤ 3 := by omega
      refine ⟨_, rfl, (by show 1 ≤ sizeLine; decide), fun t1 ht1 => ?_⟩
      have s10 := same_new ht1 (.tup [V.str x])
      refine ⟨_, rfl, l, xs, rfl, .inl ⟨.inl (.inl (s10 _ _ h9l)), fun g hg => ?_⟩⟩
      have s11 := same_new hg (.tup xs)
      have fin3 : ∀ (H14 : Hp), Same H9 H14 → ∀ v : V, ∃ v0, ([some (.ref b), some (.ref d), some (.ref p), some (.str x), some (.ref l), some (.int (fr : Nat)), x6', x7, some (.ref l2), x9, none] : L2.St)[8]? = some (some v0) ∧ ∃ p0 ys0, [v0] = [V.ref p0] ∧
          ((SqL K H14 p0 ys0 ∧ ∀ l0, H14 l0 = none → 2 ≤ sizeLine ∧ ∀ c, (upd H14 l0 (.tup ys0)) c = none → Q (.ref c) (upd (upd H14 l0 (.tup ys0)) c (.tup [v, .ref l0]))) ∨ (SqT K H14 p0 ys0 ∧ 2 ≤ sizeLine ∧ ∀ c, H14 c = none → Q (.ref c) (upd H14 c (.tup [v, .ref p0])))) := by
        intro H14 s14 v
        refine ⟨_, rfl, l2, ys, rfl, .inl ⟨.inl (.inl (s14 _ _ h9)), fun l0 hl0 => ⟨by decide, fun c hc => ?_⟩⟩⟩
        have s15 := same_new hl0 (.tup ys)
        have s16 := same_new hc (.tup [v, .ref l0])
        have sB := s14.trans (s15.trans s16)
        exact q _ _ ((B9.same sB).more (by omega)) (o9.trans (but_of sB))
      exact ⟨t1, g, [V.str x], xs, rfl, rfl, .inl (.inl (s11 _ _ upd_same)), .inl (.inl upd_same), by simp, by simp; omega, fun _ => fin3 _ (s10.trans s11) _, fun _ t2 ht2 => fin3 _ (s10.trans (s11.trans (same_new ht2 _))) _⟩
end
end Rp

set_option maxHeartbeats 16000000
namespace Rp
open PySem PySem.Spec PyProof.Rows L2 TL StX
def spBaseL : Sp := fun vs H Q _ => ∃ (d : Addr) (kvs : KVs) (x : Str) (m : Nat), vs = [.ref d, .str x] ∧ H d = some (.dK kvs) ∧ valV kvs (.inr x) = some (.int (m : Nat)) ∧ 1 ≤ m ∧ m ≤ 2 ∧ ∀ (v : V) (H' : Hp), Same H H' → Q v H'
def spRulesL : Sp := fun vs H Q _ => ∃ (b d p : Addr) (ws : List Str) (kvs : KVs) (j n : Nat), vs = [.ref b, .ref d, .ref p, .int (n : Nat)] ∧ 1 ≤ n ∧ n ≤ 8 ∧ BoxAt H b j ∧ Wsh H b d p ws kvs ∧ j + 250 ≤ 1000000 ∧
  ∀ (v : V) (H' : Hp), BoxAt H' b (j + 250) → But b H H' → Q v H'
def spBegin : Sp := fun vs H Q _ => ∃ (b : Addr) (j n : Nat), vs = [.ref b, .int (n : Nat)] ∧ 1 ≤ n ∧ n ≤ 8 ∧ BoxAt H b j ∧ j + 270 ≤ 1000000 ∧
  ∀ (t d p : Addr) (r : V) (ws : List Str) (kvs : KVs) (H' : Hp), H' t = some (.tup [.ref p, .ref d, r]) → Wsh H' b d p ws kvs → (∀ x ∈ ws, NameOk x) → BoxAt H' b (j + 270) → But b H H' → Q (.ref t) H'
def teBaseL : TE := tCall spBaseL [] E0 (tCons (tVar 1) (tCons (tVar 6) tNil))
def ttBaseL : TT := tTest (tOp (rI0 fun i j => .bl (decide (j < i))) (tCall spTake [] E0 (tCons (tVar 0) (tCons (tC (.int 3)) tNil))) (tC (.int 0)))
theorem Wsh.same {H H' : Hp} {b d p : Addr} {ws : List Str} {kvs : KVs} (W : Wsh H b d p ws kvs) (o : Same H H') : Wsh H' b d p ws kvs := ⟨o _ _ W.hd, W.sh, o _ _ W.hp, W.pb, W.one, W.four⟩
section
variable {P : Program} {w : World} {K : PySem.W.Frag} {mg : Str → Option Value} {base : Heap}
theorem scBaseL : FnScope ["_law_shapes_here", "_law_word"] ["_law_shapes_here", "_law_word"] (defScope sBaseL) := ⟨rfl, rfl, rfl, by decide +kernel, rfl, by decide +kernel, by decide +kernel⟩
theorem ok_basel {f : Addr} {fd : FuncData} (F : Fun K "_law_base" "_law_base" sBaseL f fd) : FnOk P w K mg base CX0 1 f fd ["_law_shapes_here", "_law_word"] spBaseL := by
  refine F.ok scBaseL (fun vs H Q E h => ?_) (fun cdv A outer s H vs Q E hr h => ?_)
  · obtain ⟨d, kvs, x, m, rfl, _⟩ := h
    rfl
  obtain ⟨d, kvs, x, m, rfl, hd, hv, m1, m2, q⟩ := h
  refine ⟨_, pss_one (ps_ret (pe_tup (pa_cons (pe_op op_catT (pe_tup (pa_cons (pv 1) pa_nil)) (pe_op op_repO (pe_tup (pa_cons (pe_tup (pa_cons pe_str pa_nil)) pa_nil)) (pe_dget (hu_of hr) (pv 0) (pv 1) (fun _ _ => rfl)))) (pa_cons (pe_tup pa_nil) pa_nil)))), ?_⟩
  have big : (10 : Nat) ≤ sizeLine := by decide
  refine ⟨_, rfl, (by show 1 ≤ sizeLine; decide), fun t1 h1 => ?_⟩
  have s1 := same_new h1 (.tup [V.str x])
  refine ⟨(by show 1 ≤ sizeLine; decide), fun t2 h2 => ⟨(by show 1 ≤ sizeLine; decide), fun t3 h3 => ?_⟩⟩
  have s2 := same_new h2 (.tup [V.str "0"])
  have s3 := same_new h3 (.tup [V.ref t2])
  have sA := s1.trans (s2.trans s3)
  refine ⟨_, rfl, _, rfl, d, _, rfl, by rw [← hv]; exact DGet.k (k := Sum.inr x) (sA _ _ hd), t3, _, _, rfl, rfl, .inl (.inl upd_same), by simp, by omega, by omega, by simp, fun _ => ?_, fun _ t4 h4 => ?_⟩
  · refine ⟨t1, t3, _, _, rfl, rfl, .inl (.inl (s3 _ _ (s2 _ _ upd_same))), .inl (.inl upd_same), by simp, by rw [List.length_singleton, List.length_singleton]; omega, fun e => by simp at e, fun _ t5 h5 => ⟨(by show 0 ≤ sizeLine; decide), fun t6 h6 => ⟨(by show 2 ≤ sizeLine; decide), fun t7 h7 => ?_⟩⟩⟩
    exact q _ _ (sA.trans ((same_new h5 _).trans ((same_new h6 _).trans (same_new h7 _))))
  · have s4 := same_new h4 (.tup (List.replicate (m : Int).toNat [V.ref t2]).flatten)
    have ln : (List.replicate (m : Int).toNat [V.ref t2]).flatten.length = m := by simp
    refine ⟨t1, t4, _, _, rfl, rfl, .inl (.inl (s4 _ _ (s3 _ _ (s2 _ _ upd_same)))), .inl (.inl upd_same), by simp, by rw [ln, List.length_singleton]; omega, fun e => by rw [e] at ln; simp at ln; omega, fun _ t5 h5 => ⟨(by show 0 ≤ sizeLine; decide), fun t6 h6 => ⟨(by show 2 ≤ sizeLine; decide), fun t7 h7 => ?_⟩⟩⟩
    exact q _ _ (sA.trans (s4.trans ((same_new h5 _).trans ((same_new h6 _).trans (same_new h7 _)))))
abbrev NRs : List Str := ["_law_box_here", "_law_shapes_here", "_law_names_here", "_law_count", "_law_found", "_law_turn", "_law_word"]
theorem scRulesL : FnScope NRs ["_law_box_here", "_law_shapes_here", "_law_names_here", "_law_count"] (defScope sRulesL) := ⟨rfl, rfl, rfl, by decide +kernel, rfl, by decide +kernel, by decide +kernel⟩
theorem ok_rulesl {f fT fB fR : Addr} {fd fdT dB dR : FuncData} (F : Fun K "_law_rules" "_law_rules" sRulesL f fd)
    (GT : FnOk P w K mg base CX0 1 fT fdT ["_law_box_here", "_law_reach"] spTake) (kT : PySem.W.keepIn K (.ref fT) = true) (bT : Binds K fdT ["_law_box_here", "_law_reach"] []) (mT : mg "_law_take" = some (.ref fT))
    (GB : FnOk P w K mg base CX0 1 fB dB ["_law_shapes_here", "_law_word"] spBaseL) (kB : PySem.W.keepIn K (.ref fB) = true) (bB : Binds K dB ["_law_shapes_here", "_law_word"] []) (mB : mg "_law_base" = some (.ref fB))
    (GR : FnOk P w K mg base CX0 3 fR dR ["_law_box_here", "_law_shapes_here", "_law_names_here"] spRuleL) (kR : PySem.W.keepIn K (.ref fR) = true) (bR : Binds K dR ["_law_box_here", "_law_shapes_here", "_law_names_here"] []) (mR : mg "_law_rule" = some (.ref fR))
    (mRange : mg "range" = none) : FnOk P w K mg base CX0 4 f fd ["_law_box_here", "_law_shapes_here", "_law_names_here", "_law_count"] spRulesL := by
  refine F.ok scRulesL (fun vs H Q E h => ?_) (fun cdv A outer s H vs Q E hr h => ?_)
  · obtain ⟨b, d, p, ws, kvs, j, n, rfl, _⟩ := h
    rfl
  obtain ⟨b, d, p, ws, kvs, j, n, rfl, n1, n8, B, W, hj, q⟩ := h
  have r1 : Room 1 _ := hr.mono (by decide)
  refine ⟨_, pss_cons (ps_setLc (i := 4) (own := [("_law_word", 6)]) (g := gName 6) (tt := ttBaseL) (te := teBaseL) rfl scRulesL.nd rfl rfl (by rfl) (pi_list (pv 2))
        (blkOk_by (N := NRs) (sc := defScope sRulesL) (by decide +kernel)) (fun _ _ _ _ _ => pg_name (i := 6) scRulesL.nd rfl (Or.inl rfl)) (fun _ _ _ _ _ => pts_one (pt_cmpR op_gt (pe_call GT r1 (by rfl) mT kT bT .nil pass0 (pa_cons (pv 0) (pa_cons pe_int pa_nil))) pe_int (nomark _)))
        (fun _ _ _ _ _ => pe_call GB r1 (by rfl) mB kB bB .nil pass0 (pa_cons (pv 1) (pa_cons (pv 6) pa_nil))))
    (pss_cons (ps_for PassesOwn.never rfl (pi_range1 (by rfl) mRange (pa_cons (pe_op op_add pe_int (pe_call GT r1 rfl mT kT bT .nil pass0 (pa_cons (pv 0) (pa_cons (pv 3) pa_nil)))) pa_nil)) (pg_name (i := 5) scRulesL.nd rfl (Or.inl rfl))
      (pss_one (ps_expr (pe_bm PySem.F.plainAttrs_list PySem.F.slot_list_append PySem.F.type_list_append mt_append (pv 4) (pa_cons (pe_call GR hr rfl mR kR bR .nil pass0 (pa_cons (pv 0) (pa_cons (pv 1) (pa_cons (pv 2) pa_nil)))) pa_nil)))))
    (pss_one (ps_ret (pe_slice sl_list (pv 4) po_none (po_some (pv 3)))))), ?_⟩
  have big : (10000 : Nat) ≤ sizeLine := by decide
  have w4 := W.four
  refine ⟨_, rfl, p, rfl, ⟨_, .inl (.inl W.hp)⟩, fun D hD => lc_list (K := K) (a := p) (xs := ws.map V.str) (fun i H2 => ∃ xs : List V, H2 D = some (.lst xs) ∧ xs.length ≤ i ∧ BoxAt H2 b (j + i) ∧ But b H H2)
    ⟨[], upd_same, Nat.le_refl _, (B.same (same_new hD _)).more (by omega), but_of (same_new hD _)⟩ (fun i H2 _ ⟨_, _, _, _, o⟩ => .inl (.inl (o _ _ W.hp W.pb))) ?_ ?_⟩
  · rintro i x H2 hi ⟨xs, h2, xl, B2, o2⟩
    have Db : D ≠ b := ne_box B hD
    have i4 : i < ws.length := by
      have := (List.getElem?_eq_some_iff.mp hi).1
      rw [List.length_map] at this
      exact this
    obtain ⟨y, hy, rfl⟩ := List.mem_map.mp (List.mem_of_getElem? hi)
    refine ⟨rfl, ?_⟩
    unfold ttBaseL teBaseL
    refine ⟨_, rfl, b, _, _, rfl, B2, by omega, by decide, by decide, fun r H3 c0 c1 B3 o3 => ?_⟩
    refine ⟨_, _, rfl, rfl, decide ((0 : Int) < r), rfl, ?_⟩
    have h3 := o3 _ _ h2 Db
    have o23 := o2.trans o3
    by_cases hr0 : (0 : Int) < r
    · rw [decide_eq_true hr0]
      have W3 := W.but B o23
      obtain ⟨_, hval, m, rfl, m1, m2⟩ := W3.sh y hy
      refine iteT ⟨_, rfl, _, rfl, d, kvs, y, m, rfl, W3.hd, hval, m1, m2, fun v H4 s4 => ?_⟩
      exact ⟨xs, s4 _ _ h3, by omega, xs ++ [v], upd_same, by simp; omega, ((B3.same s4).upd Db _).more (by omega), but_new hD o2 fun z u hz nb => s4 _ _ (o3 _ _ hz nb)⟩
    · rw [decide_eq_false hr0]
      exact iteF ⟨xs, h3, by omega, B3.more (by omega), o23⟩
  · rintro H2 ⟨xs, h2, xl, B2, o2⟩
    rw [List.length_map] at xl B2
    have Db : D ≠ b := ne_box B hD
    refine ⟨_, rfl, _, rfl, b, _, _, rfl, B2, by omega, by omega, by omega, fun r H3 c0 c1 B3 o3 => ?_⟩
    obtain ⟨k, rfl⟩ := Int.eq_ofNat_of_zero_le c0
    refine ⟨_, _, rfl, rfl, _, rfl, by omega, by omega, for_range (lo := 0) (n := ((1 : Int) + (k : Nat)).toNat) (fun i σ H6 => ∃ (ys : List V) (x5 x6 : Option V), σ = [some (.ref b), some (.ref d), some (.ref p), some (.int (n : Nat)), some (.ref D), x5, x6] ∧
      H6 D = some (.lst ys) ∧ ys.length = xs.length + i ∧ BoxAt H6 b (j + 5 + 30 * i) ∧ But b H H6)
      ⟨xs, _, _, rfl, o3 _ _ h2 Db, rfl, B3.more (by omega), o2.trans o3⟩ ?_ ?_⟩
    · rintro i σ H6 hi ⟨ys, x5, x6, rfl, h6, yl, B6, o6⟩
      have W6 := W.but B o6
      refine ⟨_, rfl, .inl ⟨rfl, _, .inl (.inl h6)⟩, _, rfl, _, rfl, _, rfl, b, d, p, ws, kvs, _, rfl, B6, W6, by omega, fun v H7 B7 o7 => ?_⟩
      have h7 := o7 _ _ h6 Db
      exact ⟨D, ys, v, rfl, rfl, h7, by omega, ys ++ [v], _, _, rfl, upd_same, by simp [yl]; omega, (B7.upd Db _).more (by omega), but_new hD o6 o7⟩
    · rintro σ H6 ⟨ys, x5, x6, rfl, h6, yl, B6, o6⟩
      refine ⟨_, rfl, _, rfl, (n : Int), rfl, D, ys, rfl, .inl (.inl h6), fun g hg => ?_⟩
      have s7 := same_new hg (.lst (cutV ys none (some (n : Int))))
      exact q _ _ ((B6.same s7).more (by omega)) (o6.trans (but_of s7))
theorem scBegin : FnScope ["_law_box_here", "_law_count", "_law_words", "_law_shapes_here"] ["_law_box_here", "_law_count"] (defScope sBegin) := ⟨rfl, rfl, rfl, by decide +kernel, rfl, by decide +kernel, by decide +kernel⟩
theorem ok_begin {f fT fN fS fR : Addr} {fd fdT dN dS dR : FuncData} (F : Fun K "_law_begin" "_law_begin" sBegin f fd)
    (GT : FnOk P w K mg base CX0 1 fT fdT ["_law_box_here", "_law_reach"] spTake) (kT : PySem.W.keepIn K (.ref fT) = true) (bT : Binds K fdT ["_law_box_here", "_law_reach"] []) (mT : mg "_law_take" = some (.ref fT))
    (GN : FnOk P w K mg base CX0 2 fN dN ["_law_box_here", "_law_count"] spWords) (kN : PySem.W.keepIn K (.ref fN) = true) (bN : Binds K dN ["_law_box_here", "_law_count"] []) (mN : mg "_law_names" = some (.ref fN))
    (GS : FnOk P w K mg base CX0 2 fS dS ["_law_box_here", "_law_names_here"] spShapes) (kS : PySem.W.keepIn K (.ref fS) = true) (bS : Binds K dS ["_law_box_here", "_law_names_here"] []) (mS : mg "_law_shapes" = some (.ref fS))
    (GR : FnOk P w K mg base CX0 4 fR dR ["_law_box_here", "_law_shapes_here", "_law_names_here", "_law_count"] spRulesL) (kR : PySem.W.keepIn K (.ref fR) = true) (bR : Binds K dR ["_law_box_here", "_law_shapes_here", "_law_names_here", "_law_count"] []) (mR : mg "_law_rules" = some (.ref fR)) : FnOk P w K mg base CX0 5 f fd ["_law_box_here", "_law_count"] spBegin := by
  refine F.ok scBegin (fun vs H Q E h => ?_) (fun cdv A outer s H vs Q E hr h => ?_)
  · obtain ⟨b, j, n, rfl, _⟩ := h
    rfl
  obtain ⟨b, j, n, rfl, n1, n8, B, hj, q⟩ := h
  have r1 : Room 1 _ := hr.mono (by decide)
  have r2 : Room 2 _ := hr.mono (by decide)
  refine ⟨_, pss_cons (ps_set (i := 2) scBegin.nd rfl (Or.inl rfl) (pe_call GN r2 rfl mN kN bN .nil pass0 (pa_cons (pv 0) (pa_cons (pe_op op_add pe_int (pe_call GT r1 rfl mT kT bT .nil pass0 (pa_cons (pv 0) (pa_cons pe_int pa_nil)))) pa_nil))))
    (pss_cons (ps_set (i := 3) scBegin.nd rfl (Or.inl rfl) (pe_call GS r2 rfl mS kS bS .nil pass0 (pa_cons (pv 0) (pa_cons (pv 2) pa_nil))))
    (pss_one (ps_ret (pe_tup (pa_cons (pv 2) (pa_cons (pv 3) (pa_cons (pe_call GR hr rfl mR kR bR .nil pass0 (pa_cons (pv 0) (pa_cons (pv 3) (pa_cons (pv 2) (pa_cons (pv 1) pa_nil))))) pa_nil))))))), ?_⟩
  refine ⟨_, rfl, _, rfl, b, _, _, rfl, B, by omega, by decide, by decide, fun r H1 c0 c1 B1 o1 => ?_⟩
  obtain ⟨k, rfl⟩ := Int.eq_ofNat_of_zero_le c0
  refine ⟨_, _, rfl, rfl, b, _, 1 + k, rfl, by omega, by omega, B1, by omega, fun p ws H2 hp0 hp wl wo wn B2 o2 => ?_⟩
  have pb : p ≠ b := ne_box B1 hp0
  refine ⟨_, rfl, _, rfl, b, p, ws, _, rfl, B2, hp, pb, by omega, by omega, fun d kvs H3 hd0 hd sh B3 o3 => ?_⟩
  have W3 : Wsh H3 b d p ws kvs := ⟨hd, sh, o3 _ _ hp pb, pb, by omega, by omega⟩
  refine ⟨_, rfl, _, rfl, _, rfl, _, rfl, _, rfl, _, rfl, b, d, p, ws, kvs, _, n, rfl, n1, n8, B3, W3, by omega, fun v H4 B4 o4 => ⟨(by show 3 ≤ sizeLine; decide), fun t ht => ?_⟩⟩
  have s5 := same_new ht (.tup [V.ref p, V.ref d, v])
  exact q t d p v ws kvs _ upd_same ((W3.but B3 o4).same s5) wo ((B4.same s5).more (by omega)) (o1.trans (o2.trans (o3.trans (o4.trans (but_of s5)))))
end
end Rp

set_option maxHeartbeats 8000000
/-! ATOMs, SAYINGs, BINDINGs as data: how large; what is shown of data. -/
namespace Rp
open PySem PySem.Spec PyProof.Rows L2 TL RZ StX
theorem dat_tup {H : Hp} {b c : Addr} {xs : List V} {ds : List PyData} (h : H c = some (.tup xs)) (A : DAtAll H b xs ds) : DAt H b (.ref c) (.tuple ds) := by unfold DAt; exact ⟨c, xs, rfl, .inl h, A⟩
theorem dat_str {H : Hp} {b : Addr} {x : Str} : DAt H b (.str x) (.str x) := by unfold DAt; rfl
theorem dat_int {H : Hp} {b : Addr} {n : Int} : DAt H b (.int n) (.int n) := by unfold DAt; rfl
theorem AllAt.dat {H : Hp} {b : Addr} : ∀ {xs : List V} {ts : List Tm}, AllAt H xs ts → DAtAll H b xs (ts.map tmD)
  | [], [], _ => .nil
  | _ :: _, _ :: _, h => .cons h.1.dat (AllAt.dat h.2)
theorem AtAt.dat {H : Hp} {b : Addr} {v : V} {a : At} (h : AtAt H v a) : DAt H b v (atD a) := by
  obtain ⟨p, xs, rfl, hp, A⟩ := h
  exact dat_tup hp (.cons dat_str A.dat)
theorem AtsAt.dat {H : Hp} {b : Addr} : ∀ {xs : List V} {as : List At}, AtsAt H xs as → DAtAll H b xs (as.map atD)
  | [], [], _ => .nil
  | _ :: _, _ :: _, h => .cons h.1.dat (AtsAt.dat h.2)
def syD (s : Sy) : PyData := .tuple [.tuple (s.hs.map atD), atD s.gl]
theorem SyAt.dat {H : Hp} {b : Addr} {v : V} {s : Sy} (h : SyAt H v s) : DAt H b v (syD s) := by
  obtain ⟨p, q, vg, xs, rfl, hp, hq, A, G⟩ := h
  exact dat_tup hp (.cons (dat_tup hq A.dat) (.cons G.dat .nil))
/-! how large -/
theorem low_asc {x : Str} {L : Nat} (h : NameOk x) (hL : 6 ≤ L) : Asc L x := ⟨Nat.le_trans h.few hL, fun c hc => by have := h.low c hc; omega⟩
theorem fq_tm {L : Nat} (hL : 1 ≤ L) : ∀ {t : Tm}, t.small → Fq (t.deep + 1) 6 L (tmD t)
  | .v n, h => (fq_int (k := 0) (by have := h n (by simp [Tm.nums]); omega)).more (by omega) (Nat.le_refl _) (Nat.le_refl _)
  | .z, _ => fq_tup.mpr ⟨by simp, fun d hd => by
      obtain rfl : d = .str "0" := by simpa using hd
      exact Asc.fq ((asc_of (L := 1) (by decide +kernel)).more hL)⟩
  | .s t, h => fq_tup.mpr ⟨by simp, fun d hd => by
      simp only [List.mem_cons, List.not_mem_nil, or_false] at hd
      rcases hd with rfl | rfl
      · exact Asc.fq ((asc_of (L := 1) (by decide +kernel)).more hL)
      · exact fq_tm hL (t := t) fun n hn => h n hn⟩
  | .f l r, h => fq_tup.mpr ⟨by simp, fun d hd => by
      simp only [List.mem_cons, List.not_mem_nil, or_false] at hd
      rcases hd with rfl | rfl | rfl
      · exact Asc.fq ((asc_of (L := 1) (by decide +kernel)).more hL)
      · exact (fq_tm hL (t := l) fun n hn => h n (by simp [Tm.nums, hn])).more (by simp only [Tm.deep]; omega) (Nat.le_refl _) (Nat.le_refl _)
      · exact (fq_tm hL (t := r) fun n hn => h n (by simp [Tm.nums, hn])).more (by simp only [Tm.deep]; omega) (Nat.le_refl _) (Nat.le_refl _)⟩
theorem fq_tm7 {t : Tm} (h : t.small) (z : t.size ≤ 7) : Fq 7 6 7 (tmD t) ∧ nd (tmD t) ≤ 14 := by
  have dl := Tm.deep_lt t
  have n := (tm_ok t).2.2
  exact ⟨(fq_tm (by decide) h).more (by omega) (Nat.le_refl _) (Nat.le_refl _), by omega⟩
theorem ndAll_le_mul {n : Nat} : ∀ {ds : List PyData}, (∀ d ∈ ds, nd d ≤ n) → ndAll ds ≤ n * ds.length
  | [], _ => by simp [ndAll]
  | d :: ds, h => by
    have h1 := h d (by simp)
    have h2 := ndAll_le_mul (ds := ds) fun e he => h e (by simp [he])
    simp only [ndAll, List.length_cons, Nat.mul_add]
    omega
theorem fq_at7 {a : At} (ok : AtOk 7 a) : Fq 8 6 7 (atD a) ∧ nd (atD a) ≤ 30 ∧ IsAm (atD a) := by
  have o1 := ok.one
  have o2 := ok.two
  refine ⟨fq_tup.mpr ⟨by simp; omega, fun d hd => ?_⟩, ?_, isAm_at.mpr ⟨a, rfl, ⟨ok.nm, ok.one, ok.two, fun t ht => (ok.sm t ht).1⟩⟩⟩
  · rcases List.mem_cons.mp hd with rfl | hd
    · exact (Asc.fq (k := 0) (low_asc ok.nm (by decide))).more (by omega) (Nat.le_refl _) (Nat.le_refl _)
    · obtain ⟨t, ht, rfl⟩ := List.mem_map.mp hd
      exact (fq_tm7 (ok.sm t ht).1 (ok.sm t ht).2).1
  · have z := ndAll_le_mul (n := 14) (ds := a.ts.map tmD) fun d hd => by
      obtain ⟨t, ht, rfl⟩ := List.mem_map.mp hd
      exact (fq_tm7 (ok.sm t ht).1 (ok.sm t ht).2).2
    rw [List.length_map] at z
    have y : 14 * a.ts.length ≤ 28 := by omega
    show nd (.tuple (.str a.nm :: a.ts.map tmD)) ≤ 30
    simp only [nd, ndAll]
    omega
theorem fq_sy {s : Sy} (ok : SyOk s) (h7 : ∀ a ∈ s.hs, AtOk 7 a) (g7 : AtOk 7 s.gl) : Fq 10 6 7 (syD s) ∧ nd (syD s) ≤ 212 ∧ IsSy (syD s) := by
  have h6 := ok.hs.few
  have each : ∀ d ∈ s.hs.map atD, Fq 8 6 7 d ∧ nd d ≤ 30 ∧ IsAm d := fun d hd => by
    obtain ⟨a, ha, rfl⟩ := List.mem_map.mp hd
    exact fq_at7 (h7 a ha)
  obtain ⟨g1, g2, g3⟩ := fq_at7 g7
  refine ⟨fq_tup.mpr ⟨by simp, fun d hd => ?_⟩, ?_, ⟨_, _, rfl, ⟨by rw [List.length_map]; omega, fun d hd => (each d hd).2.2, g3, nodup_atD.mpr ok.nd⟩⟩⟩
  · simp only [List.mem_cons, List.not_mem_nil, or_false] at hd
    rcases hd with rfl | rfl
    · exact fq_tup.mpr ⟨by rw [List.length_map]; omega, fun d hd => (each d hd).1⟩
    · exact g1.more (by omega) (Nat.le_refl _) (Nat.le_refl _)
  · have z := ndAll_le_mul (n := 30) (ds := s.hs.map atD) fun d hd => (each d hd).2.1
    rw [List.length_map] at z
    have y : 30 * s.hs.length ≤ 180 := by omega
    show nd (.tuple [.tuple (s.hs.map atD), atD s.gl]) ≤ 212
    simp only [nd, ndAll]
    omega
/-! what is shown -/
mutual
theorem sh_shown {W L : Nat} (hL : L ≤ 900) : ∀ {d : PyData}, shG W L d → d.hasDict = false → d.showable = true ∧ d.intsShort 13 = true ∧ d.weight + 1 ≤ 1000 * nd d
  | .none, _, _ => ⟨rfl, rfl, by decide⟩
  | .bool b, _, _ => ⟨rfl, rfl, by simp [PyData.weight, nd]⟩
  | .int i, h, _ => by
    unfold shG at h
    have a : i.natAbs ≤ 2000 := by omega
    have b : i.natAbs.log2 ≤ 11 := by
      by_cases h0 : i.natAbs = 0
      · rw [h0]; decide
      · exact Nat.le_of_lt_succ ((Nat.log2_lt h0).mpr (by omega))
    refine ⟨?_, ?_, ?_⟩
    · simp only [PyData.showable, decide_eq_true_eq]; omega
    · simp only [PyData.intsShort, decide_eq_true_eq]; exact PyData.shown_int_le (by omega)
    · simp only [PyData.weight, nd]; split <;> omega
  | .str x, h, _ => by
    unfold shG at h
    have : x.cps.size ≤ L := h.1
    refine ⟨rfl, rfl, ?_⟩
    simp only [PyData.weight, nd]
    omega
  | .list ds, h, n => by
    unfold shG at h
    have z := shs_shown hL h.2 (by simpa [PyData.hasDict] using n)
    simp only [PyData.showable, PyData.intsShort, PyData.weight, nd]
    exact ⟨z.1, z.2.1, by omega⟩
  | .tuple ds, h, n => by
    unfold shG at h
    have z := shs_shown hL h.2 (by simpa [PyData.hasDict] using n)
    simp only [PyData.showable, PyData.intsShort, PyData.weight, nd]
    exact ⟨z.1, z.2.1, by omega⟩
  | .dict _, _, n => by simp [PyData.hasDict] at n
theorem shs_shown {W L : Nat} (hL : L ≤ 900) : ∀ {ds : List PyData}, shGs W L ds → PyData.hasDictAll ds = false → PyData.showableAll ds = true ∧ PyData.intsShortAll 13 ds = true ∧ PyData.weightAll ds ≤ 1000 * ndAll ds
  | [], _, _ => ⟨rfl, rfl, by decide⟩
  | d :: ds, h, n => by
    unfold shGs at h
    rw [PyData.hasDictAll, Bool.or_eq_false_iff] at n
    have a := sh_shown hL h.1 n.1
    have b := shs_shown hL h.2 n.2
    simp only [PyData.showableAll, PyData.intsShortAll, PyData.weightAll, ndAll, Bool.and_eq_true]
    exact ⟨⟨a.1, b.1⟩, ⟨a.2.1, b.2.1⟩, by omega⟩
end
mutual
theorem DAt.nodict {H : Hp} {b : Addr} : ∀ {d : PyData} {v : V}, DAt H b v d → d.hasDict = false
  | .none, _, _ => rfl
  | .bool _, _, _ => rfl
  | .int _, _, _ => rfl
  | .str _, _, _ => rfl
  | .list ds, _, h => by
    unfold DAt at h
    obtain ⟨a, xs, _, _, _, h⟩ := h
    exact DAtAll.nodict h
  | .tuple ds, _, h => by
    unfold DAt at h
    obtain ⟨a, xs, _, _, h⟩ := h
    exact DAtAll.nodict h
  | .dict _, _, h => by unfold DAt at h; exact h.elim
theorem DAtAll.nodict {H : Hp} {b : Addr} : ∀ {ds : List PyData} {xs : List V}, DAtAll H b xs ds → PyData.hasDictAll ds = false
  | [], _, _ => rfl
  | d :: ds, _, h => by
    unfold DAtAll at h
    obtain ⟨x, r, _, h1, h2⟩ := h
    rw [PyData.hasDictAll, DAt.nodict h1, DAtAll.nodict h2]
    rfl
end
theorem fq_shown {H : Hp} {b : Addr} {v : V} {k W L : Nat} {d : PyData} (h : Fq k W L d) (D : DAt H b v d) (hk : k ≤ 60) (hL : L ≤ 900) (hn : nd d ≤ 1000) : d.showable = true ∧ d.hasDict = false ∧ d.depth ≤ 64 ∧ d.shown.length ≤ sizeLine := by
  obtain ⟨h2, h3, h5⟩ := sh_shown hL h.sh D.nodict
  have dp := h.dp
  have big : (15728653 : Nat) ≤ sizeLine := by decide
  refine ⟨h2, D.nodict, by omega, Nat.le_trans (shown_le13 ?_ h3) big⟩
  unfold PyData.layable0
  rw [h.lay, decide_eq_true (by omega : d.depth ≤ 64), decide_eq_true (by omega : d.weight ≤ 2 ^ 20)]
  rfl
end Rp

set_option maxHeartbeats 8000000
/-! A SAYING's variables, a BINDING put into it. -/
namespace Rp
open PySem PySem.Spec PyProof.Rows L2 TL NdefX LamX StX PpSet
def atPut (bd : Bd) (a : At) : At := ⟨a.nm, a.ts.map (Tm.put bd)⟩
def atNums (a : At) : List Int := a.ts.flatMap Tm.nums
def syPut (bd : Bd) (s : Sy) : Sy := ⟨unl (s.hs.map (atPut bd)), atPut bd s.gl⟩
def syNums (s : Sy) : List Int := (s.hs ++ [s.gl]).flatMap atNums
theorem AtAt.tups {H H' : Hp} (u : Tups H H') {v : V} {a : At} (h : AtAt H v a) : AtAt H' v a := atAt_mono u.1 h
theorem AtsAt.tups {H H' : Hp} (u : Tups H H') {v : List V} {a : List At} (h : AtsAt H v a) : AtsAt H' v a := h.mono u.1
theorem AtsAt.take {H : Hp} : ∀ {xs : List V} {as : List At} (n : Nat), AtsAt H xs as → AtsAt H (xs.take n) (as.take n)
  | _, _, 0, _ => trivial
  | [], [], n + 1, _ => trivial
  | _ :: _, _ :: _, n + 1, h => ⟨h.1, AtsAt.take n h.2⟩
/-- how large an ATOM is that may be asked for its variables -/
def Few7 (a : At) : Prop := a.ts.length ≤ 2 ∧ ∀ t ∈ a.ts, t.size ≤ 7
def spSyVars : Sp := fun vs H Q _ => ∃ (v : V) (s : Sy), vs = [v] ∧ SyAt H v s ∧ s.hs.length ≤ 6 ∧ (∀ a ∈ s.hs, Few7 a) ∧ Few7 s.gl ∧ ∀ (g : Addr) (ns : List Int) (H' : Hp), H g = none → H' g = some (.lst (ns.map V.int)) → ns.Pairwise (· < ·) → (∀ k, k ∈ ns ↔ k ∈ syNums s) → Same H H' → Q (.ref g) H'
def spSyPut (T : List NTab) : Sp := fun vs H Q _ => ∃ (v : V) (s : Sy) (a : Addr) (bd : Bd), vs = [v, .ref a] ∧ SyAt H v s ∧ s.hs.length ≤ 6 ∧ (∀ a ∈ s.hs, Few7 a ∧ AtOk 50 (atPut bd a)) ∧ Few7 s.gl ∧ BdAt H a bd ∧ TabsN T H ∧
  ∀ (v' : V) (H' : Hp), SyAt H' v' (syPut bd s) → Ext T H H' → Q v' H'
abbrev NSV : List Str := ["saying", "hyps", "goal", "atom", "variable"]
abbrev NSP : List Str := ["saying", "binding", "hyps", "goal", "hyp"]
theorem few_nums {a : At} (h : Few7 a) {ns : List Int} (up : ns.Pairwise (· < ·)) (mem : ∀ k, k ∈ ns ↔ k ∈ atNums a) : ns.length ≤ 8 := by
  have f := rising_few up fun k hk => (mem k).1 hk
  have each : ∀ ts : List Tm, (∀ t ∈ ts, t.size ≤ 7) → (ts.flatMap Tm.nums).length ≤ 4 * ts.length := by
    intro ts
    induction ts with
    | nil => intro _; simp
    | cons t ts ih =>
      intro h
      have h1 := h t (by simp)
      have h2 := ih fun u hu => h u (by simp [hu])
      have h3 := nums_half t
      rw [List.flatMap_cons, List.length_append, List.length_cons, Nat.mul_add]
      omega
  have := each a.ts h.2
  have h2 := h.1
  have e : (atNums a).length = (a.ts.flatMap Tm.nums).length := rfl
  have : 4 * a.ts.length ≤ 8 := by omega
  omega
section
variable {P : Program} {w : World} {K : PySem.W.Frag} {mg : Str → Option Value} {base : Heap}
theorem scSV : FnScope NSV ["saying"] (defScope sSayVars) := ⟨rfl, rfl, rfl, by decide +kernel, rfl, by decide +kernel, by decide +kernel⟩
theorem scSP : FnScope NSP ["saying", "binding"] (defScope sSayPut) := ⟨rfl, rfl, rfl, by decide +kernel, rfl, by decide +kernel, by decide +kernel⟩
def teAV : TE := fun σ H Q => tCons (tVar 3) tNil σ H fun vs H1 => spAVars vs H1 Q E0
theorem ok_syvars {f fV : Addr} {fd dV : FuncData} (F : Fun K "saying_variables" "saying_variables" sSayVars f fd) (GV : FnOk P w K mg base CX0 4 fV dV ["atom"] spAVars) (kV : PySem.W.keepIn K (.ref fV) = true) (bV : Binds K dV ["atom"] []) (mV : mg "atom_variables" = some (.ref fV))
    (mSorted : mg "sorted" = none) : FnOk P w K mg base CX0 5 f fd ["saying"] spSyVars := by
  refine F.ok scSV (fun vs H Q E h => ?_) (fun cdv A outer s H vs Q E hr h => ?_)
  · obtain ⟨v, s, rfl, _⟩ := h
    rfl
  obtain ⟨v, sy, rfl, ⟨p, g0, vg, xs0, rfl, hp, hg0, A0, G0⟩, h6, hk40, gk40, q⟩ := h
  refine ⟨_, pss_cons (ps_asg (pv 0) (pg_tup (by rfl) (pgs_cons (pg_name (i := 1) scSV.nd rfl (Or.inl rfl)) (pgs_cons (pg_name (i := 2) scSV.nd rfl (Or.inl rfl)) pgs_nil))))
    (pss_one (ps_ret (pe_callB (cr_sortedSet rfl) (by rfl) mSorted (by decide +kernel) (pa_cons (pe_scI2 (own := [("atom", 3), ("variable", 4)]) (vs' := [4]) (g := gName 3) (tt := tYes) (wi' := iList K teAV) (g' := gName 4) (tt' := tYes) (te := tVar 4) rfl scSV.nd
      (pi_tup (pe_tup (pa_star (pv 1) (pa_cons (pv 2) pa_nil)))) (blkOk_by (N := NSV) (sc := defScope sSayVars) (by decide +kernel)) (by decide) (fun _ _ _ _ _ => pg_name (i := 3) scSV.nd rfl (Or.inl rfl)) (fun _ _ _ _ _ => pts_nil)
      (fun _ _ _ _ _ => pi_list (pe_call GV hr (by rfl) mV kV bV .nil pass0 (pa_cons (pv 3) pa_nil))) (fun _ _ _ _ _ => pg_name (i := 4) scSV.nd rfl (Or.inl rfl)) (fun _ _ _ _ _ => pts_nil)
      (fun _ _ _ _ _ => pv 4)) pa_nil)))), ?_⟩
  have big : (10000 : Nat) ≤ sizeLine := by decide
  have xl0 := A0.len
  refine ⟨_, rfl, p, _, rfl, .inl (.inl hp), rfl, _, _, rfl, _, _, rfl, rfl, ?_⟩
  refine ⟨_, rfl, g0, xs0, rfl, .inl (.inl (.inl hg0)), _, rfl, by simp; omega, fun g hg => ?_⟩
  have AT : AtsAt H (xs0 ++ [vg]) (sy.hs ++ [sy.gl]) := A0.append ⟨G0, trivial⟩
  have few : ∀ a ∈ sy.hs ++ [sy.gl], Few7 a := fun a ha => by
    rcases List.mem_append.mp ha with ha | ha
    · exact hk40 a ha
    · rw [show a = sy.gl by simpa using ha]; exact gk40
  have al : (sy.hs ++ [sy.gl]).length ≤ 7 := by simp; omega
  have e7 : syNums sy = (sy.hs ++ [sy.gl]).flatMap atNums := rfl
  generalize sy.hs ++ [sy.gl] = as at AT few al e7
  generalize hxs : xs0 ++ [vg] = xs at AT ⊢
  have s1 := same_new hg (.tup xs)
  have xl := AT.len
  have hgg : (upd H g (.tup xs)) g = some (.tup xs) := upd_same
  generalize hH1 : upd H g (.tup xs) = H1 at s1 hgg
  refine ⟨g, rfl, ⟨_, .inl (.inl hgg)⟩, fun D hD => walk_tup (K := K) (a := g) (xs := xs) (fun i H2 => ∃ (S : Int → Bool) (n : Nat), H2 D = some (SetO w D S n) ∧ n ≤ 8 * i ∧ (∀ k, S k = true ↔ k ∈ (as.take i).flatMap atNums) ∧ Same H1 H2)
    ⟨_, 0, upd_same, Nat.le_refl _, fun k => by simp, same_new hD _⟩ (fun i H2 _ ⟨_, _, _, _, _, z⟩ => .inl (.inl (z _ _ hgg))) ?_ ?_⟩
  · rintro i x H2 hi ⟨S, n, hS, hn, hm, hk⟩
    obtain ⟨t, ht, Tx⟩ := AT.get hi
    have tz1 := few t (List.mem_of_getElem? ht)
    have li : i < xs.length := (List.getElem?_eq_some_iff.mp hi).1
    refine ⟨rfl, ?_⟩
    unfold teAV
    refine ⟨_, rfl, x, t.nm, t.ts, rfl, atAt_same Tx (s1.trans hk), tz1.1, fun u hu => Nat.le_trans (tz1.2 u hu) (by decide), fun l ns H3 hl h3 up mem s3 => ?_⟩
    have ln := few_nums tz1 up mem
    have lD : l ≠ D := (ne_of_none hS hl).symm
    have lim : (400 : Nat) < scanBound := by decide
    refine ⟨l, rfl, ⟨_, .inl (.inl h3)⟩, walk_lst (K := K) (a := l) (xs := ns.map V.int) (fun j H4 => ∃ (S' : Int → Bool) (n' : Nat), H4 D = some (SetO w D S' n') ∧ n' ≤ n + j ∧ (∀ k, S' k = true ↔ (k ∈ (as.take i).flatMap atNums ∨ k ∈ ns.take j)) ∧ But D H3 H4)
      ⟨S, n, s3 _ _ hS, by omega, fun k => by rw [hm k]; simp, But.refl _ _⟩ (fun j H4 _ ⟨_, _, _, _, _, z⟩ => .inl (.inl (z _ _ h3 lD))) ?_ ?_⟩
    · rintro j y H4 hj ⟨S', n', hS', hn', hm', o4⟩
      rw [List.getElem?_map] at hj
      obtain ⟨m, hm1, rfl⟩ : ∃ m, ns[j]? = some m ∧ y = .int m := by
        cases e : ns[j]? with
        | none => rw [e] at hj; cases hj
        | some m => rw [e] at hj; exact ⟨m, rfl, (by simpa using hj.symm)⟩
      have lj : j < ns.length := (List.getElem?_eq_some_iff.mp hm1).1
      refine ⟨rfl, _, rfl, m, S', n', rfl, hS', Nat.lt_of_le_of_lt (by omega : n' + 1 ≤ 400) lim, ?_⟩
      refine ⟨_, _, upd_same, ?_, fun k => ?_, fun c o z nc => ?_⟩
      · split <;> omega
      · have tk : ns.take (j + 1) = ns.take j ++ [m] := by rw [List.take_add_one, hm1]; rfl
        rw [tk, Bool.or_eq_true, hm' k, List.mem_append, List.mem_singleton, decide_eq_true_eq, or_assoc]
      · rw [upd_ne nc]; exact o4 _ _ z nc
    · rintro H4 ⟨S', n', hS', hn', hm', o4⟩
      rw [List.length_map] at hn' hm'
      have tk : as.take (i + 1) = as.take i ++ [t] := by rw [List.take_add_one, ht]; rfl
      refine ⟨S', n', hS', by omega, fun k => ?_, fun c o z => o4 _ _ (s3 _ _ (hk _ _ z)) (ne_of_none z hD)⟩
      have mk : k ∈ ns ↔ k ∈ atNums t := mem k
      rw [hm' k, List.take_length, tk, List.flatMap_append, List.mem_append, mk]
      simp
  · rintro H2 ⟨S, n, hS, hn, hm, hk⟩
    refine ⟨D, S, n, rfl, hS, by omega, fun ns p2 up mem len hp2 => ?_⟩
    refine q p2 ns _ ?_ upd_same up (fun k => ?_) ((s1.trans hk).trans (same_new hp2 _))
    · exact same_none (s1.trans hk) _ hp2
    · rw [mem k, hm k, xl, List.take_length, e7]
def teAP (T : List NTab) : TE := fun σ H Q => tCons (tVar 4) (tCons (tVar 1) tNil) σ H fun vs H1 => spAPut T vs H1 Q E0
theorem ok_syput {T : List NTab} {f fP fU : Addr} {fd dP dU : FuncData} (F : Fun K "saying_put" "saying_put" sSayPut f fd) (GP : FnOk P w K mg base CX0 5 fP dP ["atom", "binding"] (spAPut T)) (kP : PySem.W.keepIn K (.ref fP) = true) (bP : Binds K dP ["atom", "binding"] []) (mP : mg "atom_put" = some (.ref fP))
    (GU : FnOk P w K mg base CX0 1 fU dU ["atoms"] spUnlikeL) (kU : PySem.W.keepIn K (.ref fU) = true) (bU : Binds K dU ["atoms"] []) (mU : mg "unlike" = some (.ref fU)) :
    FnOk P w K mg base CX0 6 f fd ["saying", "binding"] (spSyPut T) := by
  refine F.ok scSP (fun vs H Q E h => ?_) (fun cdv A outer s H vs Q E hr h => ?_)
  · obtain ⟨v, s, a, bd, rfl, _⟩ := h
    rfl
  obtain ⟨v, sy, ab, bd, rfl, ⟨p, g0, vg, xs, rfl, hp, hg0, A0, G0⟩, h6, hk, gk, Bd0, hT, q⟩ := h
  have r1 : Room 1 _ := hr.mono (by decide)
  refine ⟨_, pss_cons (ps_asg (pv 0) (pg_tup (by rfl) (pgs_cons (pg_name (i := 2) scSP.nd rfl (Or.inl rfl)) (pgs_cons (pg_name (i := 3) scSP.nd rfl (Or.inl rfl)) pgs_nil))))
    (pss_one (ps_ret (pe_tup (pa_cons (pe_call GU r1 (by rfl) mU kU bU .nil pass0 (pa_cons (pe_lc (own := [("hyp", 4)]) (g := gName 4) (tt := tYes) (te := teAP T) rfl scSP.nd (pi_tup (pv 2))
        (blkOk_by (N := NSP) (sc := defScope sSayPut) (by decide +kernel)) (fun _ _ _ _ _ => pg_name (i := 4) scSP.nd rfl (Or.inl rfl)) (fun _ _ _ _ _ => pts_nil)
        (fun _ _ _ _ _ => pe_call GP hr (by rfl) mP kP bP .nil pass0 (pa_cons (pv 4) (pa_cons (pv 1) pa_nil)))) pa_nil)) (pa_cons (pe_call GP hr (by rfl) mP kP bP .nil pass0 (pa_cons (pv 3) (pa_cons (pv 1) pa_nil))) pa_nil))))), ?_⟩
  have big : (10000 : Nat) ≤ sizeLine := by decide
  have xl := A0.len
  refine ⟨_, rfl, p, _, rfl, .inl (.inl hp), rfl, _, _, rfl, _, _, rfl, rfl, ?_⟩
  refine ⟨_, rfl, g0, rfl, ⟨_, .inl (.inl hg0)⟩, fun D hD => walk_tup (K := K) (a := g0) (xs := xs) (fun i H2 => ∃ ys : List V, H2 D = some (.lst ys) ∧ AtsAt H2 ys ((sy.hs.take i).map (atPut bd)) ∧ ys.length = i ∧ ExtB T D (upd H D (.lst [])) H2 ∧ ∀ b, H2 b = none → H b = none)
    ⟨[], upd_same, trivial, rfl, ExtB.refl (hT.ext (same_new hD _)), fun b z => same_none (same_new hD _) b z⟩ (fun i H2 _ ⟨_, _, _, _, e, _⟩ => .inl (.inl ((e.tups upd_same).1 _ _ ((same_new hD _) _ _ hg0)))) ?_ ?_⟩
  · rintro i x H2 hi ⟨ys, h2, A2, yl, e2, nn⟩
    obtain ⟨t, ht, Tx⟩ := A0.get hi
    have li : i < xs.length := (List.getElem?_eq_some_iff.mp hi).1
    have u2 : Tups H H2 := (Tups.same (same_new hD _)).trans (e2.tups upd_same)
    have tk : sy.hs.take (i + 1) = sy.hs.take i ++ [t] := by rw [List.take_add_one, ht]; rfl
    have f40 := (hk t (List.mem_of_getElem? ht)).1
    refine ⟨rfl, ?_⟩
    unfold teAP
    refine ⟨_, rfl, _, rfl, x, t.nm, t.ts, ab, bd, rfl, AtAt.tups u2 Tx, f40.1, fun u hu => Nat.le_trans (f40.2 u hu) (by decide), Bd0.mono u2, e2.tab, fun v' H3 T3 e3 => ?_⟩
    have h3 := e3.lst h2
    have u4 : Tups H3 (upd H3 D (.lst (ys ++ [v']))) := Tups.but (but_upd _) h3
    refine ⟨ys, h3, by omega, ys ++ [v'], upd_same, ?_, by rw [List.length_append, yl]; rfl, (e2.trans e3.toB).trans (ExtB.but e3.tab h3 (but_upd _)), fun b z => nn b (e3.nn b (upd_none z))⟩
    rw [tk, List.map_append]
    have T3' : AtAt H3 v' (atPut bd t) := T3
    exact AtsAt.append (AtsAt.tups u4 (AtsAt.tups e3.tups A2)) ⟨AtAt.tups u4 T3', trivial⟩
  · rintro H2 ⟨ys, h2, A2, yl, e2, nn⟩
    rw [xl, List.take_length] at A2
    have u2 : Tups H H2 := (Tups.same (same_new hD _)).trans (e2.tups upd_same)
    refine ⟨D, ys, sy.hs.map (atPut bd), rfl, h2, A2, AtsOk.mk (by rw [List.length_map]; exact h6) (fun a ha => ?_), fun g zs H3 hg3 A3 s3 => ?_⟩
    · obtain ⟨c, hc, rfl⟩ := List.mem_map.mp ha
      exact (hk c hc).2
    have u3 : Tups H H3 := u2.trans (Tups.same s3)
    have t3 : TabsN T H3 := e2.tab.ext s3
    refine ⟨_, rfl, _, rfl, vg, sy.gl.nm, sy.gl.ts, ab, bd, rfl, AtAt.tups u3 G0, gk.1, fun u hu => Nat.le_trans (gk.2 u hu) (by decide), Bd0.mono u3, t3, fun v' H4 T4 e4 => ⟨(by show 2 ≤ sizeLine; decide), fun c hc => ?_⟩⟩
    have s5 := same_new hc (.tup [V.ref g, v'])
    refine q (.ref c) _ ⟨c, g, v', zs, rfl, upd_same, s5 _ _ (e4.tups.1 _ _ hg3), AtsAt.tups (e4.tups.trans (Tups.same s5)) A3, atAt_same (show AtAt H4 v' (atPut bd sy.gl) from T4) s5⟩ ⟨fun b o z m => ?_, e4.tab.ext s5, fun b z => ?_⟩
    · have z1 := (same_new hD (.lst ([] : List V))) _ _ z
      exact s5 _ _ (e4.ext _ _ (s3 _ _ (e2.ext _ _ z1 (ne_of_none z hD) m)) m)
    · exact nn b (same_none s3 b (e4.nn b (same_none s5 b z)))
end
end Rp

set_option maxHeartbeats 8000000
/-! The law's own exchange, its own spots. -/
namespace Rp
open PySem PySem.Spec PyProof.Rows L2 TL NdefX LamX StX PpSet
/-- t[:1] and t + u of plain tuples -/
theorem slP_ok {K : PySem.W.Frag} {a : Addr} {xs : List V} {lo hi : Option Int} {H : Hp} {Q : VK} (h : H a = some (.tup xs)) (go : ∀ (p : Addr) (H' : Hp), H' p = some (.tup (cutV xs lo hi)) → Same H H' → Q (.ref p) H') : rSlA K (.ref a) lo hi H Q := by
  refine ⟨a, xs, rfl, .inl (.inl h), fun hw => ?_, fun _ p hp => go p _ upd_same (same_new hp _)⟩
  refine go a H ?_ (Same.refl H)
  have : cutV xs lo hi = xs := by
    unfold cutV
    rw [hw.1, hw.2, List.drop_zero, Nat.sub_zero, List.take_length]
  rw [this]; exact h
theorem catP_ok {K : PySem.W.Frag} {a b : Addr} {xs ys : List V} {H : Hp} {Q : VK} (ha : H a = some (.tup xs)) (hb : H b = some (.tup ys)) (few : xs.length + ys.length ≤ sizeLine) (go : ∀ (p : Addr) (H' : Hp), H' p = some (.tup (xs ++ ys)) → Same H H' → Q (.ref p) H') : rCatA K (.ref a) (.ref b) H Q := by
  refine ⟨a, b, xs, ys, rfl, rfl, .inl (.inl ha), .inl (.inl hb), few, fun e => ?_, fun _ e => ?_, fun _ _ p hp => go p _ upd_same (same_new hp _)⟩
  · subst e; exact go b H hb (Same.refl H)
  · subst e; exact go a H (by rw [List.append_nil]; exact ha) (Same.refl H)
theorem cut_first (x : V) (ks : List V) : cutV (x :: ks) none (some 1) = [x] := by
  have e : (1 : Int) = ((1 : Nat) : Int) := rfl
  unfold cutV
  rw [HT.sIx_none, e, HT.sIx_nat, List.drop_zero, Nat.sub_zero]
  simp
theorem kids_two (t : Tm) : t.kids.length ≤ 2 := by cases t <;> simp [Tm.kids]
theorem tm_made {H : Hp} {p : Addr} {bd : Bd} {t : Tm} {ys : List V} (no : ∀ n, t ≠ .v n) (hp : H p = some (.tup (V.str (signHead t) :: ys))) (A : AllAt H ys (t.kids.map (Tm.put bd))) : TmAt H (.ref p) (t.put bd) := by
  cases t with
  | v n => exact absurd rfl (no n)
  | z =>
    match ys, A with
    | [], _ => exact .z hp
  | s t =>
    match ys, A with
    | [y], A => exact .s hp A.1
  | f l r =>
    match ys, A with
    | [y, z], A => exact .f hp A.1 A.2.1
theorem all_take {H : Hp} : ∀ {xs : List V} {ts : List Tm} {i : Nat} {x : V}, AllAt H xs ts → xs[i]? = some x → ∃ t, ts[i]? = some t ∧ TmAt H x t
  | x :: _, t :: _, 0, _, h, e => ⟨t, rfl, by simp at e; subst e; exact h.1⟩
  | _ :: _, _ :: _, i + 1, _, h, e => by simpa using all_take h.2 (by simpa using e)
def spLPutD (n : Nat) : Sp := fun vs H Q _ => ∃ (v : V) (D : Addr) (bd : Bd) (kvs : List (Key × V)), vs = [v, .ref D] ∧ H D = some (.dK kvs) ∧ DbAt H kvs bd ∧
  ((∃ t : Tm, TmAt H v t ∧ t.deep < n ∧ ∀ (v' : V) (H' : Hp), TmAt H' v' (t.put bd) → Same H H' → Q v' H') ∨
    (∃ a : At, 0 < n ∧ AtAt H v a ∧ a.ts.length ≤ 2 ∧ (∀ t ∈ a.ts, t.deep + 1 < n) ∧ ∀ (v' : V) (H' : Hp), AtAt H' v' (atPut bd a) → Same H H' → Q v' H'))
def tePD (n : Nat) : TE := tCall (spLPutD n) [] E0 (tCons (tVar 2) (tCons (tVar 1) tNil))
mutual
/-- the ints in data, of ints, texts, tuples alone -/
def dNums : PyData → List Int
  | .int n => [n] | .tuple ds => dNumsA ds | _ => []
def dNumsA : List PyData → List Int
  | [] => []
  | d :: ds => dNums d ++ dNumsA ds
end
mutual
def okSp : PyData → Prop
  | .int _ => True | .str _ => True | .tuple ds => okSps ds | _ => False
def okSps : List PyData → Prop
  | [] => True
  | d :: ds => okSp d ∧ okSps ds
end
theorem okSps_iff : ∀ {ds : List PyData}, okSps ds ↔ ∀ d ∈ ds, okSp d
  | [] => by simp [okSps]
  | d :: ds => by simp only [okSps, okSps_iff (ds := ds), List.mem_cons, forall_eq_or_imp]
theorem dNumsA_eq : ∀ {ds : List PyData}, dNumsA ds = ds.flatMap dNums
  | [] => rfl
  | d :: ds => by simp only [dNumsA, dNumsA_eq (ds := ds), List.flatMap_cons]
theorem dNums_tm : ∀ t : Tm, okSp (tmD t) ∧ dNums (tmD t) = t.nums
  | .v n => ⟨by unfold tmD okSp; trivial, by unfold tmD dNums; rfl⟩
  | .z => ⟨by simp [tmD, okSp, okSps], by simp [tmD, dNums, dNumsA, Tm.nums]⟩
  | .s t => by
    obtain ⟨h1, h2⟩ := dNums_tm t
    exact ⟨by simp [tmD, okSp, okSps, h1], by simp [tmD, dNums, dNumsA, Tm.nums, h2]⟩
  | .f l r => by
    obtain ⟨h1, h2⟩ := dNums_tm l
    obtain ⟨h3, h4⟩ := dNums_tm r
    exact ⟨by simp [tmD, okSp, okSps, h1, h3], by simp [tmD, dNums, dNumsA, Tm.nums, h2, h4]⟩
theorem dNums_at (a : At) : okSp (atD a) ∧ dNums (atD a) = atNums a := by
  constructor
  · unfold atD okSp
    refine okSps_iff.mpr fun d hd => ?_
    rcases List.mem_cons.mp hd with rfl | hd
    · unfold okSp; trivial
    · obtain ⟨t, _, rfl⟩ := List.mem_map.mp hd
      exact (dNums_tm t).1
  · unfold atD dNums
    rw [dNumsA_eq, List.flatMap_cons, List.flatMap_map]
    have e : (fun t => dNums (tmD t)) = Tm.nums := funext fun t => (dNums_tm t).2
    rw [e]
    show dNums (.str a.nm) ++ _ = _
    unfold dNums
    rfl
theorem dNums_sy (s : Sy) : okSp (syD s) ∧ dNums (syD s) = syNums s := by
  have e : (fun a => dNums (atD a)) = atNums := funext fun a => (dNums_at a).2
  constructor
  · unfold syD okSp
    refine okSps_iff.mpr fun d hd => ?_
    simp only [List.mem_cons, List.not_mem_nil, or_false] at hd
    rcases hd with rfl | rfl
    · unfold okSp
      refine okSps_iff.mpr fun d hd => ?_
      obtain ⟨a, _, rfl⟩ := List.mem_map.mp hd
      exact (dNums_at a).1
    · exact (dNums_at _).1
  · unfold syD dNums
    simp only [dNumsA, dNums, dNumsA_eq, List.flatMap_map, e, List.append_nil, (dNums_at s.gl).2]
    unfold syNums
    rw [List.flatMap_append]
    simp
def spSpots (n : Nat) : Sp := fun vs H Q _ => ∃ (b : Addr) (v : V) (d : PyData), vs = [v] ∧ DAt H b v d ∧ okSp d ∧ d.depth < n ∧ (dNums d).length < 64 ∧ nd d ≤ 1000 ∧
  ∀ (p : Addr) (ns : List Int) (H' : Hp), H p = none → H' p = some (.lst (ns.map V.int)) → ns.Pairwise (· < ·) → (∀ k, k ∈ ns ↔ k ∈ dNums d) → Same H H' → Q (.ref p) H'
abbrev NSpo : List Str := ["_law_thing", "_law_found", "_law_part"]
abbrev NPD : List Str := ["_law_thing", "_law_puts", "_law_part"]
section
variable {P : Program} {w : World} {K : PySem.W.Frag} {mg : Str → Option Value} {base : Heap}
theorem scPD : FnScope NPD ["_law_thing", "_law_puts"] (defScope sPutL) := ⟨rfl, rfl, rfl, by decide +kernel, rfl, by decide +kernel, by decide +kernel⟩
theorem ok_lputd {n : Nat} {f : Addr} {fd : FuncData} (F : Fun K "_law_put" "_law_put" sPutL f fd) (b2 : Binds K fd ["_law_thing", "_law_puts"] []) (mF : mg "_law_put" = some (.ref f)) (G : FnOk P w K mg base CX0 n f fd ["_law_thing", "_law_puts"] (spLPutD n))
    (mIsi : mg "isinstance" = none) (mInt : mg "int" = none) (mTuple : mg "tuple" = none) : FnOk P w K mg base CX0 (n + 1) f fd ["_law_thing", "_law_puts"] (spLPutD (n + 1)) := by
  refine F.ok scPD (fun vs H Q E h => ?_) (fun cdv A outer s H vs Q E hr h => ?_)
  · obtain ⟨v, D, bd, kvs, rfl, _⟩ := h
    rfl
  obtain ⟨v, D, bd, kvs, rfl, hD, DB, q⟩ := h
  have hu := hu_of hr
  refine ⟨_, pss_cons (ps_if (pt_val (pe_callB (id := "isinstance") call_isi (by rfl) mIsi (by decide +kernel) (pa_cons (pv 0) (pa_cons (pe_bltn (v := .ty "int") (by rfl) mInt (by decide +kernel) rfl) pa_nil))))
      (pss_one (ps_ret (pe_dget2 hu (pv 1) (pv 0) (pv 0) ⟨rfl, rfl, rfl, rfl⟩))) pss_nil)
    (pss_one (ps_ret (pe_op op_catA (pe_slice sl_tupA (pv 0) po_none (po_some pe_int)) (pe_callTy call_tuple_of (by rfl) mTuple (by decide +kernel) (pa_cons
      (pe_lc (own := [("_law_part", 2)]) (g := gName 2) (tt := tYes) (te := tePD n) rfl scPD.nd (pi_tup (pe_slice sl_tup (pv 0) (po_some pe_int) po_none)) (blkOk_by (N := NPD) (sc := defScope sPutL) (by decide +kernel))
        (fun _ _ _ _ _ => pg_name (i := 2) scPD.nd rfl (Or.inl rfl)) (fun _ _ _ _ _ => pts_nil) (fun _ _ _ _ _ => pe_call G hr (by rfl) mF F.kp b2 .nil pass0 (pa_cons (pv 2) (pa_cons (pv 1) pa_nil)))) pa_nil))))), ?_⟩
  have big : (2000 : Nat) ≤ sizeLine := by decide
  -- a tuple with a sign or a name, and parts
  have tupled : ∀ (a : Addr) (x : Str) (ks : List V) (ts : List Tm), v = .ref a → H a = some (.tup (V.str x :: ks)) → AllAt H ks ts → ts.length ≤ 2 → (∀ t ∈ ts, t.deep < n) →
      (∀ (p : Addr) (ys : List V) (H' : Hp), H' p = some (.tup (V.str x :: ys)) → AllAt H' ys (ts.map (Tm.put bd)) → Same H H' → Q (.ref p) H') →
      (tOp (rCatA K) (tSl (rSlA K) (tVar 0) tNoPart (tPart (tC (.int 1)))) (tCB (fun xs H Q => ∃ p ys, xs = [.ref p] ∧ ((SqL K H p ys ∧ ∀ l, H l = none → Q (.ref l) (upd H l (.tup ys))) ∨ (SqT K H p ys ∧ Q (.ref p) H))) (tCons (tLc (iTup K (tSl (rSlT K) (tVar 0) (tPart (tC (.int 1))) tNoPart)) (gName 2) tYes (tePD n) [2]) tNil)))
        (start NPD [v, .ref D]) H Q := by
    intro a x ks ts ev ha A t2 td go
    subst ev
    refine ⟨_, rfl, 1, rfl, slP_ok ha fun p1 H1 h1 s1 => ?_⟩
    rw [cut_first] at h1
    refine ⟨_, rfl, 1, rfl, a, _, rfl, .inl (.inl (s1 _ _ ha)), cut_part _ _, fun g hg => ?_⟩
    rw [cut_tail]
    have s2 := same_new hg (.tup ks)
    have hgg : (upd H1 g (.tup ks)) g = some (.tup ks) := upd_same
    have xl := A.len
    refine ⟨g, rfl, ⟨_, .inl (.inl hgg)⟩, fun DD hDD => lc_tup (K := K) (a := g) (xs := ks) (fun i H3 => ∃ ys : List V, H3 DD = some (.lst ys) ∧ AllAt H3 ys ((ts.take i).map (Tm.put bd)) ∧ ys.length = i ∧ Same (upd H1 g (.tup ks)) H3)
      ⟨[], upd_same, trivial, rfl, same_new hDD _⟩ (fun i H3 _ ⟨_, _, _, _, s⟩ => .inl (.inl (s _ _ hgg))) ?_ ?_⟩
    · rintro i y H3 hi ⟨ys, h3, A3, yl, s3⟩
      obtain ⟨t, ht, T⟩ := all_take A hi
      have sH : Same H H3 := (s1.trans s2).trans s3
      have li : i < ks.length := (List.getElem?_eq_some_iff.mp hi).1
      refine ⟨rfl, ?_⟩
      unfold tePD
      refine ⟨_, rfl, _, rfl, y, D, bd, kvs, rfl, sH _ _ hD, DB.mono (Tups.same sH).1, .inl ⟨t, T.same sH, td t (List.mem_of_getElem? ht), fun v' H4 T4 s4 => ?_⟩⟩
      have h4 := s4 _ _ h3
      have u6 : Tups H4 (upd H4 DD (.lst (ys ++ [v']))) := Tups.but (but_upd _) h4
      have tk : ts.take (i + 1) = ts.take i ++ [t] := by rw [List.take_add_one, ht]; rfl
      refine ⟨ys, h4, by omega, ys ++ [v'], upd_same, ?_, by rw [List.length_append, yl]; rfl, fun c o z => by rw [upd_ne (ne_of_none z hDD)]; exact s4 _ _ (s3 _ _ z)⟩
      rw [tk, List.map_append]
      exact ((A3.mono (Tups.same s4).1).mono u6.1).append ⟨T4.mono u6.1, trivial⟩
    · rintro H3 ⟨ys, h3, A3, yl, s3⟩
      rw [xl, List.take_length] at A3
      refine ⟨DD, ys, rfl, .inl ⟨.inl (.inl h3), fun l hl => ?_⟩⟩
      have s4 := same_new hl (.tup ys)
      have A4 := A3.mono (Tups.same s4).1
      refine catP_ok (s4 _ _ (s3 _ _ (s2 _ _ h1))) upd_same (by rw [List.length_singleton, yl]; omega) fun p H5 h5 s5 => ?_
      exact go p ys H5 h5 (A4.mono (Tups.same s5).1) (s1.trans (s2.trans (s3.trans (s4.trans s5))))
  rcases q with ⟨t, T, td, q⟩ | ⟨a, _, ⟨p, xs, rfl, hp, A⟩, a2, ad, q⟩
  · rcases T.ty (K := K) with ⟨m, rfl, rfl⟩ | ⟨a, xs, rfl, ha, ty, no⟩
    · refine ⟨_, rfl, _, _, _, _, true, rfl, .ty "int", .base (.int m), kit_ii, true, rfl, iteT ?_⟩
      refine ⟨_, rfl, D, rfl, .inl ⟨_, .inl hD⟩, _, rfl, _, rfl, ?_⟩
      rcases DB m with ⟨v, t, e1, e2, T'⟩ | ⟨e1, e2⟩
      · refine ⟨some v, .inl ⟨_, Sum.inl m, .inl hD, rfl, e1.symm⟩, q v _ ?_ (Same.refl H)⟩
        show TmAt _ v ((bd.lookup m).getD (.v m))
        rw [e2]
        exact T'
      · refine ⟨none, .inl ⟨_, Sum.inl m, .inl hD, rfl, e1.symm⟩, q _ _ ?_ (Same.refl H)⟩
        show TmAt _ (.int m) ((bd.lookup m).getD (.v m))
        rw [e2]
        exact .v m
    · obtain ⟨a', ks, e, ha', hk, hks⟩ := T.tupled no
      cases e
      refine ⟨_, rfl, _, _, _, _, false, rfl, .ty "int", ty, kit_ti, false, rfl, iteF ?_⟩
      refine tupled a _ ks t.kids rfl ha' (AllAt.of hk hks) (kids_two t) (fun k hk => by have := kid_deep hk; omega) fun p ys H' hp A' s' => q _ _ (tm_made no hp A') s'
  · have ty : TyX K H (.ref p) (.type "tuple") := (AtAt.dat (b := (0 : Nat)) (a := a) ⟨p, xs, rfl, hp, A⟩).tyx
    refine ⟨_, rfl, _, _, _, _, false, rfl, .ty "int", ty, kit_ti, false, rfl, iteF ?_⟩
    exact tupled p _ xs a.ts rfl hp A a2 (fun t ht => by have := ad t ht; omega) fun p' ys H' hp' A' s' => q _ _ ⟨p', ys, rfl, hp', A'⟩ s'
theorem lputd_ok {f : Addr} {fd : FuncData} (F : Fun K "_law_put" "_law_put" sPutL f fd) (b2 : Binds K fd ["_law_thing", "_law_puts"] []) (mF : mg "_law_put" = some (.ref f)) (mIsi : mg "isinstance" = none) (mInt : mg "int" = none) (mTuple : mg "tuple" = none) :
    ∀ n : Nat, FnOk P w K mg base CX0 n f fd ["_law_thing", "_law_puts"] (spLPutD n)
  | 0 => none_left fun vs H Q E h => by
    obtain ⟨v, D, bd, kvs, _, _, _, h⟩ := h
    rcases h with ⟨t, _, h, _⟩ | ⟨a, h, _⟩ <;> omega
  | n + 1 => ok_lputd F b2 mF (lputd_ok F b2 mF mIsi mInt mTuple n) mIsi mInt mTuple
theorem scSpo : FnScope NSpo ["_law_thing"] (defScope sSpots) := ⟨rfl, rfl, rfl, by decide +kernel, rfl, by decide +kernel, by decide +kernel⟩
theorem kit_is {K : PySem.W.Frag} {a : String} {p r : Bool} (h1 : kitB a "int" = some p) (h2 : kitB a "str" = some r) : PySem.W.kitAny K (.type a) [.type "int", .type "str"] = some (p || r) := by
  refine kitAny_cons (kitB_of h1) (fun e => ?_) (fun e => by rw [e]; rfl)
  refine kitAny_cons (kitB_of h2) (fun e2 => by rw [e, e2]; exact kitAny_nil) (fun e2 => by rw [e, e2]; rfl)
theorem dNums_item : ∀ {ds : List PyData} {i : Nat} {d : PyData}, ds[i]? = some d → dNumsA (ds.take (i + 1)) = dNumsA (ds.take i) ++ dNums d
  | d' :: ds, 0, d, h => by simp at h; subst h; simp [dNumsA]
  | d' :: ds, i + 1, d, h => by
    have := dNums_item (ds := ds) (i := i) (d := d) (by simpa using h)
    simp only [List.take_succ_cons, dNumsA, this, List.append_assoc]
theorem dNums_le : ∀ {ds : List PyData} {i : Nat}, (dNumsA (ds.take i)).length ≤ (dNumsA ds).length
  | [], i => by simp [dNumsA]
  | d :: ds, 0 => by simp [dNumsA]
  | d :: ds, i + 1 => by have := dNums_le (ds := ds) (i := i); simp only [List.take_succ_cons, dNumsA, List.length_append]; omega
theorem dNums_mem : ∀ {ds : List PyData} {d : PyData}, d ∈ ds → (dNums d).length ≤ (dNumsA ds).length
  | d' :: ds, d, h => by
    simp only [dNumsA, List.length_append]
    rcases List.mem_cons.mp h with rfl | h
    · omega
    · have := dNums_mem h; omega
theorem ok_spots {n : Nat} {f : Addr} {fd : FuncData} (F : Fun K "_law_spots" "_law_spots" sSpots f fd) (b1 : Binds K fd ["_law_thing"] []) (mF : mg "_law_spots" = some (.ref f)) (G : FnOk P w K mg base CX0 n f fd ["_law_thing"] (spSpots n)) (M : SameG mg) (mSorted : mg "sorted" = none) (mSet : mg "set" = none) :
    FnOk P w K mg base CX0 (n + 1) f fd ["_law_thing"] (spSpots (n + 1)) := by
  refine F.ok scSpo (fun vs H Q E h => ?_) (fun cdv A outer s H vs Q E hr h => ?_)
  · obtain ⟨b, v, d, rfl, _⟩ := h
    rfl
  obtain ⟨b, v, d, rfl, D, od, dp, few, nn, q⟩ := h
  refine ⟨_, pss_cons (ps_if (pt_val (pe_callB (id := "isinstance") call_isiT (by rfl) M.isi (by decide +kernel) (pa_cons (pv 0) (pa_cons (pe_tup (pa_cons (pe_bltn (v := .ty "int") (by rfl) M.int (by decide +kernel) rfl) (pa_cons (pe_bltn (v := .ty "str") (by rfl) M.str (by decide +kernel) rfl) pa_nil))) pa_nil))))
      (pss_one (ps_ret (pe_op op_rep (pe_lst (pa_cons (pv 0) pa_nil)) (pe_callTy call_int1 (by rfl) M.int (by decide +kernel) (pa_cons (pe_callB (id := "isinstance") call_isi (by rfl) M.isi (by decide +kernel) (pa_cons (pv 0) (pa_cons (pe_bltn (v := .ty "int") (by rfl) M.int (by decide +kernel) rfl) pa_nil))) pa_nil))))) pss_nil)
    (pss_cons (ps_set (i := 1) scSpo.nd rfl (Or.inl rfl) (pe_lst pa_nil))
    (pss_cons (ps_for PassesOwn.never rfl (pi_tup (pv 0)) (pg_name (i := 2) scSpo.nd rfl (Or.inl rfl))
      (pss_one (ps_set (i := 1) scSpo.nd rfl (Or.inl rfl) (pe_op op_cat (pv 1) (pe_call G hr rfl mF F.kp b1 .nil pass0 (pa_cons (pv 2) pa_nil))))))
    (pss_one (ps_ret (pe_callB (cr_sortedSet rfl) (by rfl) mSorted (by decide +kernel) (pa_cons (pe_callTy (cr_setI rfl) (by rfl) mSet (by decide +kernel) (pa_cons (pv 1) pa_nil)) pa_nil)))))), ?_⟩
  have big : (10000 : Nat) ≤ sizeLine := by decide
  refine ⟨_, rfl, (by show 2 ≤ sizeLine; decide), fun p0 hp0 => ?_⟩
  have s1 := same_new hp0 (.tup [V.ty "int", V.ty "str"])
  refine ⟨_, p0, _, _, [.type "int", .type "str"], isI d || isS d, rfl, upd_same, .cons (.ty _) (.cons (.ty _) .nil), (D.same s1).tyx, kit_is (kitI (K := K) d) (kitS (K := K) d), _, rfl, ?_⟩
  have D1 := D.same s1
  generalize upd H p0 (.tup [V.ty "int", V.ty "str"]) = H1 at s1 D1 ⊢
  cases d with
  | int n =>
    cases D1.int_of
    refine iteT ⟨_, rfl, (by show 1 ≤ sizeLine; decide), fun l hl => ?_⟩
    have s2 := same_new hl (.lst [V.int n])
    refine ⟨_, rfl, _, _, _, _, true, rfl, .ty "int", (D1.same s2).tyx, kitI _, .inr ⟨true, rfl, ?_⟩⟩
    refine ⟨l, _, [V.int n], rfl, rfl, upd_same, by decide, by decide, by simp; omega, fun p hp => ?_⟩
    have s3 := same_new hp (.lst [V.int n])
    refine q p [n] _ (same_none (s1.trans s2) _ hp) ?_ (by simp) (fun k => by simp [dNums]) (s1.trans (s2.trans s3))
    rw [upd_same]
    rfl
  | str x =>
    cases D1.str_of
    refine iteT ⟨_, rfl, (by show 1 ≤ sizeLine; decide), fun l hl => ?_⟩
    have s2 := same_new hl (.lst [V.str x])
    refine ⟨_, rfl, _, _, _, _, false, rfl, .ty "int", (D1.same s2).tyx, kitI _, .inr ⟨false, rfl, ?_⟩⟩
    refine ⟨l, _, [V.str x], rfl, rfl, upd_same, by decide, by decide, by simp, fun p hp => ?_⟩
    have s3 := same_new hp (.lst ([] : List V))
    refine q p [] _ (same_none (s1.trans s2) _ hp) ?_ (by simp) (fun k => by simp [dNums]) (s1.trans (s2.trans s3))
    rw [upd_same]
    rfl
  | tuple ds =>
    obtain ⟨a, xs, rfl, ha, A⟩ := D1.tup_of
    have el := A.len
    have nl := ndAll_len ds
    have nd1 : ndAll ds + 1 ≤ 1000 := by simpa [nd] using nn
    have few : (dNumsA ds).length < 64 := by simpa [dNums] using few
    have ods := okSps_iff.mp (show okSps ds from od)
    have dps : PyData.depthAll ds + 1 < n + 1 := dp
    refine iteF ⟨(by show 0 ≤ sizeLine; decide), fun l hl => ?_⟩
    have s2 := same_new hl (.lst ([] : List V))
    refine ⟨_, rfl, a, rfl, ⟨_, .inl (ha.same s2)⟩, for_tup (K := K) (a := a) (xs := xs) (fun i σ H2 => ∃ (x2 : Option V) (m : Addr) (ns : List Int), σ = [some (.ref a), some (.ref m), x2] ∧ H2 m = some (.lst (ns.map V.int)) ∧ ns.length ≤ (dNumsA (ds.take i)).length ∧ (∀ k, k ∈ ns ↔ k ∈ dNumsA (ds.take i)) ∧ Same H1 H2)
      ⟨none, l, [], rfl, upd_same, by simp, fun k => by simp [dNumsA], s2⟩ (fun i σ H2 _ ⟨_, _, _, _, _, _, _, s⟩ => .inl (ha.same s)) ?_ ?_⟩
    · rintro i x σ H2 hi ⟨x2, m, ns, rfl, hm, nl2, mem, s3⟩
      obtain ⟨e, he, De⟩ := A.get hi
      have em := List.mem_of_getElem? he
      have de := depthAll_iff.mp (Nat.le_refl _) e em
      have le1 := dNums_mem em
      have le2 := dNums_le (ds := ds) (i := i)
      have tk := dNums_item he
      refine ⟨_, rfl, _, rfl, b, x, e, rfl, De.same s3, ods e em, by omega, by omega, by have := ndAll_mem em; omega, fun p ms H3 hp0 hp up mm s4 => ?_⟩
      have ml := rising_few up fun k hk => (mm k).1 hk
      refine ⟨m, p, _, _, rfl, rfl, s4 _ _ hm, hp, by rw [List.length_map, List.length_map]; omega, fun g hg => ?_⟩
      have s5 := same_new hg (.lst (ns.map V.int ++ ms.map V.int))
      refine ⟨_, g, ns ++ ms, rfl, by rw [upd_same, List.map_append], by rw [tk, List.length_append, List.length_append]; omega, fun k => by rw [tk, List.mem_append, List.mem_append, mem k, mm k], s3.trans (s4.trans s5)⟩
    · rintro σ H2 ⟨x2, m, ns, rfl, hm, nl2, mem, s3⟩
      rw [el, List.take_length] at nl2 mem
      refine ⟨_, rfl, m, ns, rfl, .inl (.inl hm), by omega, fun p c hp hc => ?_⟩
      have s4 := same_new hp (SetO w p (fun j => decide (j ∈ ns)) c)
      refine ⟨p, _, c, rfl, upd_same, by omega, fun zs p2 up mz len hp2 => ?_⟩
      have s5 := same_new hp2 (.lst (zs.map V.int))
      refine q p2 zs _ (same_none (s1.trans (s3.trans s4)) _ hp2) upd_same up (fun k => ?_) (s1.trans (s3.trans (s4.trans s5)))
      rw [mz k, decide_eq_true_iff, mem k]
      show _ ↔ k ∈ dNums (.tuple ds)
      unfold dNums
      exact Iff.rfl
  | _ => exact od.elim
theorem spots_ok {f : Addr} {fd : FuncData} (F : Fun K "_law_spots" "_law_spots" sSpots f fd) (b1 : Binds K fd ["_law_thing"] []) (mF : mg "_law_spots" = some (.ref f)) (M : SameG mg) (mSorted : mg "sorted" = none) (mSet : mg "set" = none) :
    ∀ n : Nat, FnOk P w K mg base CX0 n f fd ["_law_thing"] (spSpots n)
  | 0 => none_left fun vs H Q E h => by
    obtain ⟨b, v, d, _, _, _, h, _⟩ := h
    omega
  | n + 1 => ok_spots F b1 mF (spots_ok F b1 mF M mSorted mSet n) M mSorted mSet
end
end Rp

set_option maxHeartbeats 8000000
/-! The law's BINDINGs; a BINDING put rightly. -/
namespace Rp
open PySem PySem.Spec PyProof.Rows L2 TL NdefX LamX StX PpSet
theorem alike_plain {H : Hp} {n : Nat} {x : V} (p : Plain x) : Alike H n x x := by
  cases n with
  | zero => unfold Alike; exact ⟨p, rfl⟩
  | succ n => unfold Alike; exact .inl ⟨p, rfl⟩
theorem alike_tm {H : Hp} : ∀ {t : Tm} {n : Nat} {x y : V}, TmAt H x t → TmAt H y t → t.deep < n → Alike H n x y
  | .v m, n, _, _, .v _, .v _, _ => alike_plain trivial
  | .z, n + 1, _, _, .z h, .z h', _ => by
    unfold Alike
    refine .inr ⟨_, _, _, _, rfl, rfl, .inr ⟨h, h'⟩, rfl, by simp, fun i u v h1 h2 => ?_⟩
    obtain rfl : u = v := Option.some.inj (h1.symm.trans h2)
    match i with
    | 0 => simp at h1; subst h1; exact alike_plain trivial
    | i + 1 => simp at h1
  | .s t, n + 1, _, _, .s h q, .s h' q', hd => by
    unfold Alike
    refine .inr ⟨_, _, _, _, rfl, rfl, .inr ⟨h, h'⟩, rfl, by simp, fun i u v h1 h2 => ?_⟩
    match i with
    | 0 => simp at h1 h2; subst h1 h2; exact alike_plain trivial
    | 1 => simp at h1 h2; subst h1 h2; exact alike_tm q q' (by simp only [Tm.deep] at hd; omega)
    | i + 2 => simp at h1
  | .f l r, n + 1, _, _, .f h q1 q2, .f h' q1' q2', hd => by
    unfold Alike
    simp only [Tm.deep] at hd
    refine .inr ⟨_, _, _, _, rfl, rfl, .inr ⟨h, h'⟩, rfl, by simp, fun i u v h1 h2 => ?_⟩
    match i with
    | 0 => simp at h1 h2; subst h1 h2; exact alike_plain trivial
    | 1 => simp at h1 h2; subst h1 h2; exact alike_tm q1 q1' (by omega)
    | 2 => simp at h1 h2; subst h1 h2; exact alike_tm q2 q2' (by omega)
    | i + 3 => simp at h1
theorem alike_all {H : Hp} {n : Nat} : ∀ {ts : List Tm} {xs ys : List V}, AllAt H xs ts → AllAt H ys ts → (∀ t ∈ ts, t.deep < n) → ∀ (i : Nat) (u v : V), xs[i]? = some u → ys[i]? = some v → Alike H n u v
  | [], [], [], _, _, _, i, u, v, h, _ => by simp at h
  | t :: ts, x :: xs, y :: ys, A, B, hd, 0, u, v, h, h' => by
    obtain rfl : x = u := by simpa using h
    obtain rfl : y = v := by simpa using h'
    exact alike_tm A.1 B.1 (hd t (by simp))
  | t :: ts, x :: xs, y :: ys, A, B, hd, i + 1, u, v, h, h' => alike_all A.2 B.2 (fun s hs => hd s (by simp [hs])) i u v (by simpa using h) (by simpa using h')
theorem alike_at {H : Hp} {a : At} (ok : AtOk 50 a) {x y : V} (hx : AtAt H x a) (hy : AtAt H y a) : Alike H 52 x y := by
  obtain ⟨p, xs, rfl, hp, A⟩ := hx
  obtain ⟨q, ys, rfl, hq, B⟩ := hy
  have lx := A.len
  have ly := B.len
  have two := ok.two
  unfold Alike
  refine .inr ⟨p, q, _, _, rfl, rfl, .inr ⟨hp, hq⟩, by simp [lx, ly], by simp; omega, fun i u v h1 h2 => ?_⟩
  match i with
  | 0 =>
    simp at h1 h2; subst h1 h2; exact alike_plain trivial
  | i + 1 => exact alike_all A B (fun t ht => by have := Tm.deep_lt t; have := (ok.sm t ht).2; show t.deep < 51; omega) i u v (by simpa using h1) (by simpa using h2)
theorem alike_ats {H : Hp} : ∀ {as : List At} {xs ys : List V}, (∀ a ∈ as, AtOk 50 a) → AtsAt H xs as → AtsAt H ys as → ∀ (i : Nat) (u v : V), xs[i]? = some u → ys[i]? = some v → Alike H 52 u v
  | [], [], [], _, _, _, i, u, v, h, _ => by simp at h
  | a :: as, x :: xs, y :: ys, ok, A, B, 0, u, v, h, h' => by
    obtain rfl : x = u := by simpa using h
    obtain rfl : y = v := by simpa using h'
    exact alike_at (ok a (by simp)) A.1 B.1
  | a :: as, x :: xs, y :: ys, ok, A, B, i + 1, u, v, h, h' => alike_ats (fun b hb => ok b (by simp [hb])) A.2 B.2 i u v (by simpa using h) (by simpa using h')
theorem Alike.up {H : Hp} : ∀ {n : Nat} {x y : V}, Alike H n x y → Alike H (n + 1) x y
  | 0, x, y, h => by unfold Alike at h ⊢; exact .inl h
  | n + 1, x, y, h => by
    unfold Alike at h ⊢
    rcases h with h | ⟨a, b, xs, ys, h1, h2, h3, h4, h5, h6⟩
    · exact .inl h
    · exact .inr ⟨a, b, xs, ys, h1, h2, h3, h4, h5, fun i u v p q => Alike.up (h6 i u v p q)⟩
theorem Alike.ups {H : Hp} {x y : V} {n m : Nat} (h : Alike H n x y) (le : n ≤ m) : Alike H m x y := by
  obtain ⟨k, rfl⟩ := Nat.exists_eq_add_of_le le
  clear le
  induction k with
  | zero => exact h
  | succ k ih => exact ih.up
theorem at0 {P : V → V → Prop} : ∀ (i : Nat) (u v : V), ([] : List V)[i]? = some u → ([] : List V)[i]? = some v → P u v := by
  intro i u v e1; simp at e1
theorem atC {P : V → V → Prop} {a c : V} {xs ys : List V} (h1 : P a c) (h2 : ∀ (i : Nat) (u v : V), xs[i]? = some u → ys[i]? = some v → P u v) : ∀ (i : Nat) (u v : V), (a :: xs)[i]? = some u → (c :: ys)[i]? = some v → P u v := by
  intro i u v e1 e2
  match i with
  | 0 => simp at e1 e2; subst e1 e2; exact h1
  | i + 1 => exact h2 i u v (by simpa using e1) (by simpa using e2)
theorem alike_t {H : Hp} {n : Nat} {p q : Addr} {xs ys : List V} (hp : H p = some (.tup xs)) (hq : H q = some (.tup ys)) (l : xs.length = ys.length) (few : xs.length ≤ 40) (h : ∀ (i : Nat) (u v : V), xs[i]? = some u → ys[i]? = some v → Alike H n u v) : Alike H (n + 1) (.ref p) (.ref q) := by
  unfold Alike
  exact .inr ⟨p, q, _, _, rfl, rfl, .inr ⟨hp, hq⟩, l, by omega, h⟩
theorem alike_sy {H : Hp} {s : Sy} (ok : SyOk s) {x y : V} (hx : SyAt H x s) (hy : SyAt H y s) : Alike H 54 x y := by
  obtain ⟨p, q, vg, xs, rfl, h1, h2, h3, h4⟩ := hx
  obtain ⟨p', q', vg', ys, rfl, g1, g2, g3, g4⟩ := hy
  have lx := h3.len
  have ly := g3.len
  have f := ok.hs.few
  exact alike_t h1 g1 rfl (by simp) (atC (alike_t h2 g2 (by omega) (by omega) (alike_ats ok.hs.ok h3 g3)) (atC (alike_at ok.gl h4 g4).up at0))
theorem Paired.snoc2 {α β : Type} {R : α → β → Prop} : ∀ {l : List α} {m : List β} {a : α} {b : β}, Paired R l m → R a b → Paired R (l ++ [a]) (m ++ [b])
  | _, _, _, _, .nil, g => .cons g .nil
  | _, _, _, _, .cons h t, g => .cons h (Paired.snoc2 t g)
theorem paired_len {α β : Type} {R : α → β → Prop} : ∀ {l : List α} {m : List β}, Paired R l m → l.length = m.length
  | _, _, .nil => rfl
  | _, _, .cons _ t => congrArg (· + 1) (paired_len t)
structure BdF (bd : Bd) : Prop where
  sm : ∀ p ∈ bd, p.2.small ∧ p.2.size ≤ 8
theorem look_mem {bd : Bd} {n : Int} {t : Tm} (h : bd.lookup n = some t) : (n, t) ∈ bd := by
  induction bd with
  | nil => cases h
  | cons p bd ih =>
    obtain ⟨m, u⟩ := p
    rw [List.lookup_cons] at h
    by_cases e : n = m
    · subst e
      simp at h
      subst h
      simp
    · rw [beq_eq_false_iff_ne.mpr e] at h
      exact List.mem_cons_of_mem _ (ih h)
theorem put_few {bd : Bd} (ok : BdF bd) : ∀ t : Tm, t.small → (t.put bd).small ∧ (t.put bd).size ≤ 7 * t.nums.length + t.size
  | .v n, h => by
    show ((bd.lookup n).getD (.v n)).small ∧ ((bd.lookup n).getD (.v n)).size ≤ 7 * 1 + 1
    cases e : bd.lookup n with
    | none => exact ⟨h, by show 1 ≤ 8; decide⟩
    | some t => exact ok.sm _ (look_mem e)
  | .z, h => ⟨h, by show 1 ≤ 7 * 0 + 1; decide⟩
  | .s t, h => by
    have ih := put_few ok t fun n hn => h n hn
    exact ⟨ih.1, by show (t.put bd).size + 1 ≤ 7 * t.nums.length + (t.size + 1); omega⟩
  | .f l r, h => by
    have h1 := put_few ok l fun n hn => h n (by simp [Tm.nums, hn])
    have h2 := put_few ok r fun n hn => h n (by simp [Tm.nums, hn])
    refine ⟨fun n hn => ?_, by show (l.put bd).size + (r.put bd).size + 1 ≤ 7 * (l.nums ++ r.nums).length + (l.size + r.size + 1); rw [List.length_append]; omega⟩
    rcases List.mem_append.mp hn with hn | hn
    · exact h1.1 n hn
    · exact h2.1 n hn
theorem atPut_ok {bd : Bd} (ok : BdF bd) {a : At} (h : AtOk 7 a) : AtOk 50 (atPut bd a) := by
  refine ⟨h.nm, by show 1 ≤ (a.ts.map _).length; rw [List.length_map]; exact h.one, by show (a.ts.map _).length ≤ 2; rw [List.length_map]; exact h.two, fun t ht => ?_⟩
  obtain ⟨u, hu, rfl⟩ := List.mem_map.mp (show t ∈ a.ts.map (Tm.put bd) from ht)
  have z := h.sm u hu
  have p := put_few ok u z.1
  have n := nums_half u
  exact ⟨p.1, by omega⟩
theorem put_nil : ∀ t : Tm, t.put [] = t
  | .v _ => rfl
  | .z => rfl
  | .s t => congrArg Tm.s (put_nil t)
  | .f l r => by show Tm.f (l.put []) (r.put []) = _; rw [put_nil l, put_nil r]
theorem atPut_nil (a : At) : atPut [] a = a := by
  unfold atPut
  have : a.ts.map (Tm.put []) = a.ts := by
    rw [show Tm.put [] = id from funext put_nil, List.map_id]
  rw [this]
theorem syPut_nil {s : Sy} (nd : s.hs.Nodup) : syPut [] s = s := by
  unfold syPut
  rw [atPut_nil, show atPut [] = id from funext atPut_nil, List.map_id, unl_id.mpr nd]
theorem syPut_ok {bd : Bd} (ok : BdF bd) {s : Sy} (so : SyOk s) (h7 : ∀ a ∈ s.hs, AtOk 7 a) (g7 : AtOk 7 s.gl) : SyOk (syPut bd s) := by
  refine ⟨AtsOk.mk ?_ (fun a ha => ?_), unl_nd _, atPut_ok ok g7⟩
  · have := unl_le (as := s.hs.map (atPut bd))
    rw [List.length_map] at this
    exact Nat.le_trans this so.hs.few
  · obtain ⟨c, hc, rfl⟩ := List.mem_map.mp (mem_unl ha)
    exact atPut_ok ok (h7 c hc)
theorem few7 {a : At} (h : AtOk 7 a) : Few7 a := ⟨h.two, fun t ht => (h.sm t ht).2⟩
theorem nums8 {a : At} (h : AtOk 7 a) : (atNums a).length ≤ 8 := by
  have each : ∀ ts : List Tm, (∀ t ∈ ts, t.size ≤ 7) → (ts.flatMap Tm.nums).length ≤ 4 * ts.length := by
    intro ts
    induction ts with
    | nil => intro _; simp
    | cons t ts ih =>
      intro h
      have h1 := h t (by simp)
      have h2 := ih fun u hu => h u (by simp [hu])
      have h3 := nums_half t
      rw [List.flatMap_cons, List.length_append, List.length_cons, Nat.mul_add]
      omega
  have z := each a.ts fun t ht => (h.sm t ht).2
  have := h.two
  have e : (atNums a).length = (a.ts.flatMap Tm.nums).length := rfl
  omega
theorem syNums_few {s : Sy} (so : SyOk s) (h7 : ∀ a ∈ s.hs, AtOk 7 a) (g7 : AtOk 7 s.gl) : (syNums s).length ≤ 56 := by
  have each : ∀ as : List At, (∀ a ∈ as, AtOk 7 a) → (as.flatMap atNums).length ≤ 8 * as.length := by
    intro as
    induction as with
    | nil => intro _; simp
    | cons a as ih =>
      intro h
      have h1 := nums8 (h a (by simp))
      have h2 := ih fun u hu => h u (by simp [hu])
      rw [List.flatMap_cons, List.length_append, List.length_cons, Nat.mul_add]
      omega
  have z := each (s.hs ++ [s.gl]) fun a ha => by
    rcases List.mem_append.mp ha with ha | ha
    · exact h7 a ha
    · rw [show a = s.gl by simpa using ha]; exact g7
  have f := so.hs.few
  rw [List.length_append, List.length_singleton] at z
  have e : (syNums s).length = ((s.hs ++ [s.gl]).flatMap atNums).length := rfl
  omega
theorem SyAt.tups {H H' : Hp} (u : Tups H H') {v : V} {s : Sy} (h : SyAt H v s) : SyAt H' v s := syAt_mono u.1 h
def spPutsB : Sp := fun vs H Q _ => ∃ (b sp pp : Addr) (ss ks : List Int) (j : Nat), vs = [.ref b, .ref sp, .ref pp] ∧ BoxAt H b j ∧ H sp = some (.lst (ss.map V.int)) ∧ H pp = some (.lst (ks.map V.int)) ∧ (∀ k ∈ ks, 0 ≤ k ∧ k ≤ 99) ∧ ks.length ≤ 200 ∧ sp ≠ b ∧ pp ≠ b ∧ ss.Nodup ∧ ss.length ≤ 60 ∧ j + 1200 ≤ 1000000 ∧
  ∀ (a : Addr) (bd : Bd) (H' : Hp), BdAt H' a bd → BdF bd → (bd.map (·.1)).Sublist ss → BoxAt H' b (j + 1200) → But b H H' → Q (.ref a) H'
def spPutRight (T : List NTab) : Sp := fun vs H Q _ => ∃ (v0 v : V) (s : Sy) (a : Addr) (bd : Bd), vs = [v0, v, .ref a] ∧ SyAt H v s ∧ SyOk s ∧ (∀ a ∈ s.hs, AtOk 7 a) ∧ AtOk 7 s.gl ∧ BdAt H a bd ∧ BdF bd ∧ TabsN T H ∧ ∀ H', Ext T H H' → Q (.bl true) H'
def tePutB : TE := tTup (tCons (tVar 3) (tCons (tCall (spLTerm 3) [] E0 (tCons (tVar 0) (tCons (tVar 2) (tCons (tCall spTake [] E0 (tCons (tVar 0) (tCons (tC (.int 3)) tNil))) tNil)))) tNil))
def ttPutB : TT := tTest (tOp (rI0 fun i j => .bl (decide (j < i))) (tCall spTake [] E0 (tCons (tVar 0) (tCons (tC (.int 4)) tNil))) (tC (.int 0)))
def tePR : TE := tCall (spLPutD 9) [] E0 (tCons (tVar 7) (tCons (tVar 3) tNil))
abbrev NPu : List Str := ["_law_box_here", "_law_spots_here", "_law_pool", "_law_one"]
section
variable {P : Program} {w : World} {K : PySem.W.Frag} {mg : Str → Option Value} {base : Heap}
abbrev NPR : List Str := ["_law_box_here", "_law_saying_here", "_law_binding", "_law_puts", "_law_due", "_law_found", "_law_spots_here", "_law_hyp"]
end
end Rp

/-! Plain tuples cut and put together: plain again. -/
namespace Rp
open PySem PySem.Spec PyProof.Rows L2
section
variable {X : Cx}
def rCatF (K : PySem.W.Frag) : R2 := fun x y H Q => ∃ (a b : Addr) (xs ys : List V), x = .ref a ∧ y = .ref b ∧ PlT H a xs ∧ PlT H b ys ∧ xs.length + ys.length ≤ sizeLine ∧ ∀ (p : Addr) (H' : Hp), PlT H' p (xs ++ ys) → Same H H' → Q (.ref p) H'
theorem pl_new {H : Hp} {p : Addr} {o : Obj} {xs : List V} (od : o.dict = none) (h : H p = none) : PlT (upd H p (.frz o (.tup xs))) p xs ∧ Same H (upd H p (.frz o (.tup xs))) := ⟨⟨o, od, upd_same⟩, fun b u q => by rw [upd_ne (ne_of_none q h)]; exact q⟩
theorem op_catF : OpR X (binaryOp .Add) (rCatF X.K) := by
  intro pins s σ H x y v u Q I rx ry h
  obtain ⟨a, b, xs, ys, rfl, rfl, ha, hb, hz, go⟩ := h
  by_cases hx : xs = []
  · subst hx
    cases rx
    cases ry
    obtain ⟨its, r1, p1, _⟩ := I.tuple (ha.sq (K := X.K))
    obtain ⟨its2, r2, p2, _⟩ := I.tuple (hb.sq (K := X.K))
    cases r1
    exact cat_tup0 p1 p2 ⟨.ref b, H, I, rfl, go b H hb fun _ _ q => q⟩
  · cases rx
    cases ry
    obtain ⟨its, r1, p1, _⟩ := I.tuple (ha.sq (K := X.K))
    obtain ⟨its2, r2, p2, _⟩ := I.tuple (hb.sq (K := X.K))
    refine HT.cat_tup p1 p2 (fun z => hx (r1.nil_iff.mp z)) (fun z => ⟨.ref a, H, I, rfl, go a H (by rw [r2.nil_iff.mp z, List.append_nil]; exact ha) fun _ _ q => q⟩) (fun z => ?_) (by rw [← r1.length, ← r2.length]; exact hz)
    have fr := I.hok.fresh (Nat.le_refl s.heap.objs.size)
    have new := pl_new (o := { cls := .type "tuple", data := .seq (its ++ its2).toArray }) (xs := xs ++ ys) rfl fr
    refine ⟨.ref s.heap.objs.size, _, I.laid (t' := s.toks) (o := .frz { cls := .type "tuple", data := .seq (its ++ its2).toArray } (.tup (xs ++ ys))) (fun b ob q => Heap.get?_push_of_some _ q) (Nat.le_refl _) ?_, rfl, go _ _ new.1 new.2⟩
    exact ⟨Heap.get?_push_size _ rfl, by rw [List.length_append]; exact hz, _, r1.append r2, IsTup.new _ _⟩
def rSlF (K : PySem.W.Frag) : V → Option Int → Option Int → Hp → VK → Prop := fun x lo hi H Q => ∃ (a : Addr) (xs : List V), x = .ref a ∧ PlT H a xs ∧ ∀ (p : Addr) (H' : Hp), PlT H' p (cutV xs lo hi) → Same H H' → Q (.ref p) H'
theorem sl_tupF : SlR X (rSlF X.K) := by
  intro pins s σ H x v vl vu lo hi sl Q I rx hs pl pu h
  obtain ⟨a, xs, rfl, hx, go⟩ := h
  cases rx
  obtain ⟨its, r, ht, hz⟩ := I.tuple (hx.sq (K := X.K))
  have hlen : its.toArray.size = xs.length := by rw [List.size_toArray]; exact r.length.symm
  refine ⟨"tuple", _, PyProof.Rows.slot_tuple_getitem.lookup, ht.typeIs, ?_⟩
  by_cases hw : HT.sIx xs.length 0 lo = 0 ∧ HT.sIx xs.length xs.length hi = xs.length
  · have e : cutV xs lo hi = xs := by
      unfold cutV
      rw [hw.1, hw.2, List.drop_zero, Nat.sub_zero, List.take_length]
    exact getItem_tuple_whole ht hs pl pu (by rw [hlen]; exact hw) ⟨.ref a, H, I, rfl, go a H (by rw [e]; exact hx) fun _ _ q => q⟩
  · refine HT.getItem_tuple_cut ht hs pl pu (by rw [hlen]; exact hw) ?_ (by rw [hlen]; exact hz)
    rw [hlen]
    have fr := I.hok.fresh (Nat.le_refl s.heap.objs.size)
    refine ⟨.ref s.heap.objs.size, _, I.laid (t' := s.toks) (o := .frz _ (.tup (cutV xs lo hi))) (fun b ob q => Heap.get?_push_of_some _ q) (Nat.le_refl _) ⟨Heap.get?_push_size _ rfl, Nat.le_trans (cutV_length xs lo hi) hz, _, (r.drop (HT.sIx xs.length 0 lo)).take (HT.sIx xs.length xs.length hi - HT.sIx xs.length 0 lo), IsTup.new _ _⟩, rfl, go _ _ (pl_new rfl fr).1 (pl_new rfl fr).2⟩
end
end Rp

set_option maxHeartbeats 8000000
/-! comes_of; the law's own look; a saying's own BINDING. -/
namespace Rp
open PySem PySem.Spec PyProof.Rows L2 TL NdefX LamX StX PpSet
def Comes (s o : Sy) (bd : Bd) : Prop := (bd.map (·.1)).Pairwise (· < ·) ∧ (∀ k, k ∈ bd.map (·.1) ↔ k ∈ syNums o) ∧ atPut bd o.gl = s.gl ∧ ∀ h ∈ o.hs, atPut bd h ∈ s.hs
theorem eqv_intsA : ∀ {a b : List Int}, PyData.eqvAll (a.map PyData.int) (b.map PyData.int) = decide (a = b)
  | [], [] => by simp only [List.map_nil, PyData.eqvAll]; rfl
  | [], b :: bs => by simp only [List.map_nil, List.map_cons, PyData.eqvAll]; rfl
  | a :: as, [] => by simp only [List.map_nil, List.map_cons, PyData.eqvAll]; rfl
  | a :: as, b :: bs => by
    rw [List.map_cons, List.map_cons, eqvAll_cons, eqv_int, eqv_intsA]
    by_cases h : a = b
    · subst h; simp
    · simp [h]
theorem eqv_ints {a b : List Int} : PyData.eqv (.list (a.map PyData.int)) (.list (b.map PyData.int)) = decide (a = b) := by
  rw [← eqv_intsA]; simp only [PyData.eqv]
theorem eqv_atD {a b : At} : PyData.eqv (atD a) (atD b) = decide (a = b) := by
  rw [Bool.eq_iff_iff, eqv_at, decide_eq_true_iff]
theorem ats_shapedT {as : List At} (h : ∀ a ∈ as, AtOk 50 a) : SeqAt.shaped (.tuple (as.map atD)) = true := by
  have z := ats_lay h
  refine shaped_of ?_ ?_
  · show PyData.canLayAll0 _ = true
    exact z.1
  · show PyData.depthAll _ + 1 ≤ 64
    omega
theorem paired_get {α β : Type} {R : α → β → Prop} : ∀ {l : List α} {m : List β} {i : Nat} {x : α}, Paired R l m → l[i]? = some x → ∃ y, m[i]? = some y ∧ R x y
  | _, _, i, x, .nil, h => by simp at h
  | _, _, 0, x, .cons (b := b) h _, e => ⟨b, rfl, by simp at e; subst e; exact h⟩
  | _, _, i + 1, x, .cons _ t, e => by simpa using paired_get t (by simpa using e)
theorem unlG_mem : ∀ {as acc : List At} {x : At}, x ∈ acc ∨ x ∈ as → x ∈ unlG acc as
  | [], acc, x, h => by rcases h with h | h; exact h; simp at h
  | a :: as, acc, x, h => by
    have e : unlG acc (a :: as) = unlG (if a ∈ acc then acc else acc ++ [a]) as := rfl
    rw [e]
    refine unlG_mem ?_
    rcases h with h | h
    · left; split
      · exact h
      · exact List.mem_append_left _ h
    · rcases List.mem_cons.mp h with rfl | h
      · left; split
        · assumption
        · simp
      · exact .inr h
theorem unl_mem {as : List At} {x : At} : x ∈ unl as ↔ x ∈ as := ⟨mem_unl, fun h => unlG_mem (.inr h)⟩
/-- a BINDING's pairs, in the heap -/
theorem bd_pair {H : Hp} {ps : List Addr} {bd : Bd} (P : Paired (PrAt H) ps bd) {i : Nat} {x : V} (h : (ps.map V.ref)[i]? = some x) : ∃ (p : Addr) (n : Int) (t : Tm) (y : V), x = .ref p ∧ bd[i]? = some (n, t) ∧ H p = some (.tup [.int n, y]) ∧ TmAt H y t := by
  rw [List.getElem?_map] at h
  cases e : ps[i]? with
  | none => rw [e] at h; cases h
  | some p =>
    rw [e] at h
    obtain ⟨⟨n, t⟩, e2, y, h1, h2⟩ := paired_get P e
    exact ⟨p, n, t, y, by simpa using h.symm, e2, h1, h2⟩
def spComes (T : List NTab) : Sp := fun vs H Q _ => ∃ (v vo : V) (a : Addr) (s o : Sy) (bd : Bd), vs = [v, vo, .ref a] ∧ SyAt H v s ∧ SyOk s ∧ SyAt H vo o ∧ SyOk o ∧ (∀ a ∈ o.hs, AtOk 7 a) ∧ AtOk 7 o.gl ∧ BdAt H a bd ∧ BdF bd ∧ TabsN T H ∧
  ∀ (r : Bool) (H' : Hp), (r = true ↔ Comes s o bd) → Ext T H H' → Q (.bl r) H'
def spLComes : Sp := fun vs H Q _ => ∃ (v vo : V) (a : Addr) (s o : Sy) (bd : Bd), vs = [v, vo, .ref a] ∧ SyAt H v s ∧ SyOk s ∧ SyAt H vo o ∧ SyOk o ∧ (∀ a ∈ o.hs, AtOk 7 a) ∧ AtOk 7 o.gl ∧ BdAt H a bd ∧ BdF bd ∧
  ∀ (r : Bool) (H' : Hp), (r = true ↔ Comes s o bd) → Same H H' → Q (.bl r) H'
abbrev NCo : List Str := ["saying", "other", "binding", "put_hyps", "put_goal", "hyps", "goal", "variable", "_", "hyp"]
abbrev NLC : List Str := ["_law_saying_here", "_law_other", "_law_binding", "_law_puts", "_law_pair", "_law_hyp"]
def teIn (K : PySem.W.Frag) : TE := tOp (rInT K) (tVar 9) (tVar 5)
def teInL (K : PySem.W.Frag) : TE := tOp (rInT K) (tCall (spLPutD 9) [] E0 (tCons (tVar 5) (tCons (tVar 3) tNil))) (tOp (rIxT K) (tVar 0) (tC (.int 0)))
section
variable {P : Program} {w : World} {K : PySem.W.Frag} {mg : Str → Option Value} {base : Heap}
theorem scCo : FnScope NCo ["saying", "other", "binding"] (defScope sComes) := ⟨rfl, rfl, rfl, by decide +kernel, rfl, by decide +kernel, by decide +kernel⟩
theorem scLC : FnScope NLC ["_law_saying_here", "_law_other", "_law_binding"] (defScope sComesL) := ⟨rfl, rfl, rfl, by decide +kernel, rfl, by decide +kernel, by decide +kernel⟩
theorem ok_comes {T : List NTab} {f fV fP : Addr} {fd dV dP : FuncData} (F : Fun K "comes_of" "comes_of" sComes f fd)
    (GV : FnOk P w K mg base CX0 5 fV dV ["saying"] spSyVars) (kV : PySem.W.keepIn K (.ref fV) = true) (bV : Binds K dV ["saying"] []) (mV : mg "saying_variables" = some (.ref fV))
    (GP : FnOk P w K mg base CX0 6 fP dP ["saying", "binding"] (spSyPut T)) (kP : PySem.W.keepIn K (.ref fP) = true) (bP : Binds K dP ["saying", "binding"] []) (mP : mg "saying_put" = some (.ref fP))
    (mAll : mg "all" = none) : FnOk P w K mg base CX0 7 f fd ["saying", "other", "binding"] (spComes T) := by
  refine F.ok scCo (fun vs H Q E h => ?_) (fun cdv A outer s H vs Q E hr h => ?_)
  · obtain ⟨v, vo, a, s, o, bd, rfl, _⟩ := h
    rfl
  obtain ⟨v, vo, ab, sy, oy, bd, rfl, S0, ok, O0, oko, h7, g7, Bd0, fb, hT, q⟩ := h
  have r5 : Room 5 _ := hr.mono (by decide)
  have r6 : Room 6 _ := hr.mono (by decide)
  refine ⟨_, (pss_cons (ps_if (pt_cmpR (op_neD hr.units) (pe_lc (own := [("variable", 7), ("_", 8)]) (g := gTup K 2 (gCons (gName 7) (gCons (gName 8) gNil))) (tt := tYes) (te := tVar 7) rfl scCo.nd (pi_tup (pv 2)) (blkOk_by (N := NCo) (sc := defScope sComes) (by decide +kernel)) (fun _ _ _ _ _ => (pg_tup (by rfl) (pgs_cons (pg_name (i := 7) scCo.nd rfl (Or.inl rfl)) (pgs_cons (pg_name (i := 8) scCo.nd rfl (Or.inl rfl)) pgs_nil)))) (fun _ _ _ _ _ => pts_nil) (fun _ _ _ _ _ => pv 7)) (pe_call GV r5 rfl mV kV bV .nil pass0 (pa_cons (pv 1) pa_nil)) (nomark _)) (pss_one (ps_ret pe_bl)) pss_nil)
    (pss_cons (ps_asg (pe_call GP r6 rfl mP kP bP .nil pass0 (pa_cons (pv 1) (pa_cons (pv 2) pa_nil))) (pg_tup (by rfl) (pgs_cons (pg_name (i := 3) scCo.nd rfl (Or.inl rfl)) (pgs_cons (pg_name (i := 4) scCo.nd rfl (Or.inl rfl)) pgs_nil))))
    (pss_cons (ps_asg (pv 0) (pg_tup (by rfl) (pgs_cons (pg_name (i := 5) scCo.nd rfl (Or.inr rfl)) (pgs_cons (pg_name (i := 6) scCo.nd rfl (Or.inl rfl)) pgs_nil))))
    (pss_one (ps_ret (pe_and (pe_cmpR (op_eqD hr.units) (pv 4) (pv 6) (nomark _)) (pe_one (pe_callB (cr_all rfl) (by rfl) mAll (by decide +kernel) (pa_cons (pe_lc (own := [("hyp", 9)]) (g := gName 9) (tt := tYes) (te := (teIn K)) rfl scCo.nd (pi_tup (pv 3)) (blkOk_by (N := NCo) (sc := defScope sComes) (by decide +kernel)) (fun _ _ _ _ _ => (pg_name (i := 9) scCo.nd rfl (Or.inl rfl))) (fun _ _ _ _ _ => pts_nil) (fun _ _ _ _ _ => (pe_cmpR (op_inT (hu65 hr)) (pv 9) (pv 5) (by rfl)))) pa_nil))))))))), ?_⟩
  have big : (10000 : Nat) ≤ sizeLine := by decide
  obtain ⟨ps, hpl, pr, nd, bz⟩ := id Bd0
  have pl := paired_len pr
  have oks := oko.hs.few
  have f7s : ∀ a ∈ oy.hs, Few7 a := fun a ha => few7 (h7 a ha)
  refine ⟨_, rfl, ab, rfl, ⟨_, hpl.sq⟩, fun D hD => lc_tup (K := K) (a := ab) (xs := ps.map V.ref) (fun i H2 => H2 D = some (.lst (((bd.take i).map (·.1)).map V.int)) ∧ Same H H2)
    ⟨upd_same, same_new hD _⟩ (fun i H2 _ ⟨_, s⟩ => (hpl.same s).sq) ?_ ?_⟩
  · rintro i x H2 hi ⟨h2, s2⟩
    obtain ⟨p, n, t, y, rfl, hb, hp, Ty⟩ := bd_pair pr hi
    have li : i < bd.length := (List.getElem?_eq_some_iff.mp hb).1
    have tk : bd.take (i + 1) = bd.take i ++ [(n, t)] := by rw [List.take_add_one, hb]; rfl
    refine ⟨p, _, rfl, .inl (.inl (s2 _ _ hp)), rfl, _, _, rfl, _, _, rfl, rfl, rfl, ?_⟩
    refine ⟨_, rfl, _, h2, by rw [List.length_map, List.length_map, List.length_take]; omega, ?_, fun c o z => by rw [upd_ne (ne_of_none z hD)]; exact s2 _ _ z⟩
    rw [upd_same, tk, List.map_append, List.map_append]
    rfl
  rintro H2 ⟨h2, s2⟩
  rw [List.length_map, pl, List.take_length] at h2
  refine ⟨_, rfl, _, oy, rfl, O0.same s2, oks, f7s, few7 g7, fun gv ns H3 hgv0 hgv up mem s3 => ?_⟩
  have h23 := s3 _ _ h2
  have s13 := s2.trans s3
  refine ⟨.list ((bd.map (·.1)).map PyData.int), .list (ns.map PyData.int), .lst (.inl (.inl h23)) (dp_ints _), .lst (.inl (.inl hgv)) (dp_ints _), ints_shaped _, ints_shaped _, _, rfl, ?_⟩
  rw [eqv_ints]
  have e3 : Ext T H H3 := Ext.same hT s13
  by_cases en : bd.map (·.1) = ns
  · rw [decide_eq_true en]
    have f7 : ∀ a ∈ oy.hs, Few7 a ∧ AtOk 50 (atPut bd a) := fun a ha => ⟨few7 (h7 a ha), atPut_ok fb (h7 a ha)⟩
    have gk := atPut_ok fb g7
    refine iteF ⟨_, rfl, _, rfl, vo, oy, ab, bd, rfl, O0.same s13, oks, f7, few7 g7, Bd0.mono (Tups.same s13), e3.tab, fun v' H4 S4 e4 => ?_⟩
    have e14 := e3.trans e4
    obtain ⟨p, g0, vg, xs, rfl, hp, hg0, A0, G0⟩ := S4
    obtain ⟨p', g1, vg1, ys, rfl, hp1, hg1, A1, G1⟩ := SyAt.tups e14.tups S0
    have xl := A0.len
    refine ⟨p, _, rfl, .inl (.inl hp), rfl, _, _, rfl, _, _, rfl, rfl, ?_⟩
    refine ⟨_, rfl, p', _, rfl, .inl (.inl hp1), rfl, _, _, rfl, _, _, rfl, rfl, ?_⟩
    refine ⟨_, rfl, _, rfl, atD (atPut bd oy.gl), atD sy.gl, at_dp G0, at_dp G1, at_shaped gk, at_shaped ok.gl, _, rfl, ?_⟩
    rw [eqv_atD]
    by_cases eg : atPut bd oy.gl = sy.gl
    · have ukl : (unl (oy.hs.map (atPut bd))).length ≤ 6 := by
        have := unl_le (as := oy.hs.map (atPut bd)); rw [List.length_map] at this; omega
      have uok : ∀ a ∈ unl (oy.hs.map (atPut bd)), AtOk 50 a := fun a ha => by
        obtain ⟨c, hc, rfl⟩ := List.mem_map.mp (mem_unl ha)
        exact (f7 c hc).2
      have ehs : (syPut bd oy).hs = unl (oy.hs.map (atPut bd)) := rfl
      rw [ehs] at A0 xl
      generalize hU : unl (oy.hs.map (atPut bd)) = us at A0 xl ukl uok
      rw [decide_eq_true eg]
      refine iteT ⟨_, rfl, g0, rfl, ⟨_, .inl (.inl hg0)⟩, fun DD hDD => lc_tup (K := K) (a := g0) (xs := xs) (fun i H5 => H5 DD = some (.lst (((us.take i).map fun a => decide (a ∈ sy.hs)).map V.bl)) ∧ Same H4 H5)
        ⟨upd_same, same_new hDD _⟩ (fun i H5 _ ⟨_, s⟩ => .inl (.inl (s _ _ hg0))) ?_ ?_⟩
      · rintro i x H5 hi ⟨h5, s5⟩
        obtain ⟨t, ht, Tx⟩ := A0.get hi
        have li : i < xs.length := (List.getElem?_eq_some_iff.mp hi).1
        have tk : us.take (i + 1) = us.take i ++ [t] := by rw [List.take_add_one, ht]; rfl
        refine ⟨rfl, ?_⟩
        unfold teIn
        refine ⟨_, rfl, _, rfl, atD t, sy.hs.map atD, at_dp (atAt_same Tx s5), .tup (.inl (.inl (s5 _ _ hg1))) (ats_dp (A1.same s5)), at_shaped (uok t (List.mem_of_getElem? ht)), ats_shapedT ok.hs.ok, ?_⟩
        rw [in_ats]
        refine ⟨_, h5, by rw [List.length_map, List.length_map, List.length_take]; omega, ?_, fun c o z => by rw [upd_ne (ne_of_none z hDD)]; exact s5 _ _ z⟩
        rw [upd_same, tk, List.map_append, List.map_append]
        rfl
      · rintro H5 ⟨h5, s5⟩
        rw [xl, List.take_length] at h5
        refine ⟨DD, _, rfl, .inl (.inl h5), ?_⟩
        refine q _ H5 ?_ (e14.trans (Ext.same e4.tab s5))
        rw [List.all_map, List.all_eq_true]
        refine ⟨fun h => ⟨en ▸ up, fun k => by rw [en]; exact mem k, eg, fun a ha => ?_⟩, fun ⟨_, _, _, h⟩ a ha => ?_⟩
        · have m : atPut bd a ∈ us := by rw [← hU]; exact unl_mem.mpr (List.mem_map.mpr ⟨a, ha, rfl⟩)
          simpa using h _ m
        · rw [← hU] at ha
          obtain ⟨c, hc, rfl⟩ := List.mem_map.mp (mem_unl ha)
          simpa using h c hc
    · rw [decide_eq_false eg]
      refine iteF ?_
      exact q false H4 ⟨fun h => (by cases h), fun h => absurd h.2.2.1 eg⟩ e14
  · rw [decide_eq_false en]
    refine iteT ?_
    refine q false H3 ⟨fun h => (by cases h), fun h => absurd (rising_one h.1 up fun k => by rw [h.2.1 k, mem k]) en⟩ e3
theorem ok_lcomes {f fL fS : Addr} {fd dL dS : FuncData} (F : Fun K "_law_comes_of" "_law_comes_of" sComesL f fd)
    (GL : FnOk P w K mg base CX0 9 fL dL ["_law_thing", "_law_puts"] (spLPutD 9)) (kL : PySem.W.keepIn K (.ref fL) = true) (bL : Binds K dL ["_law_thing", "_law_puts"] []) (mL : mg "_law_put" = some (.ref fL))
    (GS : FnOk P w K mg base CX0 12 fS dS ["_law_thing"] (spSpots 12)) (kS : PySem.W.keepIn K (.ref fS) = true) (bS : Binds K dS ["_law_thing"] []) (mS : mg "_law_spots" = some (.ref fS))
    (mAll : mg "all" = none) (mDict : mg "dict" = none) : FnOk P w K mg base CX0 13 f fd ["_law_saying_here", "_law_other", "_law_binding"] spLComes := by
  refine F.ok scLC (fun vs H Q E h => ?_) (fun cdv A outer s H vs Q E hr h => ?_)
  · obtain ⟨v, vo, a, s, o, bd, rfl, _⟩ := h
    rfl
  obtain ⟨v, vo, ab, sy, oy, bd, rfl, S0, ok, O0, oko, h7, g7, Bd0, fb, q⟩ := h
  have r9 : Room 9 _ := hr.mono (by decide)
  have r12 : Room 12 _ := hr.mono (by decide)
  refine ⟨_, (pss_cons (ps_set (i := 3) scLC.nd rfl (Or.inr rfl) (pe_callTy (cr_dictT rfl) (by rfl) mDict (by decide +kernel) (pa_cons (pv 2) pa_nil)))
    (pss_cons (ps_if (PW.pt (pw_or (pt_cmpR (op_neD hr.units) (pe_lc (own := [("_law_pair", 4)]) (g := gName 4) (tt := tYes) (te := (tOp (rIxT K) (tVar 4) (tC (.int 0)))) rfl scLC.nd (pi_tup (pv 2)) (blkOk_by (N := NLC) (sc := defScope sComesL) (by decide +kernel)) (fun _ _ _ _ _ => (pg_name (i := 4) scLC.nd rfl (Or.inl rfl))) (fun _ _ _ _ _ => pts_nil) (fun _ _ _ _ _ => (pe_ix ix_tup (pv 4) pe_int (fun _ _ => rfl)))) (pe_call GS r12 rfl mS kS bS .nil pass0 (pa_cons (pv 1) pa_nil)) (nomark _)) (pw_or1 (pt_cmpR (op_neD hr.units) (pe_call GL r9 rfl mL kL bL .nil pass0 (pa_cons (pe_ix ix_tup (pv 1) pe_int (fun _ _ => rfl)) (pa_cons (pv 3) pa_nil))) (pe_ix ix_tup (pv 0) pe_int (fun _ _ => rfl)) (nomark _))))) (pss_one (ps_ret pe_bl)) pss_nil)
    (pss_one (ps_ret (pe_callB (cr_all rfl) (by rfl) mAll (by decide +kernel) (pa_cons (pe_lc (own := [("_law_hyp", 5)]) (g := gName 5) (tt := tYes) (te := (teInL K)) rfl scLC.nd (pi_tup (pe_ix ix_tup (pv 1) pe_int (fun _ _ => rfl))) (blkOk_by (N := NLC) (sc := defScope sComesL) (by decide +kernel)) (fun _ _ _ _ _ => (pg_name (i := 5) scLC.nd rfl (Or.inl rfl))) (fun _ _ _ _ _ => pts_nil) (fun _ _ _ _ _ => (pe_cmpR (op_inT (hu65 hr)) (pe_call GL r9 (by rfl) mL kL bL .nil pass0 (pa_cons (pv 5) (pa_cons (pv 3) pa_nil))) (pe_ix ix_tup (pv 0) pe_int (fun _ _ => rfl)) (by rfl)))) pa_nil)))))), ?_⟩
  have big : (10000 : Nat) ≤ sizeLine := by decide
  obtain ⟨ps, hpl, pr, nd, bz⟩ := id Bd0
  have pl := paired_len pr
  have oks := oko.hs.few
  obtain ⟨kvs, k1, k2⟩ := pairs_of (K := K) pr
  refine ⟨_, rfl, ab, ps, kvs, rfl, hpl, k1, fun D hD => ?_⟩
  have s1 := same_new hD (.dK (mergeK [] kvs))
  have hD1 : (upd H D (.dK (mergeK [] kvs))) D = some (.dK (mergeK [] kvs)) := upd_same
  have DB := (dict_of k2 nd).mono (Tups.same s1).1
  generalize upd H D (.dK (mergeK [] kvs)) = H1 at s1 hD1 DB ⊢
  refine ⟨_, rfl, ab, rfl, ⟨_, (hpl.same s1).sq⟩, fun E hE => lc_tup (K := K) (a := ab) (xs := ps.map V.ref) (fun i H2 => H2 E = some (.lst (((bd.take i).map (·.1)).map V.int)) ∧ Same H1 H2)
    ⟨upd_same, same_new hE _⟩ (fun i H2 _ ⟨_, s⟩ => (hpl.same (s1.trans s)).sq) ?_ ?_⟩
  · rintro i x H2 hi ⟨h2, s2⟩
    obtain ⟨p, n, t, y, rfl, hb, hp, Ty⟩ := bd_pair pr hi
    have li : i < bd.length := (List.getElem?_eq_some_iff.mp hb).1
    have tk : bd.take (i + 1) = bd.take i ++ [(n, t)] := by rw [List.take_add_one, hb]; rfl
    refine ⟨rfl, ?_⟩
    refine ⟨_, rfl, p, _, _, _, rfl, rfl, .inl (.inl (s2 _ _ (s1 _ _ hp))), at_of (j := 0) rfl rfl, ?_⟩
    refine ⟨_, h2, by rw [List.length_map, List.length_map, List.length_take]; omega, ?_, fun c o z => by rw [upd_ne (ne_of_none z hE)]; exact s2 _ _ z⟩
    rw [upd_same, tk, List.map_append, List.map_append]
    rfl
  rintro H2 ⟨h2, s2⟩
  rw [List.length_map, pl, List.take_length] at h2
  have s12 := s1.trans s2
  obtain ⟨fq, ndS, _⟩ := fq_sy oko h7 g7
  have dpS := fq.dp
  obtain ⟨okn, dnn⟩ := dNums_sy oy
  have dl5 := syNums_few oko h7 g7
  refine ⟨_, rfl, (0 : Nat), _, syD oy, rfl, (O0.same s12).dat, okn, by omega, by rw [dnn]; omega, by omega, fun gl ns H3 hgl0 hgl up mem s3 => ?_⟩
  have h23 := s3 _ _ h2
  have s13 := s12.trans s3
  refine ⟨.list ((bd.map (·.1)).map PyData.int), .list (ns.map PyData.int), .lst (.inl (.inl h23)) (dp_ints _), .lst (.inl (.inl hgl)) (dp_ints _), ints_shaped _, ints_shaped _, _, rfl, ?_⟩
  rw [eqv_ints]
  by_cases en : bd.map (·.1) = ns
  · rw [decide_eq_true en]
    obtain ⟨p, g0, vg, xs, rfl, hp, hg0, A0, G0⟩ := O0.same s13
    obtain ⟨p', g1, vg1, ys, rfl, hp1, hg1, A1, G1⟩ := S0.same s13
    have xl := A0.len
    have gk := atPut_ok fb g7
    have hD3 := (s2.trans s3) _ _ hD1
    have DB3 := DB.mono (Tups.same (s2.trans s3)).1
    refine iteF ⟨_, rfl, p, _, _, _, rfl, rfl, .inl (.inl hp), at_of (j := 1) rfl rfl, _, rfl, vg, D, bd, _, rfl, hD3, DB3, .inr ⟨oy.gl, by decide, G0, g7.two, fun u hu => by have := Tm.deep_lt u; have := (g7.sm u hu).2; omega, fun v' H4 T4 s4 => ?_⟩⟩
    refine ⟨_, rfl, p', _, _, _, rfl, rfl, .inl (.inl (s4 _ _ hp1)), at_of (j := 1) rfl rfl, atD (atPut bd oy.gl), atD sy.gl, at_dp T4, at_dp (atAt_same G1 s4), at_shaped gk, at_shaped ok.gl, _, rfl, ?_⟩
    rw [eqv_atD]
    by_cases eg : atPut bd oy.gl = sy.gl
    · rw [decide_eq_true eg]
      have s14 := s13.trans s4
      refine iteF ⟨_, rfl, p, _, _, _, rfl, rfl, .inl (.inl (s4 _ _ hp)), at_of (j := 0) rfl rfl, g0, rfl, ⟨_, .inl (.inl (s4 _ _ hg0))⟩, fun DD hDD => lc_tup (K := K) (a := g0) (xs := xs) (fun i H5 => H5 DD = some (.lst (((oy.hs.take i).map fun a => decide (atPut bd a ∈ sy.hs)).map V.bl)) ∧ Same H4 H5)
        ⟨upd_same, same_new hDD _⟩ (fun i H5 _ ⟨_, s⟩ => .inl (.inl (s _ _ (s4 _ _ hg0)))) ?_ ?_⟩
      · rintro i x H5 hi ⟨h5, s5⟩
        obtain ⟨t, ht, Tx⟩ := A0.get hi
        have t7 := h7 t (List.mem_of_getElem? ht)
        have li : i < xs.length := (List.getElem?_eq_some_iff.mp hi).1
        have tk : oy.hs.take (i + 1) = oy.hs.take i ++ [t] := by rw [List.take_add_one, ht]; rfl
        have s45 := s4.trans s5
        refine ⟨rfl, ?_⟩
        unfold teInL
        refine ⟨_, rfl, _, rfl, x, D, bd, _, rfl, s45 _ _ hD3, DB3.mono (Tups.same s45).1, .inr ⟨t, by decide, atAt_same Tx s45, t7.two, fun u hu => by have := Tm.deep_lt u; have := (t7.sm u hu).2; omega, fun v' H6 T6 s6 => ?_⟩⟩
        have s46 := s45.trans s6
        refine ⟨_, rfl, p', _, _, _, rfl, rfl, .inl (.inl (s46 _ _ hp1)), at_of (j := 0) rfl rfl, atD (atPut bd t), sy.hs.map atD, at_dp T6, .tup (.inl (.inl (s46 _ _ hg1))) (ats_dp (A1.same s46)), at_shaped (atPut_ok fb t7), ats_shapedT ok.hs.ok, ?_⟩
        rw [in_ats]
        refine ⟨_, s6 _ _ h5, by rw [List.length_map, List.length_map, List.length_take]; omega, ?_, fun c o z => by rw [upd_ne (ne_of_none z hDD)]; exact s6 _ _ (s5 _ _ z)⟩
        rw [upd_same, tk, List.map_append, List.map_append]
        rfl
      · rintro H5 ⟨h5, s5⟩
        rw [xl, List.take_length] at h5
        refine ⟨DD, _, rfl, .inl (.inl h5), ?_⟩
        refine q _ H5 ?_ (s14.trans s5)
        rw [List.all_map, List.all_eq_true]
        refine ⟨fun h => ⟨en ▸ up, fun k => by rw [en, mem k, dnn], eg, fun a ha => ?_⟩, fun ⟨_, _, _, h⟩ a ha => ?_⟩
        · simpa using h a ha
        · simpa using h a ha
    · rw [decide_eq_false eg]
      exact iteT (q false H4 ⟨fun h => (by cases h), fun h => absurd h.2.2.1 eg⟩ (s13.trans s4))
  · rw [decide_eq_false en]
    refine iteT ?_
    exact q false H3 ⟨fun h => (by cases h), fun h => absurd (rising_one h.1 up fun k => by rw [h.2.1 k, mem k, dnn]) en⟩ s13
end
end Rp

set_option maxHeartbeats 8000000
/-! A saying's own BINDING; a saying grown out of another. -/
namespace Rp
open PySem PySem.Spec PyProof.Rows L2 TL NdefX LamX StX PpSet
def selfBd (ns : List Int) : Bd := ns.map fun n => (n, Tm.v n)
theorem self_fst (ns : List Int) : (selfBd ns).map (·.1) = ns := by
  unfold selfBd
  rw [List.map_map]
  exact List.map_id' ns
theorem self_look {ns : List Int} {n : Int} {t : Tm} (h : (selfBd ns).lookup n = some t) : t = .v n := by
  obtain ⟨m, _, e⟩ := List.mem_map.mp (look_mem h)
  cases e; rfl
theorem put_self {ns : List Int} : ∀ t : Tm, t.put (selfBd ns) = t
  | .v n => by
    show ((selfBd ns).lookup n).getD (.v n) = .v n
    cases e : (selfBd ns).lookup n with
    | none => rfl
    | some t => exact self_look e
  | .z => rfl
  | .s t => congrArg Tm.s (put_self t)
  | .f l r => by show Tm.f (l.put _) (r.put _) = _; rw [put_self l, put_self r]
theorem atPut_self {ns : List Int} (a : At) : atPut (selfBd ns) a = a := by
  unfold atPut
  have : a.ts.map (Tm.put (selfBd ns)) = a.ts := by
    rw [show Tm.put (selfBd ns) = id from funext put_self, List.map_id]
  rw [this]
theorem self_comes {o : Sy} {ns : List Int} (up : ns.Pairwise (· < ·)) (mem : ∀ k, k ∈ ns ↔ k ∈ syNums o) : Comes o o (selfBd ns) :=
  ⟨by rw [self_fst]; exact up, fun k => by rw [self_fst]; exact mem k, atPut_self _, fun h hh => by rw [atPut_self]; exact hh⟩
def spItself : Sp := fun vs H Q _ => ∃ (v : V) (o : Sy), vs = [v] ∧ SyAt H v o ∧ SyOk o ∧ (∀ a ∈ o.hs, AtOk 7 a) ∧ AtOk 7 o.gl ∧
  ∀ (a : Addr) (bd : Bd) (H' : Hp), BdAt H' a bd → BdF bd → Comes o o bd → Same H H' → Q (.ref a) H'
def spGrown : Sp := fun vs H Q _ => ∃ (b : Addr) (vo : V) (a d p : Addr) (ws : List Str) (kvs : KVs) (j : Nat) (o : Sy) (bd : Bd), vs = [.ref b, vo, .ref a, .ref d, .ref p] ∧ BoxAt H b j ∧ SyAt H vo o ∧ SyOk o ∧ (∀ a ∈ o.hs, AtOk 7 a) ∧ AtOk 7 o.gl ∧ o.hs.length ≤ 4 ∧ BdAt H a bd ∧ BdF bd ∧
  Wsh H b d p ws kvs ∧ (∀ x ∈ ws, NameOk x) ∧ j + 100 ≤ 1000000 ∧ ∀ (v : V) (s : Sy) (H' : Hp), SyAt H' v s → SyOk s → BoxAt H' b (j + 100) → But b H H' → Q v H'
abbrev NIt : List Str := ["_law_saying_here", "_law_one"]
abbrev NGr : List Str := ["_law_box_here", "_law_other", "_law_binding", "_law_shapes_here", "_law_words", "_law_puts", "_law_way", "_law_hyps", "_law_goal", "_law_turn", "_law_hyp"]
theorem AtsAt.rev {H : Hp} : ∀ {xs : List V} {as : List At}, AtsAt H xs as → AtsAt H xs.reverse as.reverse
  | [], [], _ => trivial
  | x :: xs, a :: as, h => by
    rw [List.reverse_cons, List.reverse_cons]
    exact (AtsAt.rev h.2).append ⟨h.1, trivial⟩
theorem AtsAt.drop {H : Hp} : ∀ {xs : List V} {as : List At} (n : Nat), AtsAt H xs as → AtsAt H (xs.drop n) (as.drop n)
  | _, _, 0, h => h
  | [], [], n + 1, _ => trivial
  | _ :: _, _ :: _, n + 1, h => AtsAt.drop n h.2
def teHyp : TE := tCall (spLPutD 9) [] E0 (tCons (tVar 10) (tCons (tVar 5) tNil))
def teGr (K : PySem.W.Frag) : TE := tTup (tCons (tSl (rSlA K) (tCall spUnlikeL [] E0 (tCons (tIf (tTest (tOp rEq (tVar 6) (tC (.int 2)))) (tRevL K (tVar 7)) (tVar 7)) tNil)) tNoPart (tPart (tC (.int 6)))) (tCons (tVar 8) tNil))
theorem gr_ok {K : PySem.W.Frag} {H : Hp} {x0 x1 x2 x3 x4 x5 x9 x10 : Option V} {wy : Int} {D : Addr} {gv : V} {ys : List V} {as : List At} {g : At} {Q : VK} (hD : H D = some (.lst ys)) (A : AtsAt H ys as) (few : as.length ≤ 6) (ok : ∀ a ∈ as, AtOk 50 a) (G : AtAt H gv g) (gk : AtOk 50 g)
    (q : ∀ (v : V) (s : Sy) (H' : Hp), SyAt H' v s → SyOk s → Same H H' → Q v H') : teGr K [x0, x1, x2, x3, x4, x5, some (.int wy), some (.ref D), some gv, x9, x10] H Q := by
  have xl := A.len
  have big : (10000 : Nat) ≤ sizeLine := by decide
  have rest : ∀ (E : Addr) (zs : List V) (bs : List At) (H1 : Hp), H1 E = some (.lst zs) → AtsAt H1 zs bs → bs.length ≤ 6 → (∀ a ∈ bs, AtOk 50 a) → Same H H1 →
      spUnlikeL [.ref E] H1 (fun x H2 => tNoPart [x0, x1, x2, x3, x4, x5, some (.int wy), some (.ref D), some gv, x9, x10] H2 fun lo H3 => tPart (tC (.int 6)) [x0, x1, x2, x3, x4, x5, some (.int wy), some (.ref D), some gv, x9, x10] H3 fun hi H4 => rSlA K x lo hi H4 fun y H5 => tCons (tVar 8) tNil [x0, x1, x2, x3, x4, x5, some (.int wy), some (.ref D), some gv, x9, x10] H5 fun ws H6 => (y :: ws).length ≤ sizeLine ∧ ∀ p, H6 p = none → Q (.ref p) (upd H6 p (.tup (y :: ws)))) E0 := by
    intro E zs bs H1 hE A1 f1 o1 s1
    refine ⟨E, zs, bs, rfl, hE, A1, AtsOk.mk f1 o1, fun p us H2 hp A2 s2 => ⟨6, rfl, slP_ok hp fun p2 H3 hp2 s3 => ?_⟩⟩
    have e6 : cutV us none (some (6 : Int)) = us.take 6 := cut_to 6
    rw [e6] at hp2
    refine ⟨_, rfl, (by show 2 ≤ sizeLine; decide), fun c hc => ?_⟩
    have s4 := same_new hc (.tup [V.ref p2, gv])
    have s14 := s1.trans (s2.trans (s3.trans s4))
    exact q _ ⟨(unl bs).take 6, g⟩ _ ⟨c, p2, gv, us.take 6, rfl, upd_same, s4 _ _ hp2, AtsAt.take 6 (A2.same (s3.trans s4)), atAt_same G s14⟩ ⟨AtsOk.mk (by rw [List.length_take]; omega) (fun a ha => o1 a (mem_unl (List.mem_of_mem_take ha))), List.Sublist.nodup (List.take_sublist _ _) (unl_nd bs), gk⟩ s14
  unfold teGr
  refine ⟨_, rfl, rfl, decide (V.int wy = V.int 2), rfl, ?_⟩
  by_cases e : V.int wy = V.int 2
  · rw [decide_eq_true e]
    refine iteT ⟨_, rfl, D, ys, rfl, .inl (.inl hD), fun E hE => ?_⟩
    have s1 := same_new hE (.lst ys.reverse)
    exact rest E _ as.reverse _ upd_same ((A.same s1).rev) (by rw [List.length_reverse]; exact few) (fun a ha => ok a (List.mem_reverse.mp ha)) s1
  · rw [decide_eq_false e]
    exact iteF ⟨_, rfl, rest D ys as H hD A few ok (Same.refl H)⟩
section
variable {P : Program} {w : World} {K : PySem.W.Frag} {mg : Str → Option Value} {base : Heap}
theorem scIt : FnScope NIt ["_law_saying_here"] (defScope sItself) := ⟨rfl, rfl, rfl, by decide +kernel, rfl, by decide +kernel, by decide +kernel⟩
theorem scGr : FnScope NGr ["_law_box_here", "_law_other", "_law_binding", "_law_shapes_here", "_law_words"] (defScope sGrown) := ⟨rfl, rfl, rfl, by decide +kernel, rfl, by decide +kernel, by decide +kernel⟩
theorem ok_itself {f fS : Addr} {fd dS : FuncData} (F : Fun K "_law_itself" "_law_itself" sItself f fd)
    (GS : FnOk P w K mg base CX0 12 fS dS ["_law_thing"] (spSpots 12)) (kS : PySem.W.keepIn K (.ref fS) = true) (bS : Binds K dS ["_law_thing"] []) (mS : mg "_law_spots" = some (.ref fS))
    (mTuple : mg "tuple" = none) : FnOk P w K mg base CX0 13 f fd ["_law_saying_here"] spItself := by
  refine F.ok scIt (fun vs H Q E h => ?_) (fun cdv A outer s H vs Q E hr h => ?_)
  · obtain ⟨v, o, rfl, _⟩ := h
    rfl
  obtain ⟨vo, oy, rfl, O0, oko, h7, g7, q⟩ := h
  have r12 : Room 12 _ := hr.mono (by decide)
  refine ⟨_, (pss_one (ps_ret (pe_callTy cr_tupF (by rfl) mTuple (by decide +kernel) (pa_cons (pe_lc (own := [("_law_one", 1)]) (g := gName 1) (tt := tYes) (te := (tTup (tCons (tVar 1) (tCons (tVar 1) tNil)))) rfl scIt.nd (pi_list (pe_call GS r12 (by rfl) mS kS bS .nil pass0 (pa_cons (pv 0) pa_nil))) (blkOk_by (N := NIt) (sc := defScope sItself) (by decide +kernel)) (fun _ _ _ _ _ => (pg_name (i := 1) scIt.nd rfl (Or.inl rfl))) (fun _ _ _ _ _ => pts_nil) (fun _ _ _ _ _ => (pe_tup (pa_cons (pv 1) (pa_cons (pv 1) pa_nil))))) pa_nil)))), ?_⟩
  have big : (10000 : Nat) ≤ sizeLine := by decide
  obtain ⟨fq, ndS, _⟩ := fq_sy oko h7 g7
  have dpS := fq.dp
  obtain ⟨okn, dnn⟩ := dNums_sy oy
  have dl5 := syNums_few oko h7 g7
  refine ⟨_, rfl, (0 : Nat), _, syD oy, rfl, O0.dat, okn, by omega, by rw [dnn]; omega, by omega, fun g ns H1 hg0 hg up mem s1 => ?_⟩
  rw [dnn] at mem
  have nl := rising_few up fun k hk => (mem k).1 hk
  have nnd : ns.Nodup := up.imp fun {a b} h => by omega
  refine ⟨g, rfl, ⟨_, .inl (.inl hg)⟩, fun D hD => lc_list (K := K) (a := g) (xs := ns.map V.int) (fun i H2 => ∃ ps : List Addr, H2 D = some (.lst (ps.map V.ref)) ∧ Paired (PrAt H2) ps (selfBd (ns.take i)) ∧ Same H1 H2)
    ⟨[], upd_same, .nil, same_new hD _⟩ (fun i H2 _ ⟨_, _, _, s⟩ => .inl (.inl (s _ _ hg))) ?_ ?_⟩
  · rintro i y H2 hi ⟨ps, h2, P2, s2⟩
    obtain ⟨k, hk, rfl⟩ : ∃ k, ns[i]? = some k ∧ y = .int k := by
      rw [List.getElem?_map] at hi
      cases hq : ns[i]? with
      | none => rw [hq] at hi; cases hi
      | some k => rw [hq] at hi; exact ⟨k, rfl, by simpa using hi.symm⟩
    have li : i < ns.length := (List.getElem?_eq_some_iff.mp hk).1
    have tk : ns.take (i + 1) = ns.take i ++ [k] := by rw [List.take_add_one, hk]; rfl
    have pl := paired_len P2
    unfold selfBd at pl
    rw [List.length_map, List.length_take] at pl
    refine ⟨rfl, ?_⟩
    refine ⟨_, rfl, _, rfl, (by show 2 ≤ sizeLine; decide), fun c hc => ?_⟩
    have s3 := same_new hc (.tup [V.int k, V.int k])
    have h3 := s3 _ _ h2
    have cD : c ≠ D := (ne_of_none h2 hc).symm
    refine ⟨ps.map V.ref, h3, by rw [List.length_map]; omega, ps ++ [c], by rw [upd_same, List.map_append]; rfl, ?_, fun b o z => by rw [upd_ne (ne_of_none z hD)]; exact s3 _ _ (s2 _ _ z)⟩
    have u : Tups H2 (upd (upd H2 c (.tup [V.int k, V.int k])) D (.lst (ps.map V.ref ++ [.ref c]))) := (Tups.same s3).trans (Tups.but (but_upd _) h3)
    have es : selfBd (ns.take i ++ [k]) = selfBd (ns.take i) ++ [(k, Tm.v k)] := by unfold selfBd; rw [List.map_append]; rfl
    rw [tk, es]
    exact Paired.snoc2 (L2.Paired.mapP P2 fun _ _ z => z.mono u.1) ⟨_, by rw [upd_ne cD, upd_same], .v k⟩
  · rintro H2 ⟨ps, h2, P2, s2⟩
    rw [List.length_map, List.take_length] at P2
    refine ⟨D, ps.map V.ref, rfl, .inl (.inl h2), fun l ob od hl => ?_⟩
    have s3 := same_new hl (.frz ob (.tup (ps.map V.ref)))
    refine q l (selfBd ns) _ ⟨ps, ⟨ob, od, upd_same⟩, L2.Paired.mapP P2 fun _ _ z => z.mono (Tups.same s3).1, by rw [self_fst]; exact nnd, by unfold selfBd; rw [List.length_map]; omega⟩ ⟨fun p hp => ?_⟩ (self_comes up mem) (s1.trans (s2.trans s3))
    obtain ⟨n, hn, rfl⟩ := List.mem_map.mp hp
    refine ⟨fun k hk => ?_, by show 1 ≤ 8; decide⟩
    obtain rfl : k = n := by simpa [Tm.nums] using hk
    obtain ⟨a, ha, hk2⟩ := List.mem_flatMap.mp ((mem k).1 hn)
    obtain ⟨t, ht, hk3⟩ := List.mem_flatMap.mp hk2
    rcases List.mem_append.mp ha with ha | ha
    · exact ((h7 a ha).sm t ht).1 k hk3
    · obtain rfl : a = oy.gl := by simpa using ha
      exact (g7.sm t ht).1 k hk3
theorem ok_grown {f fT fL fA fU : Addr} {fd dT dL dA dU : FuncData} (F : Fun K "_law_grown" "_law_grown" sGrown f fd)
    (GT : FnOk P w K mg base CX0 1 fT dT ["_law_box_here", "_law_reach"] spTake) (kT : PySem.W.keepIn K (.ref fT) = true) (bT : Binds K dT ["_law_box_here", "_law_reach"] []) (mT : mg "_law_take" = some (.ref fT))
    (GL : FnOk P w K mg base CX0 9 fL dL ["_law_thing", "_law_puts"] (spLPutD 9)) (kL : PySem.W.keepIn K (.ref fL) = true) (bL : Binds K dL ["_law_thing", "_law_puts"] []) (mL : mg "_law_put" = some (.ref fL))
    (GA : FnOk P w K mg base CX0 6 fA dA ["_law_box_here", "_law_shapes_here", "_law_names_here", "_law_pool", "_law_deep"] spAtomL) (kA : PySem.W.keepIn K (.ref fA) = true) (bA : Binds K dA ["_law_box_here", "_law_shapes_here", "_law_names_here", "_law_pool", "_law_deep"] []) (mA : mg "_law_atom" = some (.ref fA))
    (GU : FnOk P w K mg base CX0 1 fU dU ["_law_atoms"] spUnlikeL) (kU : PySem.W.keepIn K (.ref fU) = true) (bU : Binds K dU ["_law_atoms"] []) (mU : mg "_law_unlike" = some (.ref fU))
    (mDict : mg "dict" = none) (mRange : mg "range" = none) (mLen : mg "len" = none) : FnOk P w K mg base CX0 10 f fd ["_law_box_here", "_law_other", "_law_binding", "_law_shapes_here", "_law_words"] spGrown := by
  refine F.ok scGr (fun vs H Q E h => ?_) (fun cdv A outer s H vs Q E hr h => ?_)
  · obtain ⟨b, vo, a, d, p, ws, kvs, j, o, bd, rfl, _⟩ := h
    rfl
  obtain ⟨b, vo, ab, d, p, ws, kws, j, oy, bd, rfl, B, O0, oko, h7, g7, o4, Bd0, fb, W, wn, hj, q⟩ := h
  have r1 : Room 1 _ := hr.mono (by decide)
  have r6 : Room 6 _ := hr.mono (by decide)
  have r9 : Room 9 _ := hr.mono (by decide)
  refine ⟨_, (pss_cons (ps_asg (pe_tup (pa_cons (pe_callTy (cr_dictT rfl) (by rfl) mDict (by decide +kernel) (pa_cons (pv 2) pa_nil)) (pa_cons (pe_call GT r1 rfl mT kT bT .nil pass0 (pa_cons (pv 0) (pa_cons pe_int pa_nil))) pa_nil))) (pg_tup (by rfl) (pgs_cons (pg_name (i := 5) scGr.nd rfl (Or.inr rfl)) (pgs_cons (pg_name (i := 6) scGr.nd rfl (Or.inl rfl)) pgs_nil))))
    (pss_cons (ps_par (i := 7) (j := 8) rfl scGr.nd rfl rfl (by decide) rfl rfl (pa_cons (pe_lc (own := [("_law_hyp", 10)]) (g := gName 10) (tt := tYes) (te := teHyp) rfl scGr.nd (pi_tup (pe_ix ix_tup (pv 1) pe_int (fun _ _ => rfl))) (blkOk_by (N := NGr) (sc := defScope sGrown) (by decide +kernel)) (fun _ _ _ _ _ => (pg_name (i := 10) scGr.nd rfl (Or.inl rfl))) (fun _ _ _ _ _ => pts_nil) (fun _ _ _ _ _ => (pe_call GL r9 (by rfl) mL kL bL .nil pass0 (pa_cons (pv 10) (pa_cons (pv 5) pa_nil))))) (pa_cons (pe_call GL r9 rfl mL kL bL .nil pass0 (pa_cons (pe_ix ix_tup (pv 1) pe_int (fun _ _ => rfl)) (pa_cons (pv 5) pa_nil))) pa_nil)) (by rfl))
    (pss_cons (ps_for PassesOwn.never rfl (pi_range1 (by rfl) mRange (pa_cons (pe_call GT r1 rfl mT kT bT .nil pass0 (pa_cons (pv 0) (pa_cons pe_int pa_nil))) pa_nil)) (pg_name (i := 9) scGr.nd rfl (Or.inl rfl)) (pss_one (ps_expr (pe_bm PySem.F.plainAttrs_list PySem.F.slot_list_insert PySem.F.type_list_insert mt_insert (pv 7) (pa_cons (pe_call GT r1 rfl mT kT bT .nil pass0 (pa_cons (pv 0) (pa_cons (pe_op op_addI (pe_callB call_len_seq (by rfl) mLen PySem.boot_len (pa_cons (pv 7) pa_nil)) pe_int) pa_nil))) (pa_cons (pe_call GA r6 rfl mA kA bA .nil pass0 (pa_cons (pv 0) (pa_cons (pv 3) (pa_cons (pv 4) (pa_cons (pe_lst (pa_cons pe_int (pa_cons pe_int pa_nil))) (pa_cons pe_int pa_nil)))))) pa_nil))))))
    (pss_cons (ps_if (pt_cmpR op_eq (pv 6) pe_int (nomark _)) (pss_one (ps_set (i := 7) scGr.nd rfl (Or.inl rfl) (pe_slice sl_list (pv 7) (po_some pe_int) po_none))) pss_nil)
    (pss_cons (ps_if (pt_cmpR op_eq (pv 6) pe_int (nomark _)) (pss_one (ps_set (i := 8) scGr.nd rfl (Or.inl rfl) (pe_call GA r6 rfl mA kA bA .nil pass0 (pa_cons (pv 0) (pa_cons (pv 3) (pa_cons (pv 4) (pa_cons (pe_lst (pa_cons pe_int (pa_cons pe_int pa_nil))) (pa_cons pe_int pa_nil)))))))) pss_nil)
    (pss_one (ps_ret (pe_tup (pa_cons (pe_slice sl_tupA (pe_call GU r1 rfl mU kU bU .nil pass0 (pa_cons (pe_ifExp (pt_cmpR op_eq (pv 6) pe_int (nomark _)) (pe_revL (pv 7)) (pv 7)) pa_nil)) po_none (po_some pe_int)) (pa_cons (pv 8) pa_nil)))))))))), ?_⟩
  have big : (10000 : Nat) ≤ sizeLine := by decide
  obtain ⟨ps, hpl, pr, nd, bz⟩ := id Bd0
  obtain ⟨kvs, k1, k2⟩ := pairs_of (K := K) pr
  refine ⟨_, rfl, ab, ps, kvs, rfl, hpl, k1, fun E hE => ?_⟩
  have s1 := same_new hE (.dK (mergeK [] kvs))
  have hE1 : (upd H E (.dK (mergeK [] kvs))) E = some (.dK (mergeK [] kvs)) := upd_same
  have DB := (dict_of k2 nd).mono (Tups.same s1).1
  have B1 := B.same s1
  have O1 := O0.same s1
  have Eb : E ≠ b := ne_box B hE
  have o1 : But b H (upd H E (.dK (mergeK [] kvs))) := but_of s1
  have W1 := W.but B o1
  generalize upd H E (.dK (mergeK [] kvs)) = H1 at s1 hE1 DB B1 O1 o1 W1 ⊢
  refine ⟨_, rfl, b, _, _, rfl, B1, by omega, by decide, by decide, fun wy H2 w0 w1 B2 o2 => ?_⟩
  have u12 : Tups H1 H2 := Tups.but o2 B1.some.choose_spec
  have hE2 := o2 _ _ hE1 Eb
  have DB2 := DB.mono u12.1
  have O2 := SyAt.tups u12 O1
  have W2 := W1.but B1 o2
  have o12 := o1.trans o2
  refine ⟨(by show 2 ≤ sizeLine; decide), fun c2 hc2 => ?_⟩
  have s3 := same_new hc2 (.tup [V.ref E, V.int wy])
  refine ⟨c2, _, rfl, .inl (.inl upd_same), rfl, _, _, rfl, _, _, rfl, rfl, ?_⟩
  have hE3 := s3 _ _ hE2
  have DB3 := DB2.mono (Tups.same s3).1
  have B3 := B2.same s3
  have W3 := W2.but B2 (but_of s3)
  have o13 := o12.trans (but_of s3)
  obtain ⟨po, g0, vg, xs, rfl, hp, hg0, A0, G0⟩ := O2.same s3
  generalize upd H2 c2 (.tup [V.ref E, V.int wy]) = H3 at s3 hE3 DB3 B3 W3 o13 hp hg0 A0 G0 ⊢
  have xl := A0.len
  refine ⟨_, rfl, po, _, _, _, rfl, rfl, .inl (.inl hp), at_of (j := 0) rfl rfl, g0, rfl, ⟨_, .inl (.inl hg0)⟩, fun D hD => lc_tup (K := K) (a := g0) (xs := xs) (fun i H4 => ∃ ys : List V, H4 D = some (.lst ys) ∧ AtsAt H4 ys ((oy.hs.take i).map (atPut bd)) ∧ ys.length = i ∧ Same H3 H4)
    ⟨[], upd_same, trivial, rfl, same_new hD _⟩ (fun i H4 _ ⟨_, _, _, _, s⟩ => .inl (.inl (s _ _ hg0))) ?_ ?_⟩
  · rintro i x H4 hi ⟨ys, h4, A4, yl, s4⟩
    obtain ⟨t, ht, T⟩ := A0.get hi
    have li : i < xs.length := (List.getElem?_eq_some_iff.mp hi).1
    have t7 := h7 t (List.mem_of_getElem? ht)
    refine ⟨rfl, ?_⟩
    unfold teHyp
    refine ⟨_, rfl, _, rfl, x, E, bd, _, rfl, s4 _ _ hE3, DB3.mono (Tups.same s4).1, .inr ⟨t, by decide, atAt_same T s4, t7.two, fun u hu => by have := Tm.deep_lt u; have := (t7.sm u hu).2; omega, fun v' H5 T5 s5 => ?_⟩⟩
    have h5 := s5 _ _ h4
    have u6 : Tups H5 (upd H5 D (.lst (ys ++ [v']))) := Tups.but (but_upd _) h5
    have tk : oy.hs.take (i + 1) = oy.hs.take i ++ [t] := by rw [List.take_add_one, ht]; rfl
    refine ⟨ys, h5, by omega, ys ++ [v'], upd_same, ?_, by rw [List.length_append, yl]; rfl, fun c o z => by rw [upd_ne (ne_of_none z hD)]; exact s5 _ _ (s4 _ _ z)⟩
    rw [tk, List.map_append]
    exact AtsAt.append (AtsAt.tups u6 (A4.same s5)) ⟨AtAt.tups u6 T5, trivial⟩
  rintro H4 ⟨ys, h4, A4, yl, s4⟩
  rw [xl, List.take_length] at A4
  have Db : D ≠ b := ne_box B3 hD
  refine ⟨_, rfl, po, _, _, _, rfl, rfl, .inl (.inl (s4 _ _ hp)), at_of (j := 1) rfl rfl, _, rfl, vg, E, bd, _, rfl, s4 _ _ hE3, DB3.mono (Tups.same s4).1, .inr ⟨oy.gl, by decide, atAt_same G0 s4, g7.two, fun u hu => by have := Tm.deep_lt u; have := (g7.sm u hu).2; omega, fun vg' H5 T5 s5 => ?_⟩⟩
  have h5 := s5 _ _ h4
  have A5 := A4.same s5
  have B5 := (B3.same s4).same s5
  have W5 := (W3.but B3 (but_of s4)).but (B3.same s4) (but_of s5)
  have o35 : But b H3 H5 := but_of (s4.trans s5)
  have o15 := o13.trans o35
  have ok5 : ∀ a ∈ oy.hs.map (atPut bd), AtOk 50 a := fun a ha => by
    obtain ⟨c, hc, rfl⟩ := List.mem_map.mp ha
    exact atPut_ok fb (h7 c hc)
  have gk5 := atPut_ok fb g7
  have al5 : (oy.hs.map (atPut bd)).length ≤ 4 := by rw [List.length_map]; exact o4
  have hD1 : H D = none := but_none (o13) B3 hD
  generalize oy.hs.map (atPut bd) = as5 at A5 ok5 al5
  generalize atPut bd oy.gl = gl5 at T5 gk5
  clear hp hg0 A0 G0 hE3 DB3 hE2 DB2 O2 u12 O1 DB hE1 A4 h4 yl s4 s5
  refine ⟨_, _, rfl, ?_⟩
  refine ⟨_, rfl, b, _, _, rfl, B5, by omega, by decide, by decide, fun c H6 c0 c1 B6 o6 => ?_⟩
  obtain ⟨n, rfl⟩ := Int.eq_ofNat_of_zero_le c0
  have h6 := o6 _ _ h5 Db
  have A6 := A5.mono (keepB B5 o6)
  have T6 := atAt_mono (keepB B5 o6) T5
  have W6 := W5.but B5 o6
  have o16 := o15.trans o6
  refine ⟨_, rfl, by omega, by omega, for_range (lo := 0) (n := ((n : Nat) : Int).toNat) (fun i σ H7 => ∃ (x9 x10 : Option V) (ys : List V) (as : List At), σ = [some (.ref b), some (.ref po), some (.ref ab), some (.ref d), some (.ref p), some (.ref E), some (.int wy), some (.ref D), some vg', x9, x10] ∧
      H7 D = some (.lst ys) ∧ AtsAt H7 ys as ∧ as.length ≤ 4 + i ∧ (∀ a ∈ as, AtOk 50 a) ∧ AtAt H7 vg' gl5 ∧ BoxAt H7 b (j + 2 + 32 * i) ∧ But b H H7)
    ⟨_, _, _, _, rfl, h6, A6, al5, ok5, T6, B6, o16⟩ ?_ ?_⟩
  · rintro i σ H7 hi ⟨x9, x10, ys, as, rfl, h7', A7, al, ok7, T7, B7, o7⟩
    have xl7 := A7.len
    have W7 := W.but B o7
    refine ⟨_, rfl, .inl ⟨rfl, _, .inl (.inl h7')⟩, ?_⟩
    refine ⟨_, rfl, _, rfl, D, _, rfl, .inl (.inl (.inl h7')), _, _, rfl, rfl, b, _, _, rfl, B7, by omega, by omega, by omega, fun z H8 z0 z1 B8 o8 => ?_⟩
    have h8 := o8 _ _ h7' Db
    have W8 := W7.but B7 o8
    refine ⟨_, rfl, _, rfl, _, rfl, (by show 2 ≤ sizeLine; decide), fun g hg => ?_⟩
    have s9 := same_new hg (.lst [V.int 0, V.int 5])
    have B9 := B8.same s9
    have W9 := W8.but B8 (but_of s9)
    refine ⟨b, d, p, g, ws, [0, 5], kws, _, 1, rfl, B9, ⟨W9.hd, W9.sh, W9.hp, upd_same, by decide, by decide, W9.pb, ne_box B8 hg, wn, W9.one, W9.four⟩, by decide, by omega, fun v a H10 A10 ok10 B10 o10 => ?_⟩
    have h10 := o10 _ _ (s9 _ _ h8) Db
    have k710 : ∀ q zs, H7 q = some (.tup zs) → H10 q = some (.tup zs) := fun q zs y => keepB B9 o10 _ _ (s9 _ _ (keepB B7 o8 _ _ y))
    refine ⟨D, ys, z, v, rfl, rfl, h10, by omega, z0, by omega, ?_⟩
    refine ⟨_, _, _, as.take z.toNat ++ [a] ++ as.drop z.toNat, rfl, upd_same, ?_, ?_, fun e he => ?_, atAt_mono (keepU h10) (atAt_mono k710 T7), (B10.upd Db _).more (by omega), but_new hD1 (o7.trans (o8.trans ((but_of s9).trans o10))) fun x u hx nb => hx⟩
    · have A10' := A7.mono k710
      exact AtsAt.mono (keepU h10) ((AtsAt.append (as := as.take z.toNat) (bs := [a]) (ys := [v]) (AtsAt.take z.toNat A10') ⟨A10, trivial⟩).append (AtsAt.drop z.toNat A10'))
    · rw [List.length_append, List.length_append, List.length_take, List.length_drop, List.length_singleton]; omega
    · rcases List.mem_append.mp he with he | he
      · rcases List.mem_append.mp he with he | he
        · exact ok7 e (List.mem_of_mem_take he)
        · rw [show e = a by simpa using he]; exact ok10.more (by decide)
      · exact ok7 e (List.mem_of_mem_drop he)
  rintro σ H7 ⟨x9, x10, ys, as, rfl, h7', A7, al, ok7, T7, B7, o7⟩
  have n2 : n ≤ 2 := by omega
  have al6 : as.length ≤ 6 := by
    have e : ((n : Nat) : Int).toNat = n := rfl
    rw [e] at al; omega
  have B7' : BoxAt H7 b (j + 66) := B7.more (by
    have e : ((n : Nat) : Int).toNat = n := rfl
    rw [e]; omega)
  refine ⟨_, rfl, rfl, decide (V.int wy = V.int 0), rfl, ?_⟩
  by_cases e0 : V.int wy = V.int 0
  · obtain rfl : wy = 0 := by simpa using e0
    rw [decide_eq_true e0]
    refine iteT ⟨_, rfl, 1, rfl, D, _, rfl, .inl (.inl h7'), fun l hl => ?_⟩
    have s8 := same_new hl (.lst (cutV ys (some (1 : Int)) none))
    have hl8 : (upd H7 l (.lst (cutV ys (some (1 : Int)) none))) l = some (.lst (ys.drop 1)) := by rw [upd_same]; exact congrArg (fun z => some (HO.lst z)) (cut_from (i := 1) rfl)
    generalize upd H7 l (.lst (cutV ys (some (1 : Int)) none)) = H8 at s8 hl8 ⊢
    refine ⟨_, rfl, rfl, false, rfl, iteF ?_⟩
    refine gr_ok (wy := 0) hl8 (AtsAt.drop 1 (A7.same s8)) (by rw [List.length_drop]; omega) (fun a ha => ok7 a (List.mem_of_mem_drop ha)) (atAt_same T7 s8) gk5 fun v s H9 S9 so s9 => ?_
    exact q v s H9 S9 so (((B7'.same s8).same s9).more (by omega)) (o7.trans (but_of (s8.trans s9)))
  · rw [decide_eq_false e0]
    refine iteF ⟨_, rfl, rfl, decide (V.int wy = V.int 1), rfl, ?_⟩
    by_cases e1 : V.int wy = V.int 1
    · rw [decide_eq_true e1]
      have W7 := W.but B o7
      refine iteT ⟨_, rfl, _, rfl, _, rfl, (by show 2 ≤ sizeLine; decide), fun g hg => ?_⟩
      have s9 := same_new hg (.lst [V.int 0, V.int 5])
      have B9 := B7'.same s9
      have W9 := W7.but B7' (but_of s9)
      refine ⟨b, d, p, g, ws, [0, 5], kws, _, 1, rfl, B9, ⟨W9.hd, W9.sh, W9.hp, upd_same, by decide, by decide, W9.pb, ne_box B7' hg, wn, W9.one, W9.four⟩, by decide, by omega, fun v a H10 A10 ok10 B10 o10 => ?_⟩
      have h10 := o10 _ _ (s9 _ _ h7') Db
      have k710 : ∀ q zs, H7 q = some (.tup zs) → H10 q = some (.tup zs) := fun q zs y => keepB B9 o10 _ _ (s9 _ _ y)
      refine gr_ok (wy := wy) h10 (A7.mono k710) al6 ok7 A10 (ok10.more (by decide)) fun v' s H11 S11 so s11 => ?_
      exact q v' s H11 S11 so ((B10.same s11).more (by omega)) (o7.trans ((but_of s9).trans (o10.trans (but_of s11))))
    · rw [decide_eq_false e1]
      refine iteF ?_
      refine gr_ok (wy := wy) h7' A7 al6 ok7 T7 gk5 fun v s H9 S9 so s9 => ?_
      exact q v s H9 S9 so ((B7'.same s9).more (by omega)) (o7.trans (but_of s9))
end
end Rp

/-! sorted(d) of a dict whose keys are ints. -/
namespace Rp
open PySem PySem.Spec PyProof.Rows L2
theorem int_keys_at : ∀ {us : List Value} {ks : List Int}, us.length = ks.length → (∀ (j : Nat) (v : Value), us[j]? = some v → ∃ (x : Int) (t : Tok), ks[j]? = some x ∧ v = Value.int x t) → IntsAre us ks
  | [], [], _, _ => .nil
  | u :: us, k :: ks, hl, h => by
    obtain ⟨x, t, e1, rfl⟩ := h 0 u rfl
    obtain rfl : k = x := Option.some.inj e1
    refine .cons _ t (int_keys_at (by simpa using hl) fun j v e => ?_)
    obtain ⟨num, tok, at1, is1⟩ := h (j + 1) v (by simpa using e)
    exact ⟨num, tok, by simpa using at1, is1⟩
  | [], _ :: _, long, _ => by simp at long
  | _ :: _, [], long, _ => by simp at long
section
variable {X : Cx}
theorem cr_sortedDI (calm : X.calm = true) : CallR X (.builtin "sorted") (fun xs H Q => ∃ (a : Addr) (kvs : List (Key × V)) (ks : List Int), xs = [.ref a] ∧ Rd H a (.dK kvs) ∧ kvs.map (·.1) = ks.map Sum.inl ∧ ks.length < 64 ∧
    ∀ (ns : List Int) (p : Addr), ns.Perm ks → ns.Pairwise (· ≤ ·) → H p = none → Q (.ref p) (upd H p (.lst (ns.map V.int)))) := by
  intro pins s σ H xs us Q I r told
  obtain ⟨a, kvs, ks, rfl, hd, keysAre, few, go⟩ := told
  obtain ⟨u, rfl, rx⟩ := vals1 r
  cases rx
  obtain ⟨z, lo, vs, rel, dd⟩ := dk_rd I.hok hd
  obtain ⟨ep, at_⟩ := dd.dictAt
  have keyList : vs.map (·.1) = ks.map Sum.inl := rel.keys.symm.trans keysAre
  have long : vs.length = ks.length := by have e := congrArg List.length keyList; rw [List.length_map, List.length_map] at e; exact e
  have room : vs.length ≤ sizeLine := by rw [long, sizeLine_eq]; omega
  refine Calls.call_function_entry PyProof.Rows.kind_sorted PyProof.Rows.plain_sorted PyProof.Rows.entry_sorted (PyProof.Rows.args_sorted1 _) ?_; unfold Builtin.«sorted»
  refine wpAny_bind (m := checkCount "sorted" 1 1 _) (wpAny_pure (wpAny_bind (PySem.W.kdu_collect (A := X.A.in1) (PySem.W.kdl_dict (knd := mixKind X.prog X.w) (kvs := vs) (ep := ep) lo) (I.ok.hd calm) at_ room fun h' tk acc old got => ?_)))
  have many : acc.toList.length = ks.length := by rw [Array.length_toList, got.1, long]
  have numsAre : IntsAre acc.toList ks := int_keys_at many fun j v e => by
    obtain ⟨k, x, e1, e2⟩ := got.2 j v (by rw [← Array.getElem?_toList]; exact e)
    have keyAt : (vs.map (·.1))[j]? = some k := by rw [List.getElem?_map, e1]; rfl
    rw [keyList, List.getElem?_map] at keyAt
    cases look : ks[j]? with
    | none => rw [look] at keyAt; cases keyAt
    | some y =>
      rw [look] at keyAt
      obtain rfl : Sum.inl y = k := Option.some.inj keyAt
      rcases keyIs_shape (show keyIs (Sum.inl y) v = true from e2) with ⟨i, t, ek, ev⟩ | ⟨z, t, ek, ev⟩
      · cases ek; exact ⟨y, t, rfl, ev⟩
      · cases ek
  have J : Inv X pins σ H { s with heap := h', toks := tk } := I.kept old
  refine wpAny_bind (wpAny_newList ?_ (by rw [many, sizeLine_eq]; omega))
  have made : (h'.push (seqObj "list" acc.toList.toArray 0)).get? h'.objs.size = some (seqObj "list" acc.toList.toArray 0) := Heap.get?_push_size _ rfl
  show wpAny _ _ _ _ _ { s with heap := h'.push (seqObj "list" acc.toList.toArray 0), toks := tk }
  refine wpAny_bind (wpAny_holding (wpAny_call_entry PyProof.Rows.slot_list_sort ⟨_, made, rfl⟩ PyProof.Rows.entry_list_sort
    (SrtO.list_sort_ord (s := { s with heap := h'.push (seqObj "list" acc.toList.toArray 0), toks := tk }) SrtO.swo_int made (by rw [many, sizeLine_eq]; omega) (fun h2 => SrtO.ints_sortable numsAre h2) fun out o1 o2 => ⟨_, rfl, ?_⟩) (PyProof.Rows.args_list_sort _)))
  obtain ⟨k1, k2, k3⟩ := SrtO.ints_out numsAre o1 o2
  obtain ⟨ep', he'⟩ := PyProof.Rows.sortedHeap_at (vs := acc.toList) (out := out.toArray) made
  have fits : ((out.map SrtO.iv).map V.int).length ≤ sizeLine := by rw [List.length_map, k2.length_eq]; exact Nat.le_trans (Nat.le_of_lt few) (by decide)
  refine wpAny_pure ⟨_, rfl, .ref h'.objs.size, upd H h'.objs.size (.lst ((out.map SrtO.iv).map V.int)), J.laid (t' := tk) (fun b u e => ?_) (Nat.le_refl _) ⟨fits, out, ep', vals_of_ints k1, he'⟩, rfl, go _ _ k2 k3 (J.hok.fresh (Nat.le_refl _))⟩
  have lt := Heap.lt_size e
  rw [PyProof.Rows.sortedHeap_old (Nat.ne_of_lt lt) (by rw [size_push']; exact Nat.lt_succ_of_lt lt)]
  exact Heap.get?_push_of_some _ e
end
end Rp

set_option maxHeartbeats 8000000
/-! A BINDING bent. -/
namespace Rp
open PySem PySem.Spec PyProof.Rows L2 TL NdefX LamX StX PpSet
theorem cut_one {α : V → Prop} {xs : List V} (n : Nat) : cutV xs (some (n : Int)) (some ((n : Int) + 1)) = (xs.drop n).take 1 := by
  have e : (n : Int) + 1 = ((n + 1 : Nat) : Int) := rfl
  unfold cutV
  rw [e, HT.sIx_nat, HT.sIx_nat]
  rcases Nat.le_total (n + 1) xs.length with h | h
  · rw [Nat.min_eq_left h, Nat.min_eq_left (by omega), show n + 1 - n = 1 by omega]
  · rw [Nat.min_eq_right h]
    rcases Nat.le_total n xs.length with h2 | h2
    · rw [Nat.min_eq_left h2]
      rw [List.take_of_length_le (by rw [List.length_drop]; omega), List.take_of_length_le (by rw [List.length_drop]; omega)]
    · rw [Nat.min_eq_right h2, List.drop_eq_nil_of_le h2, List.drop_eq_nil_of_le (Nat.le_refl _)]; simp
theorem cut_fr {xs : List V} {n : Nat} : cutV xs (some ((n : Int) + 1)) none = xs.drop (n + 1) := cut_from (i := n + 1) rfl
theorem Paired.take {α β : Type} {R : α → β → Prop} : ∀ {l : List α} {m : List β} (n : Nat), Paired R l m → Paired R (l.take n) (m.take n)
  | _, _, 0, _ => .nil
  | _, _, n + 1, .nil => .nil
  | _, _, n + 1, .cons h t => .cons h (Paired.take n t)
theorem Paired.drop {α β : Type} {R : α → β → Prop} : ∀ {l : List α} {m : List β} (n : Nat), Paired R l m → Paired R (l.drop n) (m.drop n)
  | _, _, 0, h => h
  | _, _, n + 1, .nil => .nil
  | _, _, n + 1, .cons _ t => Paired.drop n t
theorem Paired.app {α β : Type} {R : α → β → Prop} : ∀ {l l' : List α} {m m' : List β}, Paired R l m → Paired R l' m' → Paired R (l ++ l') (m ++ m')
  | _, _, _, _, .nil, g => g
  | _, _, _, _, .cons h t, g => .cons h (Paired.app t g)
/-- a dict of TERMs by their ints -/
structure Dc8 (H : Hp) (kvs : List (Key × V)) (ks : List Int) : Prop where
  keys : kvs.map (·.1) = ks.map Sum.inl
  nd : ks.Nodup
  val : ∀ k ∈ ks, ∃ v t, valV kvs (Sum.inl k) = some v ∧ TmAt H v t ∧ t.small ∧ t.size ≤ 8
theorem Dc8.put {H : Hp} {kvs : List (Key × V)} {ks : List Int} (D : Dc8 H kvs ks) {k : Int} {v : V} {t : Tm} (T : TmAt H v t) (sm : t.small) (sz : t.size ≤ 8) :
    ∃ ks', Dc8 H (putK kvs (Sum.inl k) v) ks' ∧ ks'.length ≤ ks.length + 1 := by
  by_cases hm : k ∈ ks
  · refine ⟨ks, ⟨?_, D.nd, fun j hj => ?_⟩, by omega⟩
    · unfold putK
      have : (kvs.any fun kv => decide (kv.1 = Sum.inl k)) = true := by
        rw [List.any_eq_true]
        have : Sum.inl k ∈ kvs.map (·.1) := by rw [D.keys]; exact List.mem_map_of_mem hm
        obtain ⟨kv, h1, h2⟩ := List.mem_map.mp this
        exact ⟨kv, h1, decide_eq_true h2⟩
      rw [if_pos this, List.map_map, ← D.keys]
      refine List.map_congr_left fun kv _ => ?_
      show (if kv.1 = Sum.inl k then (kv.1, v) else kv).1 = kv.1
      split <;> rfl
    · rw [valV_put]
      by_cases e : j = k
      · subst e; rw [if_pos rfl]; exact ⟨v, t, rfl, T, sm, sz⟩
      · rw [if_neg (fun z => e (Sum.inl.inj z))]; exact D.val j hj
  · have none_ : ¬ (kvs.any fun kv => decide (kv.1 = Sum.inl k)) = true := fun h => by
      obtain ⟨kv, h1, h2⟩ := List.any_eq_true.mp h
      have h3 : Sum.inl k ∈ kvs.map (·.1) := List.mem_map.mpr ⟨kv, h1, of_decide_eq_true h2⟩
      rw [D.keys] at h3
      obtain ⟨k', h4, h5⟩ := List.mem_map.mp h3
      exact hm (by cases h5; exact h4)
    refine ⟨ks ++ [k], ⟨?_, ?_, fun j hj => ?_⟩, by simp⟩
    · unfold putK
      rw [if_neg none_, List.map_append, List.map_append, D.keys]
      rfl
    · rw [List.nodup_append]
      exact ⟨D.nd, by simp, fun x hx y hy e => by simp at hy; subst hy; subst e; exact hm hx⟩
    · rw [valV_put]
      rcases List.mem_append.mp hj with hj | hj
      · rw [if_neg (fun z => by cases z; exact hm hj)]; exact D.val j hj
      · simp at hj; subst hj; rw [if_pos rfl]; exact ⟨v, t, rfl, T, sm, sz⟩
theorem Dc8.merge {H : Hp} : ∀ {kvs : List (Key × V)} {bd : Bd} {acc : List (Key × V)} {ks : List Int}, Paired (fun (kv : Key × V) (q : Int × Tm) => kv.1 = Sum.inl q.1 ∧ TmAt H kv.2 q.2) kvs bd → (∀ p ∈ bd, p.2.small ∧ p.2.size ≤ 8) → Dc8 H acc ks →
    ∃ ks', Dc8 H (mergeK acc kvs) ks' ∧ ks'.length ≤ ks.length + bd.length
  | _, _, acc, ks, .nil, _, D => ⟨ks, D, by simp⟩
  | _, _, acc, ks, .cons (a := kv) (b := q) h t, f, D => by
    obtain ⟨k, y⟩ := kv
    obtain ⟨e, T⟩ := h
    have e : k = Sum.inl q.1 := e
    subst e
    have f1 := f q (by simp)
    obtain ⟨ks1, D1, l1⟩ := D.put (k := q.1) (v := y) T f1.1 f1.2
    obtain ⟨ks2, D2, l2⟩ := Dc8.merge t (fun p hp => f p (by simp [hp])) D1
    exact ⟨ks2, D2, by rw [List.length_cons]; omega⟩
theorem Dc8.mono {H H' : Hp} {kvs : List (Key × V)} {ks : List Int} (u : Tups H H') (D : Dc8 H kvs ks) : Dc8 H' kvs ks :=
  ⟨D.keys, D.nd, fun k hk => let ⟨v, t, h1, h2, h3⟩ := D.val k hk; ⟨v, t, h1, h2.mono u.1, h3⟩⟩
def spBentB : Sp := fun vs H Q _ => ∃ (b a : Addr) (bd : Bd) (j : Nat), vs = [.ref b, .ref a] ∧ BoxAt H b j ∧ BdAt H a bd ∧ (∀ p ∈ bd, p.2.small ∧ p.2.size ≤ 7) ∧ bd.length ≤ 60 ∧ j + 3 ≤ 1000000 ∧
  ∀ (a' : Addr) (bd' : Bd) (H' : Hp), BdAt H' a' bd' → BdF bd' → BoxAt H' b (j + 3) → But b H H' → Q (.ref a') H'
abbrev NBe : List Str := ["_law_box_here", "_law_binding", "_law_way", "_law_at", "_law_found", "_law_one", "_law_pair"]
def teBe1 : TE := tTup (tCons (tVar 5) (tCons (tDGet (tVar 4) (tVar 5)) tNil))
def teBe2 (K : PySem.W.Frag) : TE := tTup (tCons (tOp (rIxT K) (tVar 6) (tC (.int 0))) (tCons (tTup (tCons (tC (.str "s")) (tCons (tOp (rIxT K) (tVar 6) (tC (.int 1))) tNil))) tNil))
section
variable {P : Program} {w : World} {K : PySem.W.Frag} {mg : Str → Option Value} {base : Heap}
theorem scBe : FnScope NBe ["_law_box_here", "_law_binding"] (defScope sBentB) := ⟨rfl, rfl, rfl, by decide +kernel, rfl, by decide +kernel, by decide +kernel⟩
theorem ok_bent {f fT : Addr} {fd dT : FuncData} (F : Fun K "_law_bent_binding" "_law_bent_binding" sBentB f fd)
    (GT : FnOk P w K mg base CX0 1 fT dT ["_law_box_here", "_law_reach"] spTake) (kT : PySem.W.keepIn K (.ref fT) = true) (bT : Binds K dT ["_law_box_here", "_law_reach"] []) (mT : mg "_law_take" = some (.ref fT))
    (mDict : mg "dict" = none) (mList : mg "list" = none) (mTuple : mg "tuple" = none) (mSorted : mg "sorted" = none) (mLen : mg "len" = none) : FnOk P w K mg base CX0 2 f fd ["_law_box_here", "_law_binding"] spBentB := by
  refine F.ok scBe (fun vs H Q E h => ?_) (fun cdv A outer s H vs Q E hr h => ?_)
  · obtain ⟨b, a, bd, j, rfl, _⟩ := h
    rfl
  obtain ⟨b, ab, bd, j, rfl, B, Bd0, f7, bl, hj, q⟩ := h
  have r1 : Room 1 _ := hr.mono (by decide)
  refine ⟨_, (pss_cons (ps_par (i := 2) (j := 3) rfl scBe.nd rfl rfl (by decide) rfl rfl (pa_cons (pe_call GT r1 rfl mT kT bT .nil pass0 (pa_cons (pv 0) (pa_cons pe_int pa_nil))) (pa_cons (pe_call GT r1 rfl mT kT bT .nil pass0 (pa_cons (pv 0) (pa_cons (pe_op op_addI (pe_callB call_len_seq (by rfl) mLen PySem.boot_len (pa_cons (pv 1) pa_nil)) pe_int) pa_nil))) pa_nil)) (by rfl))
    (pss_cons (ps_if (pt_cmpR op_eq (pv 2) pe_int (nomark _)) (pss_one (ps_ret (pe_op op_catF (pe_slice sl_tupF (pv 1) po_none (po_some (pv 3))) (pe_slice sl_tupF (pv 1) (po_some (pe_op op_addI (pv 3) pe_int)) po_none)))) pss_nil)
    (pss_cons (ps_if (pt_cmpR op_eq (pv 2) pe_int (nomark _)) (pss_cons (ps_set (i := 4) scBe.nd rfl (Or.inr rfl) (pe_callTy (call_dictP rfl) (by rfl) mDict (by decide +kernel) (pa_cons (pe_op op_cat (pe_callTy call_list_of (by rfl) mList (by decide +kernel) (pa_cons (pv 1) pa_nil)) (pe_lst (pa_cons (pe_tup (pa_cons (pe_call GT r1 rfl mT kT bT .nil pass0 (pa_cons (pv 0) (pa_cons pe_int pa_nil))) (pa_cons (pe_tup (pa_cons pe_str pa_nil)) pa_nil))) pa_nil))) pa_nil)))
    (pss_one (ps_ret (pe_callTy cr_tupF (by rfl) mTuple (by decide +kernel) (pa_cons (pe_lc (own := [("_law_one", 5)]) (g := gName 5) (tt := tYes) (te := teBe1) rfl scBe.nd (pi_list (pe_callB (cr_sortedDI rfl) (by rfl) mSorted (by decide +kernel) (pa_cons (pv 4) pa_nil))) (blkOk_by (N := NBe) (sc := defScope sBentB) (by decide +kernel)) (fun _ _ _ _ _ => (pg_name (i := 5) scBe.nd rfl (Or.inl rfl))) (fun _ _ _ _ _ => pts_nil) (fun _ _ _ _ _ => (pe_tup (pa_cons (pv 5) (pa_cons (pe_dget (hu_of hr) (pv 4) (pv 5) (fun _ _ => rfl)) pa_nil))))) pa_nil))))) pss_nil)
    (pss_one (ps_ret (pe_op op_catF (pe_op op_catF (pe_slice sl_tupF (pv 1) po_none (po_some (pv 3))) (pe_callTy cr_tupF (by rfl) mTuple (by decide +kernel) (pa_cons (pe_lc (own := [("_law_pair", 6)]) (g := gName 6) (tt := tYes) (te := (teBe2 K)) rfl scBe.nd (pi_tup (pe_slice sl_tupF (pv 1) (po_some (pv 3)) (po_some (pe_op op_addI (pv 3) pe_int)))) (blkOk_by (N := NBe) (sc := defScope sBentB) (by decide +kernel)) (fun _ _ _ _ _ => (pg_name (i := 6) scBe.nd rfl (Or.inl rfl))) (fun _ _ _ _ _ => pts_nil) (fun _ _ _ _ _ => (pe_tup (pa_cons (pe_ix ix_tup (pv 6) pe_int (fun _ _ => rfl)) (pa_cons (pe_tup (pa_cons pe_str (pa_cons (pe_ix ix_tup (pv 6) pe_int (fun _ _ => rfl)) pa_nil))) pa_nil))))) pa_nil))) (pe_slice sl_tupF (pv 1) (po_some (pe_op op_addI (pv 3) pe_int)) po_none))))))), ?_⟩
  have big : (10000 : Nat) ≤ sizeLine := by decide
  refine ⟨_, rfl, b, _, _, rfl, B, by omega, by decide, by decide, fun wy H1 w0 w1 B1 o1 => ?_⟩
  have Bd1 := Bd0.mono (Tups.but o1 B.some.choose_spec)
  obtain ⟨ps1, hpl1, pr1, nd, bz⟩ := id Bd1
  have pl := paired_len pr1
  refine ⟨_, rfl, _, rfl, ab, _, rfl, .inr hpl1.sq, _, _, rfl, rfl, b, _, _, rfl, B1, by omega, by rw [List.length_map]; omega, by rw [List.length_map]; omega, fun z H2 z0 z1 B2 o2 => ?_⟩
  obtain ⟨n, rfl⟩ := Int.eq_ofNat_of_zero_le z0
  have Bd2 := Bd1.mono (Tups.but o2 B1.some.choose_spec)
  clear pr1 hpl1 pl
  obtain ⟨ps, hpl, pr, _, _⟩ := id Bd2
  have pl := paired_len pr
  have o12 := o1.trans o2
  refine ⟨_, _, rfl, ?_⟩
  refine ⟨_, rfl, rfl, decide (V.int wy = V.int 0), rfl, ?_⟩
  by_cases e0 : V.int wy = V.int 0
  · rw [decide_eq_true e0]
    refine iteT ⟨_, rfl, _, rfl, _, rfl, ab, _, rfl, hpl, fun p1 H3 hp1 s3 => ?_⟩
    rw [cut_to] at hp1
    have hpl3 := hpl.same s3
    refine ⟨_, rfl, _, rfl, _, _, rfl, rfl, _, rfl, ab, _, rfl, hpl3, fun p2 H4 hp2 s4 => ?_⟩
    rw [cut_fr] at hp2
    refine ⟨p1, p2, _, _, rfl, rfl, hp1.same s4, hp2, ?_, fun p3 H5 hp3 s5 => ?_⟩
    · rw [List.length_take, List.length_drop, List.length_map]; omega
    have s25 := s3.trans (s4.trans s5)
    rw [← List.map_take, ← List.map_drop, ← List.map_append] at hp3
    have sub : (bd.take n ++ bd.drop (n + 1)).Sublist bd := by
      have h1 : (bd.take n ++ bd.drop (n + 1)).Sublist (bd.take n ++ bd.drop n) := List.Sublist.append (List.Sublist.refl _) (List.drop_sublist_drop_left _ (by omega))
      rwa [List.take_append_drop] at h1
    refine q p3 _ H5 ⟨_, hp3, L2.Paired.mapP (Paired.app (Paired.take n pr) (Paired.drop (n + 1) pr)) fun _ _ z => z.mono (Tups.same s25).1, List.Pairwise.sublist (sub.map _) nd, Nat.le_trans sub.length_le bz⟩ ⟨fun p hp => ?_⟩ ((B2.same s25).more (by omega)) (o12.trans (but_of s25))
    have := f7 p (sub.subset hp)
    exact ⟨this.1, by omega⟩
  · rw [decide_eq_false e0]
    refine iteF ⟨_, rfl, rfl, decide (V.int wy = V.int 1), rfl, ?_⟩
    by_cases e1 : V.int wy = V.int 1
    · rw [decide_eq_true e1]
      refine iteT ⟨_, rfl, ab, _, rfl, .inr hpl.sq, fun l hl => ?_⟩
      have s3 := same_new hl (.lst (ps.map V.ref))
      have hl3 : (upd H2 l (.lst (ps.map V.ref))) l = some (.lst (ps.map V.ref)) := upd_same
      have lb : l ≠ b := ne_box B2 hl
      have B3 := B2.same s3
      have u3 := Tups.same s3
      generalize upd H2 l (.lst (ps.map V.ref)) = H3 at s3 hl3 B3 u3 ⊢
      refine ⟨_, rfl, b, _, _, rfl, B3, by omega, by decide, by decide, fun r H4 r0 r1' B4 o4 => ?_⟩
      refine ⟨(by show 1 ≤ sizeLine; decide), fun zp hzp => ?_⟩
      have s5 := same_new hzp (.tup [V.str "0"])
      refine ⟨(by show 2 ≤ sizeLine; decide), fun pp hpp => ?_⟩
      have s6 := same_new hpp (.tup [V.int r, .ref zp])
      have z6 : TmAt (upd (upd H4 zp (.tup [V.str "0"])) pp (.tup [V.int r, .ref zp])) (.ref zp) .z := .z (s6 _ _ upd_same)
      have hpp6 : (upd (upd H4 zp (.tup [V.str "0"])) pp (.tup [V.int r, .ref zp])) pp = some (.tup [V.int r, .ref zp]) := upd_same
      have s46 := s5.trans s6
      generalize upd (upd H4 zp (.tup [V.str "0"])) pp (.tup [V.int r, .ref zp]) = H6 at s6 s46 z6 hpp6 ⊢
      refine ⟨(by show 1 ≤ sizeLine; decide), fun l2 hl2 => ?_⟩
      have s7 := same_new hl2 (.lst [V.ref pp])
      have hl7 := s7 _ _ (s46 _ _ (o4 _ _ hl3 lb))
      refine ⟨l, l2, _, _, rfl, rfl, hl7, upd_same, by rw [List.length_map, List.length_singleton]; omega, fun l3 hl3' => ?_⟩
      have s8 := same_new hl3' (.lst (ps.map V.ref ++ [V.ref pp]))
      have hl8 : (upd (upd H6 l2 (.lst [V.ref pp])) l3 (.lst (ps.map V.ref ++ [V.ref pp]))) l3 = some (.lst ((ps ++ [pp]).map V.ref)) := by rw [upd_same, List.map_append]; rfl
      have s48 := s46.trans (s7.trans s8)
      have o28 : But b H2 (upd (upd H6 l2 (.lst [V.ref pp])) l3 (.lst (ps.map V.ref ++ [V.ref pp]))) := (but_of s3).trans (o4.trans (but_of s48))
      have B8 := B4.same s48
      have s68 := s7.trans s8
      generalize upd (upd H6 l2 (.lst [V.ref pp])) l3 (.lst (ps.map V.ref ++ [V.ref pp])) = H8 at hl8 s48 o28 B8 s68 s8 ⊢
      have u28 : Tups H2 H8 := Tups.but o28 B2.some.choose_spec
      have pr8 : Paired (PrAt H8) (ps ++ [pp]) (bd ++ [(r, Tm.z)]) := Paired.snoc2 (L2.Paired.mapP pr fun _ _ z => z.mono u28.1) ⟨_, s68 _ _ hpp6, z6.same s68⟩
      obtain ⟨kvs, k1, k2⟩ := pairs_of (K := K) pr8
      obtain ⟨ks, D8, kl⟩ := Dc8.merge (acc := []) (ks := []) k2 (fun p hp => by
        rcases List.mem_append.mp hp with hp | hp
        · have := f7 p hp; exact ⟨this.1, by omega⟩
        · obtain rfl : p = (r, Tm.z) := by simpa using hp
          exact ⟨fun n hn => by simp [Tm.nums] at hn, by show 1 ≤ 8; decide⟩) ⟨rfl, by simp, by simp⟩
      rw [List.length_append, List.length_singleton, List.length_nil] at kl
      refine ⟨l3, ps ++ [pp], kvs, rfl, .inl (.inl hl8), k1, fun dd hdd => ?_⟩
      have s9 := same_new hdd (.dK (mergeK [] kvs))
      have hd9 : (upd H8 dd (.dK (mergeK [] kvs))) dd = some (.dK (mergeK [] kvs)) := upd_same
      have D9 := D8.mono (Tups.same s9)
      generalize upd H8 dd (.dK (mergeK [] kvs)) = H9 at s9 hd9 D9 ⊢
      generalize mergeK [] kvs = mk at hd9 D9
      refine ⟨_, rfl, dd, mk, ks, rfl, .inl hd9, D9.keys, by omega, fun ns g perm up hg => ?_⟩
      have s10 := same_new hg (.lst (ns.map V.int))
      have nl : ns.length = ks.length := perm.length_eq
      have nnd : ns.Nodup := perm.nodup_iff.mpr D9.nd
      refine ⟨g, rfl, ⟨_, .inl (.inl upd_same)⟩, fun D hD => lc_list (K := K) (a := g) (xs := ns.map V.int) (fun i H3 => ∃ (xs : List Addr) (qs : Bd), H3 D = some (.lst (xs.map V.ref)) ∧ Paired (PrAt H3) xs qs ∧ qs.map (·.1) = ns.take i ∧ (∀ p ∈ qs, p.2.small ∧ p.2.size ≤ 8) ∧ Same (upd H9 g (.lst (ns.map V.int))) H3)
        ⟨[], [], upd_same, .nil, by simp, by simp, same_new hD _⟩ (fun i H3 _ ⟨_, _, _, _, _, _, h⟩ => .inl (.inl (h _ _ upd_same))) ?_ ?_⟩
      · rintro i y H3 hi ⟨xs, qs, h3, A3, em, sm3, s11⟩
        obtain ⟨k, hk, rfl⟩ : ∃ k, ns[i]? = some k ∧ y = .int k := by
          rw [List.getElem?_map] at hi
          cases hq : ns[i]? with
          | none => rw [hq] at hi; cases hi
          | some k => rw [hq] at hi; exact ⟨k, rfl, by simpa using hi.symm⟩
        obtain ⟨v, t, hv, T, tsm, tsz⟩ := D9.val k (perm.mem_iff.mp (List.mem_of_getElem? hk))
        have hd3 := s11 _ _ (s10 _ _ hd9)
        have xl := paired_len A3
        have pl3 := congrArg List.length em
        rw [List.length_map, List.length_take] at pl3
        refine ⟨rfl, ?_⟩
        unfold teBe1
        refine ⟨_, rfl, _, rfl, _, rfl, dd, v, rfl, hv ▸ DGet.k (k := Sum.inl k) hd3, (by show 2 ≤ sizeLine; decide), fun pr' hpr => ?_⟩
        have s12 := same_new hpr (.tup [V.int k, v])
        have h37 := s12 _ _ h3
        have cD : pr' ≠ D := (ne_of_none h3 hpr).symm
        have uu : Tups H3 (upd (upd H3 pr' (.tup [V.int k, v])) D (.lst (xs.map V.ref ++ [.ref pr']))) := (Tups.same s12).trans (Tups.but (but_upd _) h37)
        have T3 : TmAt H3 v t := T.mono fun a zs z => s11 _ _ (s10 _ _ z)
        refine ⟨xs.map V.ref, h37, by rw [List.length_map]; omega, xs ++ [pr'], qs ++ [(k, t)], by rw [upd_same, List.map_append]; rfl, ?_, ?_, ?_, fun c o z => by rw [upd_ne (ne_of_none z hD)]; exact s12 _ _ (s11 _ _ z)⟩
        · exact Paired.snoc2 (L2.Paired.mapP A3 fun _ _ z => z.mono uu.1) ⟨v, by rw [upd_ne cD, upd_same], T3.mono uu.1⟩
        · rw [List.map_append, em, List.take_add_one, hk]; rfl
        · intro p' hp'
          rcases List.mem_append.mp hp' with z | z
          · exact sm3 p' z
          · obtain rfl : p' = (k, t) := by simpa using z
            exact ⟨tsm, tsz⟩
      · rintro H3 ⟨xs, qs, h3, A3, em, sm3, s11⟩
        rw [List.length_map, List.take_length] at em
        have ql := congrArg List.length em
        rw [List.length_map] at ql
        refine ⟨D, xs.map V.ref, rfl, .inl (.inl h3), fun l4 ob od hl4 => ?_⟩
        have s12 := same_new hl4 (.frz ob (.tup (xs.map V.ref)))
        have s812 := s9.trans (s10.trans (s11.trans s12))
        exact q l4 qs _ ⟨xs, ⟨ob, od, upd_same⟩, L2.Paired.mapP A3 fun _ _ z => z.mono (Tups.same s12).1, by rw [em]; exact nnd, by omega⟩ ⟨sm3⟩ ((B8.same s812).more (by omega)) (o12.trans (o28.trans (but_of s812)))
    · rw [decide_eq_false e1]
      refine iteF ⟨_, rfl, _, rfl, _, rfl, ab, _, rfl, hpl, fun p1 H3 hp1 s3 => ?_⟩
      rw [cut_to] at hp1
      have hpl3 := hpl.same s3
      refine ⟨_, rfl, _, rfl, _, rfl, _, rfl, _, _, rfl, rfl, _, rfl, ab, _, rfl, hpl3, fun p2 H4 hp2 s4 => ?_⟩
      have ec : cutV (ps.map V.ref) (some (n : Int)) (some ((n : Int) + 1)) = ((ps.drop n).take 1).map V.ref := by rw [cut_one (α := fun _ => True), List.map_take, List.map_drop]
      rw [ec] at hp2
      have pr2 := Paired.take 1 (Paired.drop n pr)
      have s24 := s3.trans s4
      have pl2 := paired_len pr2
      refine ⟨p2, rfl, ⟨_, hp2.sq⟩, fun D hD => lc_tup (K := K) (a := p2) (xs := ((ps.drop n).take 1).map V.ref) (fun i H5 => ∃ qs : List Addr, H5 D = some (.lst (qs.map V.ref)) ∧ Paired (PrAt H5) qs ((((bd.drop n).take 1).take i).map fun q => (q.1, Tm.s q.2)) ∧ Same H4 H5)
        ⟨[], upd_same, .nil, same_new hD _⟩ (fun i H5 _ ⟨_, _, _, s⟩ => (hp2.same s).sq) ?_ ?_⟩
      · rintro i x H5 hi ⟨qs, h5, P5, s5⟩
        obtain ⟨p, m, t, y, rfl, hb, hp, T⟩ := bd_pair pr2 hi
        have li : i < ((bd.drop n).take 1).length := (List.getElem?_eq_some_iff.mp hb).1
        have tk : ((bd.drop n).take 1).take (i + 1) = ((bd.drop n).take 1).take i ++ [(m, t)] := by rw [List.take_add_one, hb]; rfl
        have ql := paired_len P5
        rw [List.length_map, List.length_take] at ql
        have b1 : ((bd.drop n).take 1).length ≤ 1 := by rw [List.length_take]; omega
        have s25 := s24.trans s5
        have hp5 := s25 _ _ hp
        have T5 := T.same s25
        refine ⟨rfl, ?_⟩
        unfold teBe2
        refine ⟨_, rfl, p, _, _, _, rfl, rfl, .inl (.inl hp5), at_of (j := 0) rfl rfl, _, rfl, p, _, _, _, rfl, rfl, .inl (.inl hp5), at_of (j := 1) rfl rfl, (by show 2 ≤ sizeLine; decide), fun c1 hc1 => ?_⟩
        have s6 := same_new hc1 (.tup [V.str "s", y])
        refine ⟨(by show 2 ≤ sizeLine; decide), fun c2 hc2 => ?_⟩
        have s7 := same_new hc2 (.tup [V.int m, V.ref c1])
        have h7 := s7 _ _ (s6 _ _ h5)
        have cD : c2 ≠ D := (ne_of_none (s6 _ _ h5) hc2).symm
        have c1D : c1 ≠ D := (ne_of_none h5 hc1).symm
        have c12 : c1 ≠ c2 := ne_of_none upd_same hc2
        have uu : Tups H5 (upd (upd (upd H5 c1 (.tup [V.str "s", y])) c2 (.tup [V.int m, V.ref c1])) D (.lst (qs.map V.ref ++ [.ref c2]))) := ((Tups.same s6).trans (Tups.same s7)).trans (Tups.but (but_upd _) h7)
        refine ⟨qs.map V.ref, h7, by rw [List.length_map]; omega, qs ++ [c2], by rw [upd_same, List.map_append]; rfl, ?_, fun c o z => by rw [upd_ne (ne_of_none z hD)]; exact s7 _ _ (s6 _ _ (s5 _ _ z))⟩
        rw [tk, List.map_append]
        exact Paired.snoc2 (L2.Paired.mapP P5 fun _ _ z => z.mono uu.1) ⟨_, by rw [upd_ne cD, upd_same], .s (by rw [upd_ne c1D, upd_ne c12, upd_same]) (T5.mono uu.1)⟩
      rintro H5 ⟨qs, h5, P5, s5⟩
      rw [List.length_map, pl2, List.take_length] at P5
      refine ⟨D, qs.map V.ref, rfl, .inl (.inl h5), fun l4 ob od hl4 => ?_⟩
      have s6 := same_new hl4 (.frz ob (.tup (qs.map V.ref)))
      have hl6 : PlT (upd H5 l4 (.frz ob (.tup (qs.map V.ref)))) l4 (qs.map V.ref) := ⟨ob, od, upd_same⟩
      have ql := paired_len P5
      rw [List.length_map] at ql
      have b1 : ((bd.drop n).take 1).length ≤ 1 := by rw [List.length_take]; omega
      have s36 := s4.trans (s5.trans s6)
      refine ⟨p1, l4, _, _, rfl, rfl, hp1.same s36, hl6, by rw [List.length_take, List.length_map, List.length_map]; omega, fun p3 H7 hp3 s7 => ?_⟩
      have s27 := s3.trans (s36.trans s7)
      refine ⟨_, rfl, _, rfl, _, _, rfl, rfl, _, rfl, ab, _, rfl, hpl.same s27, fun p4 H8 hp4 s8 => ?_⟩
      rw [cut_fr] at hp4
      refine ⟨p3, p4, _, _, rfl, rfl, hp3.same s8, hp4, by rw [List.length_append, List.length_take, List.length_drop, List.length_map, List.length_map]; omega, fun p5 H9 hp5 s9 => ?_⟩
      have s29 := s27.trans (s8.trans s9)
      rw [← List.map_take, ← List.map_drop, ← List.map_append, ← List.map_append] at hp5
      have s59 := s6.trans (s7.trans (s8.trans s9))
      have pr9 := L2.Paired.mapP (G := PrAt H9) pr fun _ _ z => z.mono (Tups.same s29).1
      have P9 := L2.Paired.mapP (G := PrAt H9) P5 fun _ _ z => z.mono (Tups.same s59).1
      have keys : (bd.take n ++ (((bd.drop n).take 1).map fun q => (q.1, Tm.s q.2)) ++ bd.drop (n + 1)).map (·.1) = bd.map (·.1) := by
        have e : (((bd.drop n).take 1).map fun q => (q.1, Tm.s q.2)).map (·.1) = ((bd.drop n).take 1).map (·.1) := by rw [List.map_map]; rfl
        have e2 : (bd.drop n).take 1 ++ bd.drop (n + 1) = bd.drop n := by
          have := List.take_append_drop 1 (bd.drop n)
          rwa [List.drop_drop] at this
        rw [List.map_append, List.map_append, e, ← List.map_append, ← List.map_append, List.append_assoc, e2, List.take_append_drop]
      have len := congrArg List.length keys
      rw [List.length_map, List.length_map] at len
      refine q p5 _ H9 ⟨_, hp5, Paired.app (Paired.app (Paired.take n pr9) P9) (Paired.drop (n + 1) pr9), by rw [keys]; exact nd, by omega⟩ ⟨fun p hp => ?_⟩ ((B2.same s29).more (by omega)) (o12.trans (but_of s29))
      rcases List.mem_append.mp hp with hp | hp
      · rcases List.mem_append.mp hp with hp | hp
        · have := f7 p (List.mem_of_mem_take hp); exact ⟨this.1, by omega⟩
        · obtain ⟨x, hx, rfl⟩ := List.mem_map.mp hp
          have := f7 x (List.mem_of_mem_drop (List.mem_of_mem_take hx))
          exact ⟨this.1, by show x.2.size + 1 ≤ 8; omega⟩
      · have := f7 p (List.mem_of_mem_drop hp); exact ⟨this.1, by omega⟩
end
end Rp

set_option maxHeartbeats 8000000
/-! What the law k24 shows. -/
namespace Rp
open PySem PySem.Spec PyProof.Rows L2 TL NdefX LamX StX PpSet
mutual
theorem sh_shownL {W L : Nat} (hL : L ≤ 60) : ∀ {d : PyData}, shG W L d → d.hasDict = false → d.showable = true ∧ d.intsShort 13 = true ∧ d.weight + 1 ≤ 100 * nd d
  | .none, _, _ => ⟨rfl, rfl, by decide⟩
  | .bool b, _, _ => ⟨rfl, rfl, by simp [PyData.weight, nd]⟩
  | .int i, h, _ => by
    unfold shG at h
    have a : i.natAbs ≤ 2000 := by omega
    have b : i.natAbs.log2 ≤ 11 := by
      by_cases h0 : i.natAbs = 0
      · rw [h0]; decide
      · exact Nat.le_of_lt_succ ((Nat.log2_lt h0).mpr (by omega))
    refine ⟨?_, ?_, ?_⟩
    · simp only [PyData.showable, decide_eq_true_eq]; omega
    · simp only [PyData.intsShort, decide_eq_true_eq]; exact PyData.shown_int_le (by omega)
    · simp only [PyData.weight, nd]; split <;> omega
  | .str x, h, _ => by
    unfold shG at h
    have : x.cps.size ≤ L := h.1
    refine ⟨rfl, rfl, ?_⟩
    simp only [PyData.weight, nd]
    omega
  | .list ds, h, n => by
    unfold shG at h
    have z := shs_shownL hL h.2 (by simpa [PyData.hasDict] using n)
    simp only [PyData.showable, PyData.intsShort, PyData.weight, nd]
    exact ⟨z.1, z.2.1, by omega⟩
  | .tuple ds, h, n => by
    unfold shG at h
    have z := shs_shownL hL h.2 (by simpa [PyData.hasDict] using n)
    simp only [PyData.showable, PyData.intsShort, PyData.weight, nd]
    exact ⟨z.1, z.2.1, by omega⟩
  | .dict _, _, n => by simp [PyData.hasDict] at n
theorem shs_shownL {W L : Nat} (hL : L ≤ 60) : ∀ {ds : List PyData}, shGs W L ds → PyData.hasDictAll ds = false → PyData.showableAll ds = true ∧ PyData.intsShortAll 13 ds = true ∧ PyData.weightAll ds ≤ 100 * ndAll ds
  | [], _, _ => ⟨rfl, rfl, by decide⟩
  | d :: ds, h, n => by
    unfold shGs at h
    rw [PyData.hasDictAll, Bool.or_eq_false_iff] at n
    have a := sh_shownL hL h.1 n.1
    have b := shs_shownL hL h.2 n.2
    simp only [PyData.showableAll, PyData.intsShortAll, PyData.weightAll, ndAll, Bool.and_eq_true]
    exact ⟨⟨a.1, b.1⟩, ⟨a.2.1, b.2.1⟩, by omega⟩
end
theorem fq_shownL {k W L : Nat} {d : PyData} (h : Fq k W L d) (N : d.hasDict = false) (hk : k ≤ 60) (hL : L ≤ 60) (hn : nd d ≤ 10000) : d.showable = true ∧ d.hasDict = false ∧ d.depth ≤ 64 ∧ d.shown.length ≤ sizeLine := by
  obtain ⟨h2, h3, h5⟩ := sh_shownL hL h.sh N
  have dp := h.dp
  have big : (15728653 : Nat) ≤ sizeLine := by decide
  refine ⟨h2, N, by omega, Nat.le_trans (shown_le13 ?_ h3) big⟩
  unfold PyData.layable0
  rw [h.lay, decide_eq_true (by omega : d.depth ≤ 64), decide_eq_true (by omega : d.weight ≤ 2 ^ 20)]
  rfl
theorem fq_tmz {z : Nat} {t : Tm} (h : t.small) (hz : t.size ≤ z) : Fq z 6 7 (tmD t) ∧ nd (tmD t) ≤ 2 * z := by
  have dl := Tm.deep_lt t
  have n := (tm_ok t).2.2
  exact ⟨(fq_tm (by decide) h).more (by omega) (Nat.le_refl _) (Nat.le_refl _), by omega⟩
theorem fq_at50 {a : At} (ok : AtOk 50 a) : Fq 51 6 7 (atD a) ∧ nd (atD a) ≤ 202 := by
  have o1 := ok.one
  have o2 := ok.two
  refine ⟨fq_tup.mpr ⟨by simp; omega, fun d hd => ?_⟩, ?_⟩
  · rcases List.mem_cons.mp hd with rfl | hd
    · exact (Asc.fq (k := 0) (low_asc ok.nm (by decide))).more (by omega) (Nat.le_refl _) (Nat.le_refl _)
    · obtain ⟨t, ht, rfl⟩ := List.mem_map.mp hd
      exact (fq_tmz (ok.sm t ht).1 (ok.sm t ht).2).1
  · have z := ndAll_le_mul (n := 100) (ds := a.ts.map tmD) fun d hd => by
      obtain ⟨t, ht, rfl⟩ := List.mem_map.mp hd
      exact (fq_tmz (ok.sm t ht).1 (ok.sm t ht).2).2
    rw [List.length_map] at z
    have y : 100 * a.ts.length ≤ 200 := by omega
    show nd (.tuple (.str a.nm :: a.ts.map tmD)) ≤ 202
    simp only [nd, ndAll]
    omega
theorem fq_sy50 {s : Sy} (ok : SyOk s) : Fq 53 6 7 (syD s) ∧ nd (syD s) ≤ 1500 := by
  have h6 := ok.hs.few
  have each : ∀ d ∈ s.hs.map atD, Fq 51 6 7 d ∧ nd d ≤ 202 := fun d hd => by
    obtain ⟨a, ha, rfl⟩ := List.mem_map.mp hd
    exact fq_at50 (ok.hs.ok a ha)
  obtain ⟨g1, g2⟩ := fq_at50 ok.gl
  refine ⟨fq_tup.mpr ⟨by simp, fun d hd => ?_⟩, ?_⟩
  · simp only [List.mem_cons, List.not_mem_nil, or_false] at hd
    rcases hd with rfl | rfl
    · exact fq_tup.mpr ⟨by rw [List.length_map]; omega, fun d hd => (each d hd).1⟩
    · exact g1.more (by omega) (Nat.le_refl _) (Nat.le_refl _)
  · have z := ndAll_le_mul (n := 202) (ds := s.hs.map atD) fun d hd => (each d hd).2
    rw [List.length_map] at z
    have y : 202 * s.hs.length ≤ 1212 := by omega
    show nd (.tuple [.tuple (s.hs.map atD), atD s.gl]) ≤ 1500
    simp only [nd, ndAll]
    omega
def prD (q : Int × Tm) : PyData := .tuple [.int q.1, tmD q.2]
def bdD (bd : Bd) : PyData := .tuple (bd.map prD)
theorem bd_dat {H : Hp} {b : Addr} : ∀ {ps : List Addr} {bd : Bd}, Paired (PrAt H) ps bd → DAtAll H b (ps.map V.ref) (bd.map prD)
  | _, _, .nil => by unfold DAtAll; rfl
  | _, _, .cons ⟨x, h, T⟩ t => .cons (by unfold prD DAt; exact ⟨_, _, rfl, .inl h, .cons (by unfold DAt; rfl) (.cons T.dat .nil)⟩) (bd_dat t)
theorem BdAt.dat {H : Hp} {b a : Addr} {bd : Bd} (h : BdAt H a bd) : DAt H b (.ref a) (bdD bd) := by
  obtain ⟨ps, ⟨o, _, hp⟩, pr, _, _⟩ := h
  unfold bdD DAt
  exact ⟨a, ps.map V.ref, rfl, .inr ⟨o, hp⟩, bd_dat pr⟩
theorem fq_bd {bd : Bd} (num : ∀ p ∈ bd, 0 ≤ p.1 ∧ p.1 ≤ 99) (f7 : ∀ p ∈ bd, p.2.small ∧ p.2.size ≤ 7) (few : bd.length ≤ 60) : Fq 10 60 7 (bdD bd) ∧ nd (bdD bd) ≤ 1100 := by
  have each : ∀ d ∈ bd.map prD, Fq 9 60 7 d ∧ nd d ≤ 18 := fun d hd => by
    obtain ⟨p, hp, rfl⟩ := List.mem_map.mp hd
    have n := num p hp
    have f := fq_tm7 (f7 p hp).1 (f7 p hp).2
    refine ⟨fq_tup.mpr ⟨by simp, fun d hd => ?_⟩, by simp only [prD, nd, ndAll]; omega⟩
    simp only [List.mem_cons, List.not_mem_nil, or_false] at hd
    rcases hd with rfl | rfl
    · exact (fq_int (k := 0) (W := 0) (L := 7) (by omega)).more (by omega) (by omega) (by omega)
    · exact f.1.more (by omega) (by omega) (by omega)
  refine ⟨fq_tup.mpr ⟨by rw [List.length_map]; exact few, fun d hd => (each d hd).1⟩, ?_⟩
  have z := ndAll_le_mul (n := 18) (ds := bd.map prD) fun d hd => (each d hd).2
  rw [List.length_map] at z
  have y : 18 * bd.length ≤ 1080 := by omega
  show nd (.tuple (bd.map prD)) ≤ 1100
  simp only [nd]
  omega
theorem nums_small {o : Sy} (h7 : ∀ a ∈ o.hs, AtOk 7 a) (g7 : AtOk 7 o.gl) : ∀ k ∈ syNums o, 0 ≤ k ∧ k ≤ 99 := by
  intro k hk
  obtain ⟨a, ha, hk2⟩ := List.mem_flatMap.mp hk
  obtain ⟨t, ht, hk3⟩ := List.mem_flatMap.mp hk2
  rcases List.mem_append.mp ha with ha | ha
  · exact ((h7 a ha).sm t ht).1 k hk3
  · obtain rfl : a = o.gl := by simpa using ha
    exact (g7.sm t ht).1 k hk3
/-- the list of a saying, of another and of a BINDING -/
theorem three {K : PySem.W.Frag} {H : Hp} {vs vo : V} {a l : Addr} {s o : Sy} {bd : Bd} (S : SyAt H vs s) (so : SyOk s) (O : SyAt H vo o) (oo : SyOk o) (B : BdAt H a bd) (num : ∀ p ∈ bd, 0 ≤ p.1 ∧ p.1 ≤ 99) (f7 : ∀ p ∈ bd, p.2.small ∧ p.2.size ≤ 7) (few : bd.length ≤ 60)
    (hl : H l = some (.lst [vs, vo, .ref a])) : Dp K H (.ref l) (.list [syD s, syD o, bdD bd]) ∧ (PyData.list [syD s, syD o, bdD bd]).showable = true ∧ (PyData.list [syD s, syD o, bdD bd]).hasDict = false ∧ (PyData.list [syD s, syD o, bdD bd]).depth ≤ 64 ∧ (PyData.list [syD s, syD o, bdD bd]).shown.length ≤ sizeLine := by
  have D1 : DAt H 0 vs (syD s) := S.dat
  have D2 : DAt H 0 vo (syD o) := O.dat
  have D3 : DAt H 0 (.ref a) (bdD bd) := B.dat
  have f1 := fq_sy50 so
  have f2 := fq_sy50 oo
  have f3 := fq_bd num f7 few
  have fq : Fq 54 60 7 (.list [syD s, syD o, bdD bd]) := fq_list.mpr ⟨by simp, fun d hd => by
    simp only [List.mem_cons, List.not_mem_nil, or_false] at hd
    rcases hd with rfl | rfl | rfl
    · exact f1.1.more (by omega) (by omega) (by omega)
    · exact f2.1.more (by omega) (by omega) (by omega)
    · exact f3.1.more (by omega) (by omega) (by omega)⟩
  have N : (PyData.list [syD s, syD o, bdD bd]).hasDict = false := by
    simp only [PyData.hasDict, PyData.hasDictAll, D1.nodict, D2.nodict, D3.nodict]
    rfl
  refine ⟨.lst (.inl (.inl hl)) (.cons D1.dp (.cons D2.dp (.cons D3.dp .nil))), fq_shownL fq N (by decide) (by decide) ?_⟩
  simp only [nd, ndAll]
  omega
theorem Wsh.extB {T : List NTab} {H H' : Hp} {b d p : Addr} {ws : List Str} {kvs : KVs} {j : Nat} (W : Wsh H b d p ws kvs) (B : BoxAt H b j) (e : ExtB T b H H') : Wsh H' b d p ws kvs :=
  ⟨e.ext _ _ W.hd (W.db B) (fun ps z => by cases z), W.sh, e.ext _ _ W.hp W.pb (fun ps z => by cases z), W.pb, W.one, W.four⟩
theorem tups_ext {T : List NTab} {H H' : Hp} (e : Ext T H H') : Tups H H' := e.tups
end Rp

set_option maxHeartbeats 16000000
/-! The law k24. -/
namespace Rp
open PySem PySem.Spec PyProof.Rows L2 TL RZ StX NdefX LamX PpSet
def spLaw (T : List NTab) (K : PySem.W.Frag) : Sp := fun vs H Q _ => ∃ (a : Addr) (ns : List Int), vs = [.ref a] ∧ SqL K H a (ns.map V.int) ∧ ns.length ≤ 63 ∧ TabsN T H ∧ ∀ H', Q (.bl true) H'
theorem hu66 {A : Around} {k : Nat} (hr : Room k A) : A.units + 66 < cLine := by have := hr.un; omega
theorem bool_iff {a b : Bool} {p : Prop} (h : a = true ↔ p) (h' : b = true ↔ p) : a = b := by
  cases a <;> cases b <;> simp_all
theorem alike_bls {H : Hp} {d e : Addr} {x y : Bool} (hd : H d = some (.lst [.bl x, .bl y])) (he : H e = some (.lst [.bl x, .bl y])) : Alike H 1 (.ref d) (.ref e) := by
  unfold Alike
  refine .inr ⟨d, e, _, _, rfl, rfl, .inl ⟨hd, he⟩, rfl, by simp, fun i u v h1 h2 => ?_⟩
  obtain rfl : u = v := Option.some.inj (h1.symm.trans h2)
  match i with
  | 0 => simp at h1; subst h1; exact alike_plain trivial
  | 1 => simp at h1; subst h1; exact alike_plain trivial
  | i + 2 => simp at h1
theorem ne_strD {a b : Str} (h : a = b) : V.bl (!decide (V.str a = V.str b)) = V.bl false := by rw [h, decide_eq_true rfl]; rfl
theorem BoxAt.ext {T : List NTab} {H H' : Hp} {b : Addr} {j : Nat} (B : BoxAt H b j) (e : Ext T H H') : BoxAt H' b j := by
  obtain ⟨x, y, z, h, r⟩ := B.ex
  exact ⟨x, y, z, e.lst h, r⟩
theorem cut_k {xs : List V} {n : Nat} {a : Int} (h : a = (n : Int)) : cutV xs none (some a) = xs.take n := by subst h; exact cut_to n
def teBd : TE := tTup (tCons (tVar 13) (tCons (tCall (spLTerm 3) [] E0 (tCons (tVar 2) (tCons (tLst (tCons (tC (.int 0)) (tCons (tC (.int 3)) (tCons (tC (.int 4)) tNil)))) (tCons (tCall spTake [] E0 (tCons (tVar 2) (tCons (tC (.int 3)) tNil))) tNil)))) tNil))
theorem ExtB.tupsB {T : List NTab} {b : Addr} {H H' : Hp} {j : Nat} (B : BoxAt H b j) (e : ExtB T b H H') : Tups H H' := let ⟨_, h⟩ := B.some; e.tups h
theorem ExtB.box {T : List NTab} {b : Addr} {H H1 H2 : Hp} {xs : List V} (e : ExtB T b H H1) (hb : H1 b = some (.lst xs)) (o : But b H1 H2) : ExtB T b H H2 := e.trans (ExtB.but e.tab hb o)
theorem comes_one {s o : Sy} {bd : Bd} {x y : Bool} (h : x = true ↔ Comes s o bd) (h' : y = true ↔ Comes s o bd) : x = y := bool_iff h h'
section
variable {P : Program} {w : World} {K : PySem.W.Frag} {mg : Str → Option Value} {base : Heap}
abbrev NLw : List Str := ["_law_script", "_law_k", "_law_box_here", "_law_words", "_law_shapes_here", "_law_rules_here", "_law_turn", "_law_other", "_law_binding", "_law_saying_here", "_law_before", "_law_told", "_law_due", "_law_one"]
theorem scLaw : FnScope NLw ["_law_script"] (defScope sLaw) := ⟨rfl, rfl, rfl, by decide +kernel, rfl, by decide +kernel, by decide +kernel⟩
theorem ok_law {T : List NTab} {f fB fG fSa fT fTm fSp fGr fBe fIt fLC fCo fS : Addr} {fd dB dG dSa dT dTm dSp dGr dBe dIt dLC dCo dS : FuncData} (F : Fun K "law" "law" sLaw f fd)
    (GB : FnOk P w K mg base CX0 1 fB dB ["_law_script", "_law_k"] (spBox K)) (kB : PySem.W.keepIn K (.ref fB) = true) (bB : Binds K dB ["_law_script", "_law_k"] []) (mB : mg "_law_box" = some (.ref fB))
    (GG : FnOk P w K mg base CX0 5 fG dG ["_law_box_here", "_law_count"] spBegin) (kG : PySem.W.keepIn K (.ref fG) = true) (bG : Binds K dG ["_law_box_here", "_law_count"] []) (mG : mg "_law_begin" = some (.ref fG))
    (GSa : FnOk P w K mg base CX0 7 fSa dSa ["_law_box_here", "_law_shapes_here", "_law_names_here", "_law_pool", "_law_count"] spSayingL) (kSa : PySem.W.keepIn K (.ref fSa) = true) (bSa : Binds K dSa ["_law_box_here", "_law_shapes_here", "_law_names_here", "_law_pool", "_law_count"] []) (mSa : mg "_law_saying" = some (.ref fSa))
    (GT : FnOk P w K mg base CX0 1 fT dT ["_law_box_here", "_law_reach"] spTake) (kT : PySem.W.keepIn K (.ref fT) = true) (bT : Binds K dT ["_law_box_here", "_law_reach"] []) (mT : mg "_law_take" = some (.ref fT))
    (GTm : FnOk P w K mg base CX0 5 fTm dTm ["_law_box_here", "_law_pool", "_law_deep"] (spLTerm 3)) (kTm : PySem.W.keepIn K (.ref fTm) = true) (bTm : Binds K dTm ["_law_box_here", "_law_pool", "_law_deep"] []) (mTm : mg "_law_term" = some (.ref fTm))
    (GSp : FnOk P w K mg base CX0 12 fSp dSp ["_law_thing"] (spSpots 12)) (kSp : PySem.W.keepIn K (.ref fSp) = true) (bSp : Binds K dSp ["_law_thing"] []) (mSp : mg "_law_spots" = some (.ref fSp))
    (GGr : FnOk P w K mg base CX0 10 fGr dGr ["_law_box_here", "_law_other", "_law_binding", "_law_shapes_here", "_law_words"] spGrown) (kGr : PySem.W.keepIn K (.ref fGr) = true) (bGr : Binds K dGr ["_law_box_here", "_law_other", "_law_binding", "_law_shapes_here", "_law_words"] []) (mGr : mg "_law_grown" = some (.ref fGr))
    (GBe : FnOk P w K mg base CX0 2 fBe dBe ["_law_box_here", "_law_binding"] spBentB) (kBe : PySem.W.keepIn K (.ref fBe) = true) (bBe : Binds K dBe ["_law_box_here", "_law_binding"] []) (mBe : mg "_law_bent_binding" = some (.ref fBe))
    (GIt : FnOk P w K mg base CX0 13 fIt dIt ["_law_saying_here"] spItself) (kIt : PySem.W.keepIn K (.ref fIt) = true) (bIt : Binds K dIt ["_law_saying_here"] []) (mIt : mg "_law_itself" = some (.ref fIt))
    (GLC : FnOk P w K mg base CX0 13 fLC dLC ["_law_saying_here", "_law_other", "_law_binding"] spLComes) (kLC : PySem.W.keepIn K (.ref fLC) = true) (bLC : Binds K dLC ["_law_saying_here", "_law_other", "_law_binding"] []) (mLC : mg "_law_comes_of" = some (.ref fLC))
    (GCo : FnOk P w K mg base CX0 7 fCo dCo ["saying", "other", "binding"] (spComes T)) (kCo : PySem.W.keepIn K (.ref fCo) = true) (bCo : Binds K dCo ["saying", "other", "binding"] []) (mCo : mg "comes_of" = some (.ref fCo))
    (GS : FnOk P w K mg base CX0 2 fS dS ["_law_found", "_law_due"] (spSame 2)) (kS : PySem.W.keepIn K (.ref fS) = true) (bS : Binds K dS ["_law_found", "_law_due"] []) (mS : mg "_law_same" = some (.ref fS))
    (mRange : mg "range" = none) (mMax : mg "max" = none) (mMin : mg "min" = none) (mLen : mg "len" = none) (mTuple : mg "tuple" = none) (mRepr : mg "repr" = none) : GnOk P w K mg base 66 f fd ["_law_script"] (spLaw T K) := by
  refine gok F scLaw (fun vs H Q E h => ?_) (fun cdv A outer s H vs Q E hg hr h => ?_)
  · obtain ⟨a, ns, rfl, _⟩ := h
    rfl
  obtain ⟨a, ns, rfl, hS, hl, hT, q⟩ := h
  have r1 : Room 1 _ := hr.mono (by decide)
  have r2 : Room 2 _ := hr.mono (by decide)
  have r5 : Room 5 _ := hr.mono (by decide)
  have r7 : Room 7 _ := hr.mono (by decide)
  have r10 : Room 10 _ := hr.mono (by decide)
  have r12 : Room 12 _ := hr.mono (by decide)
  have r13 : Room 13 _ := hr.mono (by decide)
  refine ⟨_, (pss_cons (ps_for PassesOwn.never rfl (pi_range1 (by rfl) mRange (pa_cons (pe_callB (call_max2 rfl) (by rfl) mMax (by decide +kernel) (pa_cons pe_int (pa_cons (pe_callB (call_min2 rfl) (by rfl) mMin (by decide +kernel) (pa_cons pe_int (pa_cons (pe_callB call_len_seq (by rfl) mLen PySem.boot_len (pa_cons (pv 0) pa_nil)) pa_nil))) pa_nil))) pa_nil)) (pg_name (i := 1) scLaw.nd rfl (Or.inl rfl)) (pss_cons (ps_set (i := 2) scLaw.nd rfl (Or.inr rfl) (pe_call GB r1 rfl mB kB bB .nil pass0 (pa_cons (pv 0) (pa_cons (pv 1) pa_nil))))
    (pss_cons (ps_asg (pe_call GG r5 rfl mG kG bG .nil pass0 (pa_cons (pv 2) (pa_cons pe_int pa_nil))) (pg_tup (by rfl) (pgs_cons (pg_name (i := 3) scLaw.nd rfl (Or.inl rfl)) (pgs_cons (pg_name (i := 4) scLaw.nd rfl (Or.inl rfl)) (pgs_cons (pg_name (i := 5) scLaw.nd rfl (Or.inl rfl)) pgs_nil)))))
    (pss_one (ps_for PassesOwn.never rfl (pi_range1 (by rfl) mRange (pa_cons pe_int pa_nil)) (pg_name (i := 6) scLaw.nd rfl (Or.inl rfl)) (pss_cons (ps_set (i := 7) scLaw.nd rfl (Or.inl rfl) (pe_call GSa r7 rfl mSa kSa bSa .nil pass0 (pa_cons (pv 2) (pa_cons (pv 4) (pa_cons (pv 3) (pa_cons (pe_slice sl_list (pe_lst (pa_cons pe_int (pa_cons pe_int (pa_cons pe_int pa_nil)))) po_none (po_some (pe_call GT r1 rfl mT kT bT .nil pass0 (pa_cons (pv 2) (pa_cons pe_int pa_nil))))) (pa_cons pe_int pa_nil)))))))
    (pss_cons (ps_set (i := 8) scLaw.nd rfl (Or.inl rfl) (pe_callTy cr_tupF (by rfl) mTuple (by decide +kernel) (pa_cons (pe_lc (own := [("_law_one", 13)]) (g := gName 13) (tt := tYes) (te := teBd) rfl scLaw.nd (pi_list (pe_call GSp r12 (by rfl) mSp kSp bSp .nil pass0 (pa_cons (pv 7) pa_nil))) (blkOk_by (N := NLw) (sc := defScope sLaw) (by decide +kernel)) (fun _ _ _ _ _ => (pg_name (i := 13) scLaw.nd rfl (Or.inl rfl))) (fun _ _ _ _ _ => pts_nil) (fun _ _ _ _ _ => (pe_tup (pa_cons (pv 13) (pa_cons (pe_call GTm r5 (by rfl) mTm kTm bTm .nil pass0 (pa_cons (pv 2) (pa_cons (pe_lst (pa_cons pe_int (pa_cons pe_int (pa_cons pe_int pa_nil)))) (pa_cons (pe_call GT r1 (by rfl) mT kT bT .nil pass0 (pa_cons (pv 2) (pa_cons pe_int pa_nil))) pa_nil)))) pa_nil))))) pa_nil)))
    (pss_cons (ps_set (i := 9) scLaw.nd rfl (Or.inl rfl) (pe_call GGr r10 rfl mGr kGr bGr .nil pass0 (pa_cons (pv 2) (pa_cons (pv 7) (pa_cons (pv 8) (pa_cons (pv 4) (pa_cons (pv 3) pa_nil)))))))
    (pss_cons (ps_set (i := 10) scLaw.nd rfl (Or.inl rfl) (pe_callB (cr_reprD hg (hu66 hr)) (by rfl) mRepr (by decide +kernel) (pa_cons (pe_lst (pa_cons (pv 9) (pa_cons (pv 7) (pa_cons (pv 8) pa_nil)))) pa_nil)))
    (pss_cons (ps_for PassesOwn.never rfl (pi_tup (pe_tup (pa_cons (pv 8) (pa_cons (pe_call GBe r2 rfl mBe kBe bBe .nil pass0 (pa_cons (pv 2) (pa_cons (pv 8) pa_nil))) (pa_cons (pe_tupF pa_nil) (pa_cons (pe_call GIt r13 rfl mIt kIt bIt .nil pass0 (pa_cons (pv 7) pa_nil)) pa_nil)))))) (pg_name (i := 11) scLaw.nd rfl (Or.inl rfl)) (pss_cons (ps_set (i := 12) scLaw.nd rfl (Or.inl rfl) (pe_call GLC r13 rfl mLC kLC bLC .nil pass0 (pa_cons (pv 9) (pa_cons (pv 7) (pa_cons (pv 11) pa_nil)))))
    (pss_one (ps_if (pt_not (pt_val (pe_call GS r2 rfl mS kS bS .nil pass0 (pa_cons (pe_lst (pa_cons (pe_call GCo r7 rfl mCo kCo bCo .nil pass0 (pa_cons (pv 9) (pa_cons (pv 7) (pa_cons (pv 11) pa_nil)))) (pa_cons (pe_call GCo r7 rfl mCo kCo bCo .nil pass0 (pa_cons (pv 9) (pa_cons (pv 7) (pa_cons (pv 11) pa_nil)))) pa_nil))) (pa_cons (pe_lst (pa_cons (pv 12) (pa_cons (pv 12) pa_nil))) pa_nil))))) (pss_one (ps_ret pe_bl)) pss_nil))))
    (pss_one (ps_if (PW.pt (pw_or (pt_cmpR op_notBl (pe_call GCo r7 rfl mCo kCo bCo .nil pass0 (pa_cons (pv 7) (pa_cons (pv 7) (pa_cons (pe_call GIt r13 rfl mIt kIt bIt .nil pass0 (pa_cons (pv 7) pa_nil)) pa_nil)))) pe_bl (nomark _)) (pw_or1 (pt_cmpR op_ne (pe_callB (cr_reprD hg (hu66 hr)) (by rfl) mRepr (by decide +kernel) (pa_cons (pe_lst (pa_cons (pv 9) (pa_cons (pv 7) (pa_cons (pv 8) pa_nil)))) pa_nil)) (pv 10) (nomark _))))) (pss_one (ps_ret pe_bl)) pss_nil))))))))))))
    (pss_one (ps_ret pe_bl))), ?_⟩
  have big : (10000 : Nat) ≤ sizeLine := by decide
  have lim : ∀ n : Int, 0 ≤ n → 0 ≤ (if (if n < 6 then n else 6) > (1 : Int) then (if n < 6 then n else 6) else 1) ∧ (if (if n < 6 then n else 6) > (1 : Int) then (if n < 6 then n else 6) else 1) ≤ 6 := by
    intro n hn
    split <;> split <;> omega
  have lim2 := lim (((ns.map V.int).length : Nat) : Int) (by omega)
  refine ⟨_, rfl, a, _, rfl, .inl hS, _, _, rfl, _, _, rfl, _, rfl, by omega, by omega, for_range (lo := 0) (fun i σ H3 => ∃ (y1 y2 y3 y4 y5 y6 y7 y8 y9 y10 y11 y12 y13 : Option V), σ = [some (.ref a), y1, y2, y3, y4, y5, y6, y7, y8, y9, y10, y11, y12, y13] ∧ SqL K H3 a (ns.map V.int) ∧ TabsN T H3)
    ⟨_, _, _, _, _, _, _, _, _, _, _, _, _, rfl, hS, hT⟩ ?_ (fun σ H3 ⟨_, _, _, _, _, _, _, _, _, _, _, _, _, e, _⟩ => q H3)⟩
  rintro i σ H3 hi ⟨y1, y2, y3, y4, y5, y6, y7, y8, y9, y10, y11, y12, y13, rfl, hS3, hT3⟩
  have i6 : (i : Int) < 6 := by omega
  clear lim lim2 hS hT
  refine ⟨_, rfl, _, rfl, a, ns, _, rfl, hS3, hl, by omega, by omega, fun b H4 hb B4 s4 => ?_⟩
  refine ⟨_, rfl, b, _, 1, rfl, by decide, by decide, B4, by decide, fun t d p r ws kvs H5 ht5 W5 wo B5 o5 => ?_⟩
  refine ⟨t, _, rfl, .inl (.inl ht5), rfl, _, _, rfl, _, _, rfl, _, _, rfl, rfl, ?_⟩
  have hT5 : TabsN T H5 := tabs_but (hT3.ext s4) B4.some.choose_spec o5
  refine ⟨4, rfl, by decide, by decide, for_range (lo := 0) (n := 4) (fun n σ H6 => ∃ (x6 x7 x8 x9 x10 x11 x12 x13 : Option V), σ = [some (.ref a), some (.int (0 + (i : Int))), some (.ref b), some (.ref p), some (.ref d), some r, x6, x7, x8, x9, x10, x11, x12, x13] ∧ ExtB T b H5 H6 ∧ BoxAt H6 b (280 + 1500 * n))
    ⟨_, _, _, _, _, _, _, _, rfl, ExtB.refl hT5, B5.more (by omega)⟩ ?_ ?_⟩
  · rintro n σ H6 hn ⟨x6, x7, x8, x9, x10, x11, x12, x13, rfl, e6, B6⟩
    have W6 := W5.extB B5 e6
    -- the other
    refine ⟨_, rfl, _, rfl, _, rfl, (by show 3 ≤ sizeLine; decide), fun g1 hg1 => ?_⟩
    have s7 := same_new hg1 (.lst [V.int 0, V.int 1, V.int 2])
    have hg7 : (upd H6 g1 (.lst [V.int 0, V.int 1, V.int 2])) g1 = some (.lst [V.int 0, V.int 1, V.int 2]) := upd_same
    have g1b : g1 ≠ b := ne_box B6 hg1
    have B7 := B6.same s7
    have W7 := W6.but B6 (but_of s7)
    generalize upd H6 g1 (.lst [V.int 0, V.int 1, V.int 2]) = H7 at s7 hg7 B7 W7 ⊢
    refine ⟨_, rfl, b, _, _, rfl, B7, by omega, by decide, by decide, fun c H8 c0 c1 B8 o8 => ?_⟩
    obtain ⟨m, rfl⟩ := Int.eq_ofNat_of_zero_le c0
    refine ⟨_, rfl, g1, _, rfl, .inl (.inl (o8 _ _ hg7 g1b)), fun pp hpp => ?_⟩
    have s9 := same_new hpp (.lst (cutV [V.int 0, V.int 1, V.int 2] none (some (m : Int))))
    have hp9 : (upd H8 pp (.lst (cutV [V.int 0, V.int 1, V.int 2] none (some (m : Int))))) pp = some (.lst ((([0, 1, 2] : List Int).take m).map V.int)) := by
      rw [upd_same, cut_to, List.map_take]; rfl
    have ppb : pp ≠ b := ne_box B8 hpp
    have B9 := B8.same s9
    have W8 := W7.but B7 o8
    have W9 := W8.but B8 (but_of s9)
    have o69 := (but_of s7).trans (o8.trans (but_of s9))
    generalize upd H8 pp (.lst (cutV [V.int 0, V.int 1, V.int 2] none (some (m : Int)))) = H9 at s9 hp9 B9 W9 o69 ⊢
    have W9' : Wrd H9 b d p pp ws (([0, 1, 2] : List Int).take m) kvs := ⟨W9.hd, W9.sh, W9.hp, hp9, fun k hk => by
      have := List.mem_of_mem_take hk
      simp only [List.mem_cons, List.not_mem_nil, or_false] at this
      omega, by rw [List.length_take]; simp; omega, W9.pb, ppb, wo, W9.one, W9.four⟩
    refine ⟨b, d, p, pp, ws, _, kvs, _, 4, rfl, B9, W9', by decide, by omega, fun vo oy H10 O10 oo h4 h7 g7 B10 o10 => ?_⟩
    have o610 := o69.trans o10
    -- its BINDING
    obtain ⟨fq, ndS, _⟩ := fq_sy oo h7 g7
    have dpS := fq.dp
    obtain ⟨okn, dnn⟩ := dNums_sy oy
    have dl5 := syNums_few oo h7 g7
    refine ⟨_, rfl, (0 : Nat), _, syD oy, rfl, O10.dat, okn, by omega, by rw [dnn]; omega, by omega, fun gl ms H11 hgl0 hgl up mem s11 => ?_⟩
    rw [dnn] at mem
    have ml := rising_few up fun k hk => (mem k).1 hk
    have mnd : ms.Nodup := up.imp fun {x y} h => by omega
    have glb : gl ≠ b := ne_box B10 hgl0
    have B11 := B10.same s11
    refine ⟨gl, rfl, ⟨_, .inl (.inl hgl)⟩, fun D hD => lc_list (K := K) (a := gl) (xs := ms.map V.int) (fun i H2 => ∃ (ps : List Addr) (bd : Bd), H2 D = some (.lst (ps.map V.ref)) ∧ Paired (PrAt H2) ps bd ∧ bd.map (·.1) = ms.take i ∧ (∀ p ∈ bd, p.2.small ∧ p.2.size ≤ 7) ∧ BoxAt H2 b (280 + 1500 * n + 301 + 17 * i) ∧ But b H11 H2)
      ⟨[], [], upd_same, .nil, by simp, by simp, (B11.same (same_new hD _)).more (by omega), but_of (same_new hD _)⟩ (fun i H2 _ ⟨_, _, _, _, _, _, _, o⟩ => .inl (.inl (o _ _ hgl glb))) ?_ ?_⟩
    · rintro e y H2 hy ⟨ps, bd, h2, P2, km, f7, B2, o2⟩
      have Db : D ≠ b := ne_box B11 hD
      obtain ⟨k, hk, rfl⟩ : ∃ k, ms[e]? = some k ∧ y = .int k := by
        rw [List.getElem?_map] at hy
        cases hq : ms[e]? with
        | none => rw [hq] at hy; cases hy
        | some k => rw [hq] at hy; exact ⟨k, rfl, by simpa using hy.symm⟩
      have li : e < ms.length := (List.getElem?_eq_some_iff.mp hk).1
      have pl2 := paired_len P2
      have kl := congrArg List.length km
      rw [List.length_map, List.length_take] at kl
      refine ⟨rfl, ?_⟩
      unfold teBd
      refine ⟨_, rfl, _, rfl, (by show 3 ≤ sizeLine; decide), fun g hg => ?_⟩
      have s3 := same_new hg (.lst [V.int 0, V.int 3, V.int 4])
      have hg3 : (upd H2 g (.lst [V.int 0, V.int 3, V.int 4])) g = some (.lst (([0, 3, 4] : List Int).map V.int)) := upd_same
      have gb : g ≠ b := ne_box B2 hg
      have B3 := B2.same s3
      generalize upd H2 g (.lst [V.int 0, V.int 3, V.int 4]) = H3' at s3 hg3 B3 ⊢
      refine ⟨_, rfl, b, _, _, rfl, B3, by omega, by decide, by decide, fun z H4' z0 z1 B4' o4 => ?_⟩
      obtain ⟨mz, rfl⟩ := Int.eq_ofNat_of_zero_le z0
      have m2 : mz ≤ 2 := by omega
      have pw1 : 2 ^ mz ≤ 2 ^ 2 := Nat.pow_le_pow_right (by decide) m2
      have pw2 : 2 ^ (mz + 1) ≤ 2 ^ 3 := Nat.pow_le_pow_right (by decide) (by omega)
      refine ⟨b, g, [0, 3, 4], _, mz, rfl, B4', o4 _ _ hg3 gb, by decide, by decide, gb, by omega, m2, by omega, fun v t H5' T5 sm sz B5' o5' => ⟨(by show 2 ≤ sizeLine; decide), fun c hc => ?_⟩⟩
      have s6 := same_new hc (.tup [V.int k, v])
      have o25 := (but_of s3).trans (o4.trans o5')
      have h6 := s6 _ _ (o25 _ _ h2 Db)
      have cD : c ≠ D := (ne_of_none (o25 _ _ h2 Db) hc).symm
      have u67 : Tups (upd H5' c (.tup [V.int k, v])) (upd (upd H5' c (.tup [V.int k, v])) D (.lst (ps.map V.ref ++ [.ref c]))) := Tups.but (but_upd _) h6
      have u27 := ((Tups.but o25 B2.some.choose_spec).trans (Tups.same s6)).trans u67
      refine ⟨ps.map V.ref, h6, by rw [List.length_map]; omega, ps ++ [c], bd ++ [(k, t)], by rw [upd_same, List.map_append]; rfl, Paired.snoc2 (L2.Paired.mapP P2 fun _ _ z => z.mono u27.1) ⟨v, by rw [upd_ne cD, upd_same], (T5.same s6).mono u67.1⟩, ?_, fun p' hp => ?_, ((B5'.same s6).upd Db _).more (by omega), but_new hD o2 fun x u hx nb => s6 _ _ (o25 _ _ hx nb)⟩
      · rw [List.map_append, km, List.take_add_one, hk]; rfl
      · rcases List.mem_append.mp hp with hp | hp
        · exact f7 p' hp
        · obtain rfl : p' = (k, t) := by simpa using hp
          exact ⟨sm, by show t.size ≤ 7; omega⟩
    rintro H2 ⟨ps, bd, h2, P2, km, f7, B2, o2⟩
    rw [List.length_map, List.take_length] at km
    rw [List.length_map] at B2
    have kl := congrArg List.length km
    rw [List.length_map] at kl
    refine ⟨D, ps.map V.ref, rfl, .inl (.inl h2), fun ab ob od hab => ?_⟩
    have s12 := same_new hab (.frz ob (.tup (ps.map V.ref)))
    have Bd12 : BdAt (upd H2 ab (.frz ob (.tup (ps.map V.ref)))) ab bd := ⟨ps, ⟨ob, od, upd_same⟩, L2.Paired.mapP P2 fun _ _ z => z.mono (Tups.same s12).1, by rw [km]; exact mnd, by omega⟩
    have B12 : BoxAt (upd H2 ab (.frz ob (.tup (ps.map V.ref)))) b (280 + 1500 * n + 1260) := (B2.same s12).more (by omega)
    have o1012 := (but_of s11).trans (o2.trans (but_of s12))
    generalize upd H2 ab (.frz ob (.tup (ps.map V.ref))) = H12 at s12 Bd12 B12 o1012 ⊢
    have O12 := syAt_mono (keepB B10 o1012) O10
    have o612 := o610.trans o1012
    have W12 := W6.but B6 o612
    have num : ∀ p ∈ bd, 0 ≤ p.1 ∧ p.1 ≤ 99 := fun p hp => nums_small h7 g7 p.1 ((mem p.1).1 (by rw [← km]; exact List.mem_map_of_mem hp))
    have bl : bd.length ≤ 60 := by omega
    have fb : BdF bd := ⟨fun p hp => ⟨(f7 p hp).1, by have := (f7 p hp).2; omega⟩⟩
    clear P2 h2 B2 o2 hgl hgl0 up s11 B11 hab s12 hD O10 hp9 hg7
    -- the saying
    refine ⟨_, rfl, _, rfl, _, rfl, _, rfl, _, rfl, b, vo, ab, d, p, ws, kvs, _, oy, bd, rfl, B12, O12, oo, h7, g7, h4, Bd12, fb, W12, wo, by omega, fun vs sy H13 S13 so B13 o13 => ?_⟩
    have u13 : Tups H12 H13 := Tups.but o13 B12.some.choose_spec
    have O13 := SyAt.tups u13 O12
    have Bd13 := Bd12.mono u13
    have o613 := o612.trans o13
    -- shown
    refine ⟨_, rfl, _, rfl, _, rfl, (by show 3 ≤ sizeLine; decide), fun l1 hl1 => ?_⟩
    have s14 := same_new hl1 (.lst [vs, vo, V.ref ab])
    obtain ⟨sh0, sh1, sh2, sh3, sh4⟩ := three (K := K) (S13.same s14) so (O13.same s14) oo (Bd13.mono (Tups.same s14)) num f7 bl upd_same
    refine ⟨_, _, rfl, sh0, sh1, sh2, sh3, sh4, ?_⟩
    have S14 := S13.same s14
    have O14 := O13.same s14
    have Bd14 := Bd13.mono (Tups.same s14)
    have B14 := B13.same s14
    have o614 := o613.trans (but_of s14)
    generalize upd H13 l1 (.lst [vs, vo, V.ref ab]) = H14 at s14 S14 O14 Bd14 B14 o614 ⊢
    -- what is told
    refine ⟨_, rfl, _, rfl, _, rfl, b, ab, bd, _, rfl, B14, Bd14, f7, bl, by omega, fun a1 bd1 H15 Bd1 fb1 B15 o15 => ?_⟩
    refine ⟨(by show 0 ≤ sizeLine; decide), fun a2 oe od hea => ?_⟩
    have s16 := same_new hea (.frz oe (.tup ([] : List V)))
    have Bd2 : BdAt (upd H15 a2 (.frz oe (.tup ([] : List V)))) a2 [] := ⟨[], ⟨oe, od, upd_same⟩, .nil, by simp, by simp⟩
    have u1416 : Tups H14 (upd H15 a2 (.frz oe (.tup ([] : List V)))) := (Tups.but o15 B14.some.choose_spec).trans (Tups.same s16)
    have O16 := SyAt.tups u1416 O14
    refine ⟨_, rfl, _, oy, rfl, O16, oo, h7, g7, fun a3 bd3 H17 Bd3 fb3 _ s17 => ⟨(by show 4 ≤ sizeLine; decide), fun tt htt => ?_⟩⟩
    have s18 := same_new htt (.tup [V.ref ab, V.ref a1, V.ref a2, V.ref a3])
    have htt18 : (upd H17 tt (.tup [V.ref ab, V.ref a1, V.ref a2, V.ref a3])) tt = some (.tup [V.ref ab, V.ref a1, V.ref a2, V.ref a3]) := upd_same
    have s1618 := s17.trans s18
    have B18 := ((B15.same s16).same s17).same s18
    have u1418 := u1416.trans (Tups.same s1618)
    have S18 := SyAt.tups u1418 S14
    have O18 := SyAt.tups u1418 O14
    have told : ∀ x ∈ [V.ref ab, V.ref a1, V.ref a2, V.ref a3], ∃ (c : Addr) (e : Bd), x = .ref c ∧ BdAt (upd H17 tt (.tup [V.ref ab, V.ref a1, V.ref a2, V.ref a3])) c e ∧ BdF e := by
      intro x hx
      simp only [List.mem_cons, List.not_mem_nil, or_false] at hx
      rcases hx with rfl | rfl | rfl | rfl
      · exact ⟨ab, bd, rfl, Bd14.mono u1418, fb⟩
      · exact ⟨a1, bd1, rfl, Bd1.mono (Tups.same (s16.trans s1618)), fb1⟩
      · exact ⟨a2, [], rfl, Bd2.mono (Tups.same s1618), ⟨by simp⟩⟩
      · exact ⟨a3, bd3, rfl, Bd3.mono (Tups.same s18), fb3⟩
    have Bd18 := Bd14.mono u1418
    have o618 := o614.trans (o15.trans (but_of (s16.trans s1618)))
    generalize upd H17 tt (.tup [V.ref ab, V.ref a1, V.ref a2, V.ref a3]) = H18 at s18 htt18 s1618 B18 u1418 S18 O18 told Bd18 o618 ⊢
    have e18 : ExtB T b H5 H18 := e6.box B6.some.choose_spec o618
    have B18' : BoxAt H18 b (280 + 1500 * (n + 1)) := B18.more (by omega)
    clear u1418 u1416 s1618 Bd1 Bd2 Bd3 B15 o15 s16 s17 O16 O14 S14 Bd14 B14 o614 Bd13 O13 S13 Bd12 O12 B12 u13 B18 s14 s18
    generalize [V.ref ab, V.ref a1, V.ref a2, V.ref a3] = ts at htt18 told
    refine ⟨tt, rfl, ⟨_, .inl (.inl htt18)⟩, for_tup (K := K) (a := tt) (xs := ts) (fun e σ H19 => ∃ (z11 z12 : Option V), σ = [some (.ref a), some (.int (0 + (i : Int))), some (.ref b), some (.ref p), some (.ref d), some r, some (.int (0 + (n : Int))), some vo, some (.ref ab), some vs, some (.str (PyData.list [syD sy, syD oy, bdD bd]).shown), z11, z12, x13] ∧ Ext T H18 H19)
      ⟨_, _, rfl, Ext.same e18.tab (Same.refl _)⟩ (fun e σ H19 _ ⟨_, _, _, e19⟩ => .inl (.inl (e19.tups.1 _ _ htt18))) ?_ ?_⟩
    · rintro e x σ H19 hx ⟨z11, z12, rfl, e19⟩
      obtain ⟨c, be, rfl, Bc, fc⟩ := told x (List.mem_of_getElem? hx)
      have S19 := SyAt.tups e19.tups S18
      have O19 := SyAt.tups e19.tups O18
      have Bc19 := Bc.mono e19.tups
      refine ⟨_, rfl, _, rfl, _, rfl, vs, vo, c, sy, oy, be, rfl, S19, so, O19, oo, h7, g7, Bc19, fc, fun due H20 i20 s20 => ?_⟩
      have e20 := e19.trans (Ext.same e19.tab s20)
      refine ⟨_, rfl, _, rfl, _, rfl, vs, vo, c, sy, oy, be, rfl, SyAt.tups e20.tups S18, so, SyAt.tups e20.tups O18, oo, h7, g7, Bc.mono e20.tups, fc, e20.tab, fun ra H21 i21 e21' => ?_⟩
      have e21 := e20.trans e21'
      obtain rfl := comes_one i20 i21
      refine ⟨_, rfl, _, rfl, _, rfl, vs, vo, c, sy, oy, be, rfl, SyAt.tups e21.tups S18, so, SyAt.tups e21.tups O18, oo, h7, g7, Bc.mono e21.tups, fc, e21.tab, fun rb H22 i22 e22' => ⟨(by show 2 ≤ sizeLine; decide), fun g1' hg1' => ?_⟩⟩
      have e22 := e21.trans e22'
      obtain rfl := comes_one i20 i22
      have s23 := same_new hg1' (.lst [V.bl due, V.bl due])
      refine ⟨_, rfl, _, rfl, (by show 2 ≤ sizeLine; decide), fun g2' hg2' => ?_⟩
      have s24 := same_new hg2' (.lst [V.bl due, V.bl due])
      refine ⟨_, _, 1, rfl, rfl, alike_bls (s24 _ _ upd_same) upd_same, fun H25 s25 => ⟨true, rfl, iteF ?_⟩⟩
      exact ⟨_, _, rfl, e22.trans (Ext.same e22.tab (s23.trans (s24.trans s25)))⟩
    rintro σ H19 ⟨z11, z12, rfl, e19⟩
    have O19 := SyAt.tups e19.tups O18
    refine ⟨_, rfl, _, rfl, _, rfl, _, oy, rfl, O19, oo, h7, g7, fun a4 bd4 H20 Bd4 fb4 cm s20 => ?_⟩
    have e20 := e19.trans (Ext.same e19.tab s20)
    have O20 := SyAt.tups e20.tups O18
    refine ⟨vo, vo, a4, oy, oy, bd4, rfl, O20, oo, O20, oo, h7, g7, Bd4, fb4, e20.tab, fun rr H21 i21 e21' => ?_⟩
    have e21 := e20.trans e21'
    obtain rfl : rr = true := i21.mpr cm
    refine ⟨true, true, rfl, rfl, false, rfl, iteF ?_⟩
    refine ⟨_, rfl, _, rfl, _, rfl, (by show 3 ≤ sizeLine; decide), fun l2 hl2 => ?_⟩
    have s22 := same_new hl2 (.lst [vs, vo, V.ref ab])
    have e22 := e21.trans (Ext.same e21.tab s22)
    obtain ⟨th0, th1, th2, th3, th4⟩ := three (K := K) (SyAt.tups e22.tups S18) so (SyAt.tups e22.tups O18) oo (Bd18.mono e22.tups) num f7 bl upd_same
    refine ⟨_, _, rfl, th0, th1, th2, th3, th4, _, rfl, rfl, false, ne_strD rfl, iteF ?_⟩
    refine ⟨_, _, _, _, _, _, _, _, rfl, e18.trans e22.toB, B18'.ext e22⟩
  rintro σ H6 ⟨x6, x7, x8, x9, x10, x11, x12, x13, rfl, e6, B6⟩
  refine ⟨_, _, _, _, _, _, _, _, _, _, _, _, _, rfl, ?_, e6.tab⟩
  have keep : ∀ o, H3 a = some o → (∀ ps, o ≠ .tbl ps) → H6 a = some o := fun o z m => by
    have nb := ne_of_none z hb
    exact e6.ext _ _ (o5 _ _ (s4 _ _ z) nb) nb m
  rcases hS3 with (z | ⟨o, z⟩) | z
  · exact .inl (.inl (keep _ z fun ps e => by cases e))
  · exact .inl (.inr ⟨o, keep _ z fun ps e => by cases e⟩)
  · exact .inr z
end
end Rp

/-! The end of a law whose promise is a GnOk, and in whose run a def within a def is made: its table of code objects is tracked. -/
namespace Rp
open PySem PySem.Spec PyProof.Rows L2 LamX NdefX
/-- the law's own call; Pt: the table of the def that makes the inner one -/
theorem law_callGT {Pr : Program} {w : World} {K : PySem.W.Frag} {mg mb : Str → Option Value} {k : Nat} {fa a c Pt : Addr} {fd : FuncData} {x : Str} {sp : Sp} {s₁ : Shared} {vs : List Value} {ns : List Int}
    (KX : K.In s₁.heap) (hns : s₁.heap.Ns mainGlobals mg) (hb : s₁.heap.Ns builtinsNs mb) (hbb : ∀ x : Str, x ≠ "__name__" → mb x = bootBuiltins x) (hlim : s₁.heap.NoLimit) (hg : s₁.gens = #[])
    (hT : s₁.heap.get? Pt = some { cls := .none, data := .fields #[] }) (nT : K.lookup Pt = none) (C : PySem.W.CodeHd s₁.heap c Pt)
    (hbm : ∃ (bm : Addr) (ob : Obj), mg "__builtins__" = some (.ref bm) ∧ bm ≠ builtinsNs ∧ s₁.heap.get? bm = some ob ∧ ob.cls = .type "module" ∧ ob.dict = some builtinsNs ∧ ob.data = .plain)
    (ha : s₁.heap.get? a = some { cls := .type "list", data := .seq vs.toArray }) (hi : IntsAre vs ns) (hl : ns.length ≤ sizeLine) (hr : Room k callerA)
    (F : ∀ base : Heap, K.In base → base.Ns mainGlobals mg → TabB base mg c Pt → GnOk Pr w K mg base k fa fd [x] sp) (bind : ∀ (s : Shared) (u : Value), BindsTo s fd ⟨[u], []⟩ [(x, u)])
    (ask : ∀ H : Hp, H Pt = some (.tbl #[]) → SqL K H a (ns.map V.int) → sp [.ref a] H (fun v _ => v = .bl true) E0) :
    codeAny (model Pr w) callerA (.call (.ref fa) ⟨[.ref a], []⟩) (fun r s' => r = .ok (.ret (.bool true)) ∧ OldK s₁.heap s'.heap ∧ s'.os = s₁.os ∧ AllBare s'.gens) s₁ := by
  have rv := vals_ints hi
  have lenV := hi.length
  have aP : a ≠ Pt := by
    rintro rfl
    rw [ha] at hT
    have z : Data.seq vs.toArray _ = Data.fields #[] := congrArg Obj.data (Option.some.inj hT)
    cases z
  have from_ : ∀ H : Hp, H Pt = some (.tbl #[]) → (∀ b, b ≠ Pt → H b = none ∨ ∃ o ys, H b = some (.frz o (.lst ys))) → SqL K H a (ns.map V.int) → HOk Pr w H s₁.heap → (∀ b, H b ≠ none → b = Pt ∨ (b = a ∧ K.lookup a = none)) →
      codeAny (model Pr w) callerA (.call (.ref fa) ⟨[.ref a], []⟩) (fun r s' => r = .ok (.ret (.bool true)) ∧ OldK s₁.heap s'.heap ∧ s'.os = s₁.os ∧ AllBare s'.gens) s₁ := by
    intro H hP only hS hok hA
    have free : ∀ {b : Addr} {o : Obj}, s₁.heap.get? b = some o → o.data ≠ .fields #[] → (b = a → False) → H b = none := fun {b o} e n1 n2 => by
      cases q : H b with
      | none => rfl
      | some u =>
        rcases hA b (by rw [q]; simp) with z | z
        · subst z
          rw [hT] at e
          cases e
          exact (n1 rfl).elim
        · exact (n2 z.1).elim
    have low : ∀ {b : Addr} {o : Obj}, s₁.heap.get? b = some o → H b = none → (hidT s₁.heap H).get? b = some o := fun e n => hidT_get e n
    have apart : ∀ {b : Addr} {o : Obj}, s₁.heap.get? b = some o → (∀ us n, o.data ≠ .seq us n) → b = a → False := fun {b o} e n z => by
      subst z
      rw [ha] at e
      cases e
      exact n _ _ rfl
    have names : ∀ {b : Addr} {m : Str → Option Value}, s₁.heap.Ns b m → (hidT s₁.heap H).Ns b m := fun {b m} ⟨o, es, ep, e, d, r⟩ =>
      ⟨o, es, ep, low e (free e (by rw [d]; intro z; cases z) (apart e (by rw [d]; intro us n z; cases z))), d, r⟩
    have hK : K.In (hidT s₁.heap H) := fun b o e => low (KX b o e) (by
      cases q : H b with
      | none => rfl
      | some u =>
        rcases hA b (by rw [q]; simp) with z | ⟨z, zk⟩
        · subst z; rw [nT] at e; cases e
        · subst z; rw [zk] at e; cases e)
    have M : Mod K mg (hidT s₁.heap H) := ⟨hK, names hns, ⟨mb, names hb, hbb⟩, let ⟨mc, h1, h2⟩ := hlim; ⟨mc, names h1, h2⟩⟩
    have gP : mainGlobals ≠ Pt := by
      rintro rfl
      obtain ⟨o, es, ep, e, d, _⟩ := hns
      rw [hT] at e
      cases e
      cases d
    have TB : TabB (hidT s₁.heap H) mg c Pt := by
      refine ⟨?_, ?_, gP⟩
      · obtain ⟨o, us, file, tf, flags, tg, inF, text, tt, e1, r1, r2, r3, r4, r5, r6, r7, r8, hne⟩ := C
        refine ⟨o, us, file, tf, flags, tg, inF, text, tt, low e1 (free e1 (fun z => ?_) (apart e1 fun us n z => ?_)), r1, r2, r3, r4, r5, r6, r7, r8, hne⟩
        · rw [r2] at z
          cases z
          simp at r3
        · rw [r2] at z; cases z
      · obtain ⟨bm, ob, b1, b2, b3, b4, b5, b6⟩ := hbm
        refine ⟨bm, ob, b1, b2, fun z => ?_, fun z => ?_, low b3 (free b3 (by rw [b6]; intro z; cases z) (apart b3 (by rw [b6]; intro us n z; cases z))), b4, b5, b6⟩
        · obtain ⟨o, es, ep, e, d, _⟩ := hns
          rw [z, e] at b3
          cases b3
          rw [d] at b6; cases b6
        · rw [z, hT] at b3
          cases b3
          cases b6
    have e0 : Env0 Pr w K mg (hidT s₁.heap H) callerA [] s₁ H := ⟨rfl, M, fun b o e => of_hidT e, Nat.le_of_eq (hidT_size _ _), trivial, fun b z => absurd (show b ∈ ([] : List Addr) from z) (by simp), hok, .of_eq hg⟩
    refine codeAny_mono ((F _ hK (names hns) TB).run callerA [] s₁ H ⟨[.ref a], []⟩ [.ref a] [.ref a] _ _ rfl hr e0 (bind s₁ (.ref a)) (.cons rfl .nil) (ask H hP hS)) fun r s' h => ?_
    rcases r with e | fl
    · exact h.elim
    · rcases fl with _ | _ | _ | u
      · exact h.elim
      · exact h.elim
      · exact h.elim
      · obtain ⟨v, H', os, bare, un, hok', r', q⟩ := h
        obtain rfl : v = .bl true := q
        obtain rfl : u = Value.bool true := r'
        have same : ∀ b o, b ≠ Pt → s₁.heap.get? b = some o → s'.heap.get? b = some o := fun b o nb e => by
          cases q : H b with
          | none => exact un.keep b o e q (by intro z; exact absurd (show b ∈ ([] : List Addr) from z) (by simp)) (by simp)
          | some u =>
            rcases only b nb with z | ⟨ob, ys, z⟩
            · rw [q] at z; cases z
            · obtain ⟨e1, _⟩ := hok b _ z
              obtain ⟨e2, _⟩ := hok' b _ (un.frzs b ob _ z)
              rw [e] at e1; cases e1
              exact e2
        obtain ⟨more, grown⟩ : ∃ more : Array Value, s'.heap.get? Pt = some { cls := .none, data := .fields more } := by
          obtain ⟨more, z⟩ := un.tbls Pt #[] hP
          exact ⟨_, hok' Pt _ z⟩
        refine ⟨rfl, ⟨fun b o e => ?_, fun b o e => ?_⟩, os, bare⟩
        · by_cases nb : b = Pt
          · subst nb
            rw [hT] at e
            cases e
            exact .inr (.inl ⟨(C.tab hT).isCodeTable, rfl, #[], more, rfl, by rw [Array.empty_append]; exact grown⟩)
          · exact .inl (same b o nb e)
        · by_cases nb : b = Pt
          · subst nb
            exact ⟨_, grown⟩
          · exact ⟨o, same b o nb e⟩
  cases hk : K.lookup a with
  | some o =>
    have e := KX a o hk
    rw [ha] at e
    cases e
    refine from_ (fun b => if b = Pt then some (.tbl #[]) else none) (if_pos rfl) (fun b nb => .inl (if_neg nb)) (.inr ⟨_, vs.toArray, _, hk, rfl, rfl, rfl, by rw [List.size_toArray, lenV]; exact hl, by simpa using rv⟩) (fun b u z => ?_) fun b z => ?_
    · by_cases nb : b = Pt
      · subst nb
        have z' := (if_pos rfl).symm.trans z
        cases z'
        exact hT
      · have z' := (if_neg nb).symm.trans z
        cases z'
    · by_cases nb : b = Pt
      · exact .inl nb
      · exact absurd (if_neg nb) z
  | none =>
    refine from_ (fun b => if b = Pt then some (.tbl #[]) else if b = a then some (.frz { cls := .type "list", data := .seq vs.toArray } (.lst (ns.map V.int))) else none) (if_pos rfl) (fun b nb => ?_) (.inl (.inr ⟨_, (if_neg aP).trans (if_pos rfl)⟩)) (fun b u z => ?_) fun b z => ?_
    · by_cases n2 : b = a
      · exact .inr ⟨_, _, (if_neg nb).trans (if_pos n2)⟩
      · exact .inl ((if_neg nb).trans (if_neg n2))
    · by_cases nb : b = Pt
      · subst nb
        have z' := (if_pos rfl).symm.trans z
        cases z'
        exact hT
      · have z1 := (if_neg nb).symm.trans z
        by_cases n2 : b = a
        · subst n2
          have z' := (if_pos rfl).symm.trans z1
          cases z'
          exact ⟨ha, by rw [List.length_map]; exact hl, vs, _, rv, ha⟩
        · have z' := (if_neg n2).symm.trans z1
          cases z'
    · by_cases nb : b = Pt
      · exact .inl nb
      · by_cases n2 : b = a
        · exact .inr ⟨n2, hk⟩
        · exact absurd ((if_neg nb).trans (if_neg n2)) z
/-- a def of this name makes inner ones; its table is nobody else's -/
def tabB (K : PySem.W.Frag) (x : Str) : Bool := match PySem.W.tabIn K x with
  | some q => (K.lookup q.2).isNone
  | none => false
theorem tab_told {K : PySem.W.Frag} {x : Str} (h : tabB K x = true) : ∃ c Pt, PySem.W.tabIn K x = some (c, Pt) ∧ K.lookup Pt = none := by
  unfold tabB at h
  split at h
  · rename_i q hq
    exact ⟨q.1, q.2, hq, by simpa using h⟩
  · cases h
theorem walk_ofGT {l : PySem.W.OpenLaw} {n k : Nat} {q : Program} {loose : List Str} {XP : (Str → Option Value) → Heap → Prop} {YP : World → Heap → Prop} {d : DefRec} {K : Params → PySem.W.Frag} {sp : List NTab → PySem.W.Frag → Sp} {x y : Str} {nm : Nat → Nat → Str}
    (hn : l.most = some n) (hn2 : n ≤ sizeLine) (hdf : d.params.defaults = []) (hr : Room k callerA) (hY : ∀ (w : World) (h : Heap), YP w h → (K w.params).In h)
    (hrec : ((recsOf q).find? fun e => e.name == y).isSome = true) (htab : ∀ w : World, tabB (K w.params) y = true)
    (F : ∀ (w : World) (mg : Str → Option Value) (fa c Pt : Addr) (h : Heap), (K w.params).In h → h.Ns mainGlobals mg → mg d.name = some (.ref fa) → PySem.W.tabIn (K w.params) y = some (c, Pt) →
      ∃ fd : FuncData, (∀ (s : Shared) (u : Value), BindsTo s fd ⟨[u], []⟩ [(x, u)]) ∧ ∀ base : Heap, (K w.params).In base → base.Ns mainGlobals mg → TabB base mg c Pt → GnOk l.prog w (K w.params) mg base k fa fd [x] (sp [(Pt, nm)] (K w.params)))
    (ask : ∀ (K : PySem.W.Frag) (H : Hp) (a Pt : Addr) (ns : List Int), ns.length ≤ n → H Pt = some (.tbl #[]) → SqL K H a (ns.map V.int) → sp [(Pt, nm)] K [.ref a] H (fun v _ => v = .bl true) E0) :
    PySem.W.WalkO q loose XP YP l.row.toRowW d [] (fun f vs => PySem.call f vs) := by
  refine Att.attach_call hn hdf fun w s₀ s₁ mg mb fa o pm cd doc a vs ns G Y ho hd hcd hmg hobj hints hlen hg => ?_
  have KX := hY w _ Y
  obtain ⟨c, Pt, ht, nT⟩ := tab_told (htab w)
  obtain ⟨dd, hdd⟩ := Option.isSome_iff_exists.mp hrec
  obtain ⟨C, hT⟩ := PySem.W.tab_of G.T KX hdd ht
  obtain ⟨fd, hb, hF⟩ := F w mg fa c Pt _ KX G.T.g hmg ht
  exact law_callGT KX G.T.g G.T.b G.T.builtins G.T.nolimit hg hT nT C G.T.bmain hobj hints (Nat.le_trans hlen hn2) hr hF hb fun H hP hS => ask _ H a Pt ns hlen hP hS
end Rp

namespace Rp
open PySem L2
theorem all_mk {l : PySem.W.OpenLaw} {w : World} {K : PySem.W.Frag} {h : Heap} {mg : Str → Option Value} {fa f1 f2 f3 f4 f5 f6 f7 f8 f9 f10 f11 f12 f13 f14 f15 f16 f17 f18 f19 f20 f21 f22 f23 f24 f25 f26 f27 f28 f29 f30 f31 f32 : Addr} (X : K.In h) (G : h.Ns mainGlobals mg) (hfa : mg "law" = some (.ref fa))
    {od1 an1 od2 an2 od3 an3 od4 an4 od5 an5 od6 an6 od7 an7 od8 an8 od9 an9 od10 an10 od11 an11 od12 an12 od13 an13 od14 an14 od15 an15 od16 an16 od17 an17 od18 an18 od19 an19 od20 an20 od21 an21 od22 an22 od23 an23 od24 an24 od25 an25 od26 an26 od27 an27 od28 an28 od29 an29 od30 an30 od31 an31 od32 an32 : Option Addr} {sl1 sl2 sl3 sl4 sl5 sl6 sl7 sl8 sl9 sl10 sl11 sl12 sl13 sl14 sl15 sl16 sl17 sl18 sl19 sl20 sl21 sl22 sl23 sl24 sl25 sl26 sl27 sl28 sl29 sl30 sl31 sl32 : Array (Option Value)} {oc1 kV1 dc1 pm1 cd1 ct1 oc2 kV2 dc2 pm2 cd2 ct2 oc3 kV3 dc3 pm3 cd3 ct3 oc4 kV4 dc4 pm4 cd4 ct4 oc5 kV5 dc5 pm5 cd5 ct5 oc6 kV6 dc6 pm6 cd6 ct6 oc7 kV7 dc7 pm7 cd7 ct7 oc8 kV8 dc8 pm8 cd8 ct8 oc9 kV9 dc9 pm9 cd9 ct9 oc10 kV10 dc10 pm10 cd10 ct10 oc11 kV11 dc11 pm11 cd11 ct11 oc12 kV12 dc12 pm12 cd12 ct12 oc13 kV13 dc13 pm13 cd13 ct13 oc14 kV14 dc14 pm14 cd14 ct14 oc15 kV15 dc15 pm15 cd15 ct15 oc16 kV16 dc16 pm16 cd16 ct16 oc17 kV17 dc17 pm17 cd17 ct17 oc18 kV18 dc18 pm18 cd18 ct18 oc19 kV19 dc19 pm19 cd19 ct19 oc20 kV20 dc20 pm20 cd20 ct20 oc21 kV21 dc21 pm21 cd21 ct21 oc22 kV22 dc22 pm22 cd22 ct22 oc23 kV23 dc23 pm23 cd23 ct23 oc24 kV24 dc24 pm24 cd24 ct24 oc25 kV25 dc25 pm25 cd25 ct25 oc26 kV26 dc26 pm26 cd26 ct26 oc27 kV27 dc27 pm27 cd27 ct27 oc28 kV28 dc28 pm28 cd28 ct28 oc29 kV29 dc29 pm29 cd29 ct29 oc30 kV30 dc30 pm30 cd30 ct30 oc31 kV31 dc31 pm31 cd31 ct31 oc32 kV32 dc32 pm32 cd32 ct32 : Value}
     {c Pt : Addr} (ht : PySem.W.tabIn K "put" = some (c, Pt))
    (a1 : PySem.W.nsIn K mainGlobals "_parts" = some (some (.ref f1))) (l1 : K.lookup f1 = some ⟨oc1, od1, .func (PySem.W.fnOf "_parts" "_parts" (defArgs sParts) (defBody sParts) (defScope sParts) .none kV1 dc1 pm1 an1 cd1 ct1), sl1⟩) (c1 : PySem.W.codeIn K cd1 "_parts" = true) (k1 : PySem.W.keepIn K (.ref f1) = true)
    (a2 : PySem.W.nsIn K mainGlobals "inside_out" = some (some (.ref f2))) (l2 : K.lookup f2 = some ⟨oc2, od2, .func (PySem.W.fnOf "inside_out" "inside_out" (defArgs sInside) (defBody sInside) (defScope sInside) .none kV2 dc2 pm2 an2 cd2 ct2), sl2⟩) (c2 : PySem.W.codeIn K cd2 "inside_out" = true) (k2 : PySem.W.keepIn K (.ref f2) = true)
    (a3 : PySem.W.nsIn K mainGlobals "fold" = some (some (.ref f3))) (l3 : K.lookup f3 = some ⟨oc3, od3, .func (PySem.W.fnOf "fold" "fold" (defArgs sFold) (defBody sFold) (defScope sFold) .none kV3 dc3 pm3 an3 cd3 ct3), sl3⟩) (c3 : PySem.W.codeIn K cd3 "fold" = true) (k3 : PySem.W.keepIn K (.ref f3) = true)
    (a4 : PySem.W.nsIn K mainGlobals "put" = some (some (.ref f4))) (l4 : K.lookup f4 = some ⟨oc4, od4, .func (PySem.W.fnOf "put" "put" (defArgs sPut) (defBody sPut) (defScope sPut) .none kV4 dc4 pm4 an4 cd4 ct4), sl4⟩) (c4 : PySem.W.codeIn K cd4 "put" = true) (k4 : PySem.W.keepIn K (.ref f4) = true)
    (a5 : PySem.W.nsIn K mainGlobals "variables" = some (some (.ref f5))) (l5 : K.lookup f5 = some ⟨oc5, od5, .func (PySem.W.fnOf "variables" "variables" (defArgs sVars) (defBody sVars) (defScope sVars) .none kV5 dc5 pm5 an5 cd5 ct5), sl5⟩) (c5 : PySem.W.codeIn K cd5 "variables" = true) (k5 : PySem.W.keepIn K (.ref f5) = true)
    (a6 : PySem.W.nsIn K mainGlobals "atom_variables" = some (some (.ref f6))) (l6 : K.lookup f6 = some ⟨oc6, od6, .func (PySem.W.fnOf "atom_variables" "atom_variables" (defArgs sAtomVars) (defBody sAtomVars) (defScope sAtomVars) .none kV6 dc6 pm6 an6 cd6 ct6), sl6⟩) (c6 : PySem.W.codeIn K cd6 "atom_variables" = true) (k6 : PySem.W.keepIn K (.ref f6) = true)
    (a7 : PySem.W.nsIn K mainGlobals "atom_put" = some (some (.ref f7))) (l7 : K.lookup f7 = some ⟨oc7, od7, .func (PySem.W.fnOf "atom_put" "atom_put" (defArgs sAtomPut) (defBody sAtomPut) (defScope sAtomPut) .none kV7 dc7 pm7 an7 cd7 ct7), sl7⟩) (c7 : PySem.W.codeIn K cd7 "atom_put" = true) (k7 : PySem.W.keepIn K (.ref f7) = true)
    (a8 : PySem.W.nsIn K mainGlobals "unlike" = some (some (.ref f8))) (l8 : K.lookup f8 = some ⟨oc8, od8, .func (PySem.W.fnOf "unlike" "unlike" (defArgs sUnlike) (defBody sUnlike) (defScope sUnlike) .none kV8 dc8 pm8 an8 cd8 ct8), sl8⟩) (c8 : PySem.W.codeIn K cd8 "unlike" = true) (k8 : PySem.W.keepIn K (.ref f8) = true)
    (a9 : PySem.W.nsIn K mainGlobals "saying_variables" = some (some (.ref f9))) (l9 : K.lookup f9 = some ⟨oc9, od9, .func (PySem.W.fnOf "saying_variables" "saying_variables" (defArgs sSayVars) (defBody sSayVars) (defScope sSayVars) .none kV9 dc9 pm9 an9 cd9 ct9), sl9⟩) (c9 : PySem.W.codeIn K cd9 "saying_variables" = true) (k9 : PySem.W.keepIn K (.ref f9) = true)
    (a10 : PySem.W.nsIn K mainGlobals "saying_put" = some (some (.ref f10))) (l10 : K.lookup f10 = some ⟨oc10, od10, .func (PySem.W.fnOf "saying_put" "saying_put" (defArgs sSayPut) (defBody sSayPut) (defScope sSayPut) .none kV10 dc10 pm10 an10 cd10 ct10), sl10⟩) (c10 : PySem.W.codeIn K cd10 "saying_put" = true) (k10 : PySem.W.keepIn K (.ref f10) = true)
    (a11 : PySem.W.nsIn K mainGlobals "comes_of" = some (some (.ref f11))) (l11 : K.lookup f11 = some ⟨oc11, od11, .func (PySem.W.fnOf "comes_of" "comes_of" (defArgs sComes) (defBody sComes) (defScope sComes) .none kV11 dc11 pm11 an11 cd11 ct11), sl11⟩) (c11 : PySem.W.codeIn K cd11 "comes_of" = true) (k11 : PySem.W.keepIn K (.ref f11) = true)
    (a12 : PySem.W.nsIn K mainGlobals "_law_box" = some (some (.ref f12))) (l12 : K.lookup f12 = some ⟨oc12, od12, .func (PySem.W.fnOf "_law_box" "_law_box" (defArgs sBox) (defBody sBox) (defScope sBox) .none kV12 dc12 pm12 an12 cd12 ct12), sl12⟩) (c12 : PySem.W.codeIn K cd12 "_law_box" = true) (k12 : PySem.W.keepIn K (.ref f12) = true)
    (a13 : PySem.W.nsIn K mainGlobals "_law_take" = some (some (.ref f13))) (l13 : K.lookup f13 = some ⟨oc13, od13, .func (PySem.W.fnOf "_law_take" "_law_take" (defArgs sTake) (defBody sTake) (defScope sTake) .none kV13 dc13 pm13 an13 cd13 ct13), sl13⟩) (c13 : PySem.W.codeIn K cd13 "_law_take" = true) (k13 : PySem.W.keepIn K (.ref f13) = true)
    (a14 : PySem.W.nsIn K mainGlobals "_law_pick" = some (some (.ref f14))) (l14 : K.lookup f14 = some ⟨oc14, od14, .func (PySem.W.fnOf "_law_pick" "_law_pick" (defArgs sPick) (defBody sPick) (defScope sPick) .none kV14 dc14 pm14 an14 cd14 ct14), sl14⟩) (c14 : PySem.W.codeIn K cd14 "_law_pick" = true) (k14 : PySem.W.keepIn K (.ref f14) = true)
    (a15 : PySem.W.nsIn K mainGlobals "_law_same" = some (some (.ref f15))) (l15 : K.lookup f15 = some ⟨oc15, od15, .func (PySem.W.fnOf "_law_same" "_law_same" (defArgs sSame) (defBody sSame) (defScope sSame) .none kV15 dc15 pm15 an15 cd15 ct15), sl15⟩) (c15 : PySem.W.codeIn K cd15 "_law_same" = true) (k15 : PySem.W.keepIn K (.ref f15) = true)
    (a16 : PySem.W.nsIn K mainGlobals "_law_names" = some (some (.ref f16))) (l16 : K.lookup f16 = some ⟨oc16, od16, .func (PySem.W.fnOf "_law_names" "_law_names" (defArgs sNames) (defBody sNames) (defScope sNames) .none kV16 dc16 pm16 an16 cd16 ct16), sl16⟩) (c16 : PySem.W.codeIn K cd16 "_law_names" = true) (k16 : PySem.W.keepIn K (.ref f16) = true)
    (a17 : PySem.W.nsIn K mainGlobals "_law_term" = some (some (.ref f17))) (l17 : K.lookup f17 = some ⟨oc17, od17, .func (PySem.W.fnOf "_law_term" "_law_term" (defArgs sTermL) (defBody sTermL) (defScope sTermL) .none kV17 dc17 pm17 an17 cd17 ct17), sl17⟩) (c17 : PySem.W.codeIn K cd17 "_law_term" = true) (k17 : PySem.W.keepIn K (.ref f17) = true)
    (a18 : PySem.W.nsIn K mainGlobals "_law_put" = some (some (.ref f18))) (l18 : K.lookup f18 = some ⟨oc18, od18, .func (PySem.W.fnOf "_law_put" "_law_put" (defArgs sPutL) (defBody sPutL) (defScope sPutL) .none kV18 dc18 pm18 an18 cd18 ct18), sl18⟩) (c18 : PySem.W.codeIn K cd18 "_law_put" = true) (k18 : PySem.W.keepIn K (.ref f18) = true)
    (a19 : PySem.W.nsIn K mainGlobals "_law_unlike" = some (some (.ref f19))) (l19 : K.lookup f19 = some ⟨oc19, od19, .func (PySem.W.fnOf "_law_unlike" "_law_unlike" (defArgs sUnlikeL) (defBody sUnlikeL) (defScope sUnlikeL) .none kV19 dc19 pm19 an19 cd19 ct19), sl19⟩) (c19 : PySem.W.codeIn K cd19 "_law_unlike" = true) (k19 : PySem.W.keepIn K (.ref f19) = true)
    (a20 : PySem.W.nsIn K mainGlobals "_law_shapes" = some (some (.ref f20))) (l20 : K.lookup f20 = some ⟨oc20, od20, .func (PySem.W.fnOf "_law_shapes" "_law_shapes" (defArgs sShapes) (defBody sShapes) (defScope sShapes) .none kV20 dc20 pm20 an20 cd20 ct20), sl20⟩) (c20 : PySem.W.codeIn K cd20 "_law_shapes" = true) (k20 : PySem.W.keepIn K (.ref f20) = true)
    (a21 : PySem.W.nsIn K mainGlobals "_law_base" = some (some (.ref f21))) (l21 : K.lookup f21 = some ⟨oc21, od21, .func (PySem.W.fnOf "_law_base" "_law_base" (defArgs sBaseL) (defBody sBaseL) (defScope sBaseL) .none kV21 dc21 pm21 an21 cd21 ct21), sl21⟩) (c21 : PySem.W.codeIn K cd21 "_law_base" = true) (k21 : PySem.W.keepIn K (.ref f21) = true)
    (a22 : PySem.W.nsIn K mainGlobals "_law_rule" = some (some (.ref f22))) (l22 : K.lookup f22 = some ⟨oc22, od22, .func (PySem.W.fnOf "_law_rule" "_law_rule" (defArgs sRuleL) (defBody sRuleL) (defScope sRuleL) .none kV22 dc22 pm22 an22 cd22 ct22), sl22⟩) (c22 : PySem.W.codeIn K cd22 "_law_rule" = true) (k22 : PySem.W.keepIn K (.ref f22) = true)
    (a23 : PySem.W.nsIn K mainGlobals "_law_rules" = some (some (.ref f23))) (l23 : K.lookup f23 = some ⟨oc23, od23, .func (PySem.W.fnOf "_law_rules" "_law_rules" (defArgs sRulesL) (defBody sRulesL) (defScope sRulesL) .none kV23 dc23 pm23 an23 cd23 ct23), sl23⟩) (c23 : PySem.W.codeIn K cd23 "_law_rules" = true) (k23 : PySem.W.keepIn K (.ref f23) = true)
    (a24 : PySem.W.nsIn K mainGlobals "_law_atom" = some (some (.ref f24))) (l24 : K.lookup f24 = some ⟨oc24, od24, .func (PySem.W.fnOf "_law_atom" "_law_atom" (defArgs sAtomL) (defBody sAtomL) (defScope sAtomL) .none kV24 dc24 pm24 an24 cd24 ct24), sl24⟩) (c24 : PySem.W.codeIn K cd24 "_law_atom" = true) (k24 : PySem.W.keepIn K (.ref f24) = true)
    (a25 : PySem.W.nsIn K mainGlobals "_law_saying" = some (some (.ref f25))) (l25 : K.lookup f25 = some ⟨oc25, od25, .func (PySem.W.fnOf "_law_saying" "_law_saying" (defArgs sSayingL) (defBody sSayingL) (defScope sSayingL) .none kV25 dc25 pm25 an25 cd25 ct25), sl25⟩) (c25 : PySem.W.codeIn K cd25 "_law_saying" = true) (k25 : PySem.W.keepIn K (.ref f25) = true)
    (a26 : PySem.W.nsIn K mainGlobals "_law_begin" = some (some (.ref f26))) (l26 : K.lookup f26 = some ⟨oc26, od26, .func (PySem.W.fnOf "_law_begin" "_law_begin" (defArgs sBegin) (defBody sBegin) (defScope sBegin) .none kV26 dc26 pm26 an26 cd26 ct26), sl26⟩) (c26 : PySem.W.codeIn K cd26 "_law_begin" = true) (k26 : PySem.W.keepIn K (.ref f26) = true)
    (a27 : PySem.W.nsIn K mainGlobals "_law_spots" = some (some (.ref f27))) (l27 : K.lookup f27 = some ⟨oc27, od27, .func (PySem.W.fnOf "_law_spots" "_law_spots" (defArgs sSpots) (defBody sSpots) (defScope sSpots) .none kV27 dc27 pm27 an27 cd27 ct27), sl27⟩) (c27 : PySem.W.codeIn K cd27 "_law_spots" = true) (k27 : PySem.W.keepIn K (.ref f27) = true)
    (a28 : PySem.W.nsIn K mainGlobals "_law_comes_of" = some (some (.ref f28))) (l28 : K.lookup f28 = some ⟨oc28, od28, .func (PySem.W.fnOf "_law_comes_of" "_law_comes_of" (defArgs sComesL) (defBody sComesL) (defScope sComesL) .none kV28 dc28 pm28 an28 cd28 ct28), sl28⟩) (c28 : PySem.W.codeIn K cd28 "_law_comes_of" = true) (k28 : PySem.W.keepIn K (.ref f28) = true)
    (a29 : PySem.W.nsIn K mainGlobals "_law_itself" = some (some (.ref f29))) (l29 : K.lookup f29 = some ⟨oc29, od29, .func (PySem.W.fnOf "_law_itself" "_law_itself" (defArgs sItself) (defBody sItself) (defScope sItself) .none kV29 dc29 pm29 an29 cd29 ct29), sl29⟩) (c29 : PySem.W.codeIn K cd29 "_law_itself" = true) (k29 : PySem.W.keepIn K (.ref f29) = true)
    (a30 : PySem.W.nsIn K mainGlobals "_law_grown" = some (some (.ref f30))) (l30 : K.lookup f30 = some ⟨oc30, od30, .func (PySem.W.fnOf "_law_grown" "_law_grown" (defArgs sGrown) (defBody sGrown) (defScope sGrown) .none kV30 dc30 pm30 an30 cd30 ct30), sl30⟩) (c30 : PySem.W.codeIn K cd30 "_law_grown" = true) (k30 : PySem.W.keepIn K (.ref f30) = true)
    (a31 : PySem.W.nsIn K mainGlobals "_law_bent_binding" = some (some (.ref f31))) (l31 : K.lookup f31 = some ⟨oc31, od31, .func (PySem.W.fnOf "_law_bent_binding" "_law_bent_binding" (defArgs sBentB) (defBody sBentB) (defScope sBentB) .none kV31 dc31 pm31 an31 cd31 ct31), sl31⟩) (c31 : PySem.W.codeIn K cd31 "_law_bent_binding" = true) (k31 : PySem.W.keepIn K (.ref f31) = true)
    (a32 : PySem.W.nsIn K mainGlobals "law" = some (some (.ref f32))) (l32 : K.lookup f32 = some ⟨oc32, od32, .func (PySem.W.fnOf "law" "law" (defArgs sLaw) (defBody sLaw) (defScope sLaw) .none kV32 dc32 pm32 an32 cd32 ct32), sl32⟩) (c32 : PySem.W.codeIn K cd32 "law" = true) (k32 : PySem.W.keepIn K (.ref f32) = true)
    (z1 : PySem.W.nsIn K mainGlobals "isinstance" = some none)
    (z2 : PySem.W.nsIn K mainGlobals "int" = some none)
    (z3 : PySem.W.nsIn K mainGlobals "len" = some none)
    (z4 : PySem.W.nsIn K mainGlobals "dict" = some none)
    (z5 : PySem.W.nsIn K mainGlobals "sorted" = some none)
    (z6 : PySem.W.nsIn K mainGlobals "tuple" = some none)
    (z7 : PySem.W.nsIn K mainGlobals "all" = some none)
    (z8 : PySem.W.nsIn K mainGlobals "abs" = some none)
    (z9 : PySem.W.nsIn K mainGlobals "range" = some none)
    (z10 : PySem.W.nsIn K mainGlobals "set" = some none)
    (z11 : PySem.W.nsIn K mainGlobals "list" = some none)
    (z12 : PySem.W.nsIn K mainGlobals "max" = some none)
    (z13 : PySem.W.nsIn K mainGlobals "min" = some none)
    (z14 : PySem.W.nsIn K mainGlobals "repr" = some none)
    (z15 : PySem.W.nsIn K mainGlobals "zip" = some none)
    (z16 : PySem.W.nsIn K mainGlobals "str" = some none)
    (z17 : PySem.W.nsIn K mainGlobals "bool" = some none)
    : ∃ fd : FuncData, (∀ (s : Shared) (v : Value), BindsTo s fd ⟨[v], []⟩ [("_law_script", v)]) ∧ ∀ base : Heap, K.In base → base.Ns mainGlobals mg → LamX.TabB base mg c Pt → GnOk l.prog w K mg base 66 fa fd ["_law_script"] (spLaw [(Pt, nmEx)] K) := by
  have e := hfa.symm.trans (PySem.W.mg_of X G a32)
  cases e
  have F1 := fun_mk (st := sParts) l1 c1 k1
  have b1 := F1.binds (ps := ["term"]) fun _ _ _ _ _ _ us hl => match us, hl with | [_], _ => rfl
  have m1 := PySem.W.mg_of X G a1
  have F2 := fun_mk (st := sInside) l2 c2 k2
  have b2 := F2.binds (ps := ["term"]) fun _ _ _ _ _ _ us hl => match us, hl with | [_], _ => rfl
  have m2 := PySem.W.mg_of X G a2
  have F3 := fun_mk (st := sFold) l3 c3 k3
  have b3 := F3.binds (ps := ["term", "made_of"]) fun _ _ _ _ _ _ us hl => match us, hl with | [_, _], _ => rfl
  have m3 := PySem.W.mg_of X G a3
  have F4 := fun_mk (st := sPut) l4 c4 k4
  have b4 := F4.binds (ps := ["term", "binding"]) fun _ _ _ _ _ _ us hl => match us, hl with | [_, _], _ => rfl
  have m4 := PySem.W.mg_of X G a4
  have F5 := fun_mk (st := sVars) l5 c5 k5
  have b5 := F5.binds (ps := ["term"]) fun _ _ _ _ _ _ us hl => match us, hl with | [_], _ => rfl
  have m5 := PySem.W.mg_of X G a5
  have F6 := fun_mk (st := sAtomVars) l6 c6 k6
  have b6 := F6.binds (ps := ["atom"]) fun _ _ _ _ _ _ us hl => match us, hl with | [_], _ => rfl
  have m6 := PySem.W.mg_of X G a6
  have F7 := fun_mk (st := sAtomPut) l7 c7 k7
  have b7 := F7.binds (ps := ["atom", "binding"]) fun _ _ _ _ _ _ us hl => match us, hl with | [_, _], _ => rfl
  have m7 := PySem.W.mg_of X G a7
  have F8 := fun_mk (st := sUnlike) l8 c8 k8
  have b8 := F8.binds (ps := ["atoms"]) fun _ _ _ _ _ _ us hl => match us, hl with | [_], _ => rfl
  have m8 := PySem.W.mg_of X G a8
  have F9 := fun_mk (st := sSayVars) l9 c9 k9
  have b9 := F9.binds (ps := ["saying"]) fun _ _ _ _ _ _ us hl => match us, hl with | [_], _ => rfl
  have m9 := PySem.W.mg_of X G a9
  have F10 := fun_mk (st := sSayPut) l10 c10 k10
  have b10 := F10.binds (ps := ["saying", "binding"]) fun _ _ _ _ _ _ us hl => match us, hl with | [_, _], _ => rfl
  have m10 := PySem.W.mg_of X G a10
  have F11 := fun_mk (st := sComes) l11 c11 k11
  have b11 := F11.binds (ps := ["saying", "other", "binding"]) fun _ _ _ _ _ _ us hl => match us, hl with | [_, _, _], _ => rfl
  have m11 := PySem.W.mg_of X G a11
  have F12 := fun_mk (st := sBox) l12 c12 k12
  have b12 := F12.binds (ps := ["_law_script", "_law_k"]) fun _ _ _ _ _ _ us hl => match us, hl with | [_, _], _ => rfl
  have m12 := PySem.W.mg_of X G a12
  have F13 := fun_mk (st := sTake) l13 c13 k13
  have b13 := F13.binds (ps := ["_law_box_here", "_law_reach"]) fun _ _ _ _ _ _ us hl => match us, hl with | [_, _], _ => rfl
  have m13 := PySem.W.mg_of X G a13
  have F14 := fun_mk (st := sPick) l14 c14 k14
  have b14 := F14.binds (ps := ["_law_box_here", "_law_things"]) fun _ _ _ _ _ _ us hl => match us, hl with | [_, _], _ => rfl
  have m14 := PySem.W.mg_of X G a14
  have F15 := fun_mk (st := sSame) l15 c15 k15
  have b15 := F15.binds (ps := ["_law_found", "_law_due"]) fun _ _ _ _ _ _ us hl => match us, hl with | [_, _], _ => rfl
  have m15 := PySem.W.mg_of X G a15
  have F16 := fun_mk (st := sNames) l16 c16 k16
  have b16 := F16.binds (ps := ["_law_box_here", "_law_count"]) fun _ _ _ _ _ _ us hl => match us, hl with | [_, _], _ => rfl
  have m16 := PySem.W.mg_of X G a16
  have F17 := fun_mk (st := sTermL) l17 c17 k17
  have b17 := F17.binds (ps := ["_law_box_here", "_law_pool", "_law_deep"]) fun _ _ _ _ _ _ us hl => match us, hl with | [_, _, _], _ => rfl
  have m17 := PySem.W.mg_of X G a17
  have F18 := fun_mk (st := sPutL) l18 c18 k18
  have b18 := F18.binds (ps := ["_law_thing", "_law_puts"]) fun _ _ _ _ _ _ us hl => match us, hl with | [_, _], _ => rfl
  have m18 := PySem.W.mg_of X G a18
  have F19 := fun_mk (st := sUnlikeL) l19 c19 k19
  have b19 := F19.binds (ps := ["_law_atoms"]) fun _ _ _ _ _ _ us hl => match us, hl with | [_], _ => rfl
  have m19 := PySem.W.mg_of X G a19
  have F20 := fun_mk (st := sShapes) l20 c20 k20
  have b20 := F20.binds (ps := ["_law_box_here", "_law_names_here"]) fun _ _ _ _ _ _ us hl => match us, hl with | [_, _], _ => rfl
  have m20 := PySem.W.mg_of X G a20
  have F21 := fun_mk (st := sBaseL) l21 c21 k21
  have b21 := F21.binds (ps := ["_law_shapes_here", "_law_word"]) fun _ _ _ _ _ _ us hl => match us, hl with | [_, _], _ => rfl
  have m21 := PySem.W.mg_of X G a21
  have F22 := fun_mk (st := sRuleL) l22 c22 k22
  have b22 := F22.binds (ps := ["_law_box_here", "_law_shapes_here", "_law_names_here"]) fun _ _ _ _ _ _ us hl => match us, hl with | [_, _, _], _ => rfl
  have m22 := PySem.W.mg_of X G a22
  have F23 := fun_mk (st := sRulesL) l23 c23 k23
  have b23 := F23.binds (ps := ["_law_box_here", "_law_shapes_here", "_law_names_here", "_law_count"]) fun _ _ _ _ _ _ us hl => match us, hl with | [_, _, _, _], _ => rfl
  have m23 := PySem.W.mg_of X G a23
  have F24 := fun_mk (st := sAtomL) l24 c24 k24
  have b24 := F24.binds (ps := ["_law_box_here", "_law_shapes_here", "_law_names_here", "_law_pool", "_law_deep"]) fun _ _ _ _ _ _ us hl => match us, hl with | [_, _, _, _, _], _ => rfl
  have m24 := PySem.W.mg_of X G a24
  have F25 := fun_mk (st := sSayingL) l25 c25 k25
  have b25 := F25.binds (ps := ["_law_box_here", "_law_shapes_here", "_law_names_here", "_law_pool", "_law_count"]) fun _ _ _ _ _ _ us hl => match us, hl with | [_, _, _, _, _], _ => rfl
  have m25 := PySem.W.mg_of X G a25
  have F26 := fun_mk (st := sBegin) l26 c26 k26
  have b26 := F26.binds (ps := ["_law_box_here", "_law_count"]) fun _ _ _ _ _ _ us hl => match us, hl with | [_, _], _ => rfl
  have m26 := PySem.W.mg_of X G a26
  have F27 := fun_mk (st := sSpots) l27 c27 k27
  have b27 := F27.binds (ps := ["_law_thing"]) fun _ _ _ _ _ _ us hl => match us, hl with | [_], _ => rfl
  have m27 := PySem.W.mg_of X G a27
  have F28 := fun_mk (st := sComesL) l28 c28 k28
  have b28 := F28.binds (ps := ["_law_saying_here", "_law_other", "_law_binding"]) fun _ _ _ _ _ _ us hl => match us, hl with | [_, _, _], _ => rfl
  have m28 := PySem.W.mg_of X G a28
  have F29 := fun_mk (st := sItself) l29 c29 k29
  have b29 := F29.binds (ps := ["_law_saying_here"]) fun _ _ _ _ _ _ us hl => match us, hl with | [_], _ => rfl
  have m29 := PySem.W.mg_of X G a29
  have F30 := fun_mk (st := sGrown) l30 c30 k30
  have b30 := F30.binds (ps := ["_law_box_here", "_law_other", "_law_binding", "_law_shapes_here", "_law_words"]) fun _ _ _ _ _ _ us hl => match us, hl with | [_, _, _, _, _], _ => rfl
  have m30 := PySem.W.mg_of X G a30
  have F31 := fun_mk (st := sBentB) l31 c31 k31
  have b31 := F31.binds (ps := ["_law_box_here", "_law_binding"]) fun _ _ _ _ _ _ us hl => match us, hl with | [_, _], _ => rfl
  have m31 := PySem.W.mg_of X G a31
  have F32 := fun_mk (st := sLaw) l32 c32 k32
  have y1 := PySem.W.mg_none_of X G z1
  have y2 := PySem.W.mg_none_of X G z2
  have y3 := PySem.W.mg_none_of X G z3
  have y4 := PySem.W.mg_none_of X G z4
  have y5 := PySem.W.mg_none_of X G z5
  have y6 := PySem.W.mg_none_of X G z6
  have y7 := PySem.W.mg_none_of X G z7
  have y8 := PySem.W.mg_none_of X G z8
  have y9 := PySem.W.mg_none_of X G z9
  have y10 := PySem.W.mg_none_of X G z10
  have y11 := PySem.W.mg_none_of X G z11
  have y12 := PySem.W.mg_none_of X G z12
  have y13 := PySem.W.mg_none_of X G z13
  have y14 := PySem.W.mg_none_of X G z14
  have y15 := PySem.W.mg_none_of X G z15
  have y16 := PySem.W.mg_none_of X G z16
  have y17 := PySem.W.mg_none_of X G z17
  refine ⟨PySem.W.fnOf "law" "law" (defArgs sLaw) (defBody sLaw) (defScope sLaw) .none kV32 dc32 pm32 an32 cd32 ct32, fun s v => .of_eq rfl, fun base _ _ TB => ?_⟩
  have M : SameG mg := ⟨y1, y11, y6, y3, y7, y15, y16, y2, y17⟩
  have hcode := PySem.W.law_code X G ht m4 (X _ _ l4) rfl
  have G1_ := ok_parts (P := l.prog) (w := w) (mg := mg) (base := base) F1 y1 y2
  have G2_ := ok_inside (P := l.prog) (w := w) (mg := mg) (base := base) F2 F1 b1 m1 y1 y2
  have G3_ := ok_fold (P := l.prog) (w := w) (mg := mg) (base := base) F3 G2_ k2 b2 m2 G1_ k1 b1 m1 y3 y1 y2
  have G4_ := ok_put (P := l.prog) (w := w) (mg := mg) (base := base) F4 hcode TB G3_ k3 b3 m3 y4
  have G5_ := ok_vars (P := l.prog) (w := w) (mg := mg) (base := base) F5 G2_ k2 b2 m2 y5 y1 y2
  have G6_ := ok_avars (P := l.prog) (w := w) (mg := mg) (base := base) F6 G5_ k5 b5 m5 y5
  have G7_ := ok_aput (P := l.prog) (w := w) (mg := mg) (base := base) F7 G4_ k4 b4 m4
  have G8_ := ok_unlt (P := l.prog) (w := w) (mg := mg) (base := base) F8 y6
  have G9_ := ok_syvars (P := l.prog) (w := w) (mg := mg) (base := base) F9 G6_ k6 b6 m6 y5
  have G10_ := ok_syput (P := l.prog) (w := w) (mg := mg) (base := base) F10 G7_ k7 b7 m7 G8_ k8 b8 m8
  have G11_ := ok_comes (P := l.prog) (w := w) (mg := mg) (base := base) F11 G9_ k9 b9 m9 G10_ k10 b10 m10 y7
  have G12_ := ok_box (P := l.prog) (w := w) (mg := mg) (base := base) F12 y3 y8 y2
  have G13_ := ok_take (P := l.prog) (w := w) (mg := mg) (base := base) F13
  have G14_ := ok_pick (P := l.prog) (w := w) (mg := mg) (base := base) F14 F13 b13 m13 y3
  have G15_ := same_ok (P := l.prog) (w := w) (mg := mg) (base := base) F15 b15 m15 M 2
  have G16_ := ok_words (P := l.prog) (w := w) (mg := mg) (base := base) F16 F13 b13 m13 y9 y3
  have G17_ := lterm_ok (P := l.prog) (w := w) (mg := mg) (base := base) F17 b17 m17 G13_ k13 b13 m13 G14_ k14 b14 m14 3
  have G18_ := lputd_ok (P := l.prog) (w := w) (mg := mg) (base := base) F18 b18 m18 y1 y2 y6 9
  have G19_ := ok_unlikel (P := l.prog) (w := w) (mg := mg) (base := base) F19 y6
  have G20_ := ok_shapes (P := l.prog) (w := w) (mg := mg) (base := base) F20 G13_ k13 b13 m13 y4
  have G21_ := ok_basel (P := l.prog) (w := w) (mg := mg) (base := base) F21
  have G22_ := ok_rulel (P := l.prog) (w := w) (mg := mg) (base := base) F22 G13_ k13 b13 m13 G14_ k14 b14 m14 y9 y6
  have G23_ := ok_rulesl (P := l.prog) (w := w) (mg := mg) (base := base) F23 G13_ k13 b13 m13 G21_ k21 b21 m21 G22_ k22 b22 m22 y9
  have G24_ := ok_atoml (P := l.prog) (w := w) (mg := mg) (base := base) F24 G14_ k14 b14 m14 G17_ k17 b17 m17 y9 y6
  have G25_ := ok_sayingl (P := l.prog) (w := w) (mg := mg) (base := base) F25 G13_ k13 b13 m13 G24_ k24 b24 m24 G19_ k19 b19 m19 y9
  have G26_ := ok_begin (P := l.prog) (w := w) (mg := mg) (base := base) F26 G13_ k13 b13 m13 G16_ k16 b16 m16 G20_ k20 b20 m20 G23_ k23 b23 m23
  have G27_ := spots_ok (P := l.prog) (w := w) (mg := mg) (base := base) F27 b27 m27 M y5 y10 12
  have G28_ := ok_lcomes (P := l.prog) (w := w) (mg := mg) (base := base) F28 G18_ k18 b18 m18 G27_ k27 b27 m27 y7 y4
  have G29_ := ok_itself (P := l.prog) (w := w) (mg := mg) (base := base) F29 G27_ k27 b27 m27 y6
  have G30_ := ok_grown (P := l.prog) (w := w) (mg := mg) (base := base) F30 G13_ k13 b13 m13 G18_ k18 b18 m18 G24_ k24 b24 m24 G19_ k19 b19 m19 y4 y9 y3
  have G31_ := ok_bent (P := l.prog) (w := w) (mg := mg) (base := base) F31 G13_ k13 b13 m13 y4 y11 y6 y5 y3
  exact ok_law F32 G12_ k12 b12 m12 G26_ k26 b26 m26 G25_ k25 b25 m25 G13_ k13 b13 m13 G17_ k17 b17 m17 G27_ k27 b27 m27 G30_ k30 b30 m30 G31_ k31 b31 m31 G29_ k29 b29 m29 G28_ k28 b28 m28 G11_ k11 b11 m11 G15_ k15 b15 m15 y9 y12 y13 y3 y6 y14
theorem walk {l : PySem.W.OpenLaw} {q : Program} {loose : List Str} {XP : (Str → Option Value) → Heap → Prop} {YP : World → Heap → Prop} {d : DefRec} {K : Params → PySem.W.Frag} (hn : l.most = some 63) (hdf : d.params.defaults = [])
    (hY : ∀ (w : World) (h : Heap), YP w h → (K w.params).In h) (hrec : ((PyProof.Rows.recsOf q).find? fun e => e.name == ("put" : Str)).isSome = true) (htab : ∀ w : World, tabB (K w.params) "put" = true)
    (F : ∀ (w : World) (mg : Str → Option Value) (fa c Pt : Addr) (h : Heap), (K w.params).In h → h.Ns mainGlobals mg → mg d.name = some (.ref fa) → PySem.W.tabIn (K w.params) "put" = some (c, Pt) →
      ∃ fd : FuncData, (∀ (s : Shared) (u : Value), BindsTo s fd ⟨[u], []⟩ [("_law_script", u)]) ∧ ∀ base : Heap, (K w.params).In base → base.Ns mainGlobals mg → LamX.TabB base mg c Pt → GnOk l.prog w (K w.params) mg base 66 fa fd ["_law_script"] (spLaw [(Pt, nmEx)] (K w.params))) :
    PySem.W.WalkO q loose XP YP l.row.toRowW d [] (fun f vs => PySem.call f vs) :=
  walk_ofGT (n := 63) (k := 66) (x := "_law_script") (sp := spLaw) (nm := nmEx) hn (by decide) hdf ⟨rfl, by decide, by decide⟩ hY hrec htab F
    (fun _ _ a Pt ns hl hP hS => ⟨a, ns, rfl, hS, hl, fun p hp => by rw [List.mem_singleton.mp hp]; exact NdefX.TabN.nil hP, fun _ => rfl⟩)
end Rp
open PySem PySem.W PyProof.Rows
set_option maxRecDepth 100000 in
set_option maxHeartbeats 0 in
theorem PySem.Challenge.cw_ringproofs_k24_sayings_that_come_of_anot_holds : PySem.Challenge.rw_ringproofs_k24_sayings_that_come_of_anot.Holds := by
  w_on; o_law; k_head; (case hw => w_witness2)
  k_fill
  refine Rp.walk (l := PySem.Challenge.rw_ringproofs_k24_sayings_that_come_of_anot) rfl rfl (fun w h Y => PySem.W.km_in_of Y) ?hR ?hT ?F
  case hR => kernel_rfl
  case hT => intro w; kernel_rfl
  case F =>
    intro w mg fa c Pt h KX G hmg ht
    refine' Rp.all_mk KX G hmg ht ?a1 ?l1 ?c1 ?k1 ?a2 ?l2 ?c2 ?k2 ?a3 ?l3 ?c3 ?k3 ?a4 ?l4 ?c4 ?k4 ?a5 ?l5 ?c5 ?k5 ?a6 ?l6 ?c6 ?k6 ?a7 ?l7 ?c7 ?k7 ?a8 ?l8 ?c8 ?k8 ?a9 ?l9 ?c9 ?k9 ?a10 ?l10 ?c10 ?k10 ?a11 ?l11 ?c11 ?k11 ?a12 ?l12 ?c12 ?k12 ?a13 ?l13 ?c13 ?k13 ?a14 ?l14 ?c14 ?k14 ?a15 ?l15 ?c15 ?k15 ?a16 ?l16 ?c16 ?k16 ?a17 ?l17 ?c17 ?k17 ?a18 ?l18 ?c18 ?k18 ?a19 ?l19 ?c19 ?k19 ?a20 ?l20 ?c20 ?k20 ?a21 ?l21 ?c21 ?k21 ?a22 ?l22 ?c22 ?k22 ?a23 ?l23 ?c23 ?k23 ?a24 ?l24 ?c24 ?k24 ?a25 ?l25 ?c25 ?k25 ?a26 ?l26 ?c26 ?k26 ?a27 ?l27 ?c27 ?k27 ?a28 ?l28 ?c28 ?k28 ?a29 ?l29 ?c29 ?k29 ?a30 ?l30 ?c30 ?k30 ?a31 ?l31 ?c31 ?k31 ?a32 ?l32 ?c32 ?k32 ?z1 ?z2 ?z3 ?z4 ?z5 ?z6 ?z7 ?z8 ?z9 ?z10 ?z11 ?z12 ?z13 ?z14 ?z15 ?z16 ?z17
    (case a1 => k_is); (case l1 => k_is); (case c1 => k_is); (case k1 => k_is)
    (case a2 => k_is); (case l2 => k_is); (case c2 => k_is); (case k2 => k_is)
    (case a3 => k_is); (case l3 => k_is); (case c3 => k_is); (case k3 => k_is)
    (case a4 => k_is); (case l4 => k_is); (case c4 => k_is); (case k4 => k_is)
    (case a5 => k_is); (case l5 => k_is); (case c5 => k_is); (case k5 => k_is)
    (case a6 => k_is); (case l6 => k_is); (case c6 => k_is); (case k6 => k_is)
    (case a7 => k_is); (case l7 => k_is); (case c7 => k_is); (case k7 => k_is)
    (case a8 => k_is); (case l8 => k_is); (case c8 => k_is); (case k8 => k_is)
    (case a9 => k_is); (case l9 => k_is); (case c9 => k_is); (case k9 => k_is)
    (case a10 => k_is); (case l10 => k_is); (case c10 => k_is); (case k10 => k_is)
    (case a11 => k_is); (case l11 => k_is); (case c11 => k_is); (case k11 => k_is)
    (case a12 => k_is); (case l12 => k_is); (case c12 => k_is); (case k12 => k_is)
    (case a13 => k_is); (case l13 => k_is); (case c13 => k_is); (case k13 => k_is)
    (case a14 => k_is); (case l14 => k_is); (case c14 => k_is); (case k14 => k_is)
    (case a15 => k_is); (case l15 => k_is); (case c15 => k_is); (case k15 => k_is)
    (case a16 => k_is); (case l16 => k_is); (case c16 => k_is); (case k16 => k_is)
    (case a17 => k_is); (case l17 => k_is); (case c17 => k_is); (case k17 => k_is)
    (case a18 => k_is); (case l18 => k_is); (case c18 => k_is); (case k18 => k_is)
    (case a19 => k_is); (case l19 => k_is); (case c19 => k_is); (case k19 => k_is)
    (case a20 => k_is); (case l20 => k_is); (case c20 => k_is); (case k20 => k_is)
    (case a21 => k_is); (case l21 => k_is); (case c21 => k_is); (case k21 => k_is)
    (case a22 => k_is); (case l22 => k_is); (case c22 => k_is); (case k22 => k_is)
    (case a23 => k_is); (case l23 => k_is); (case c23 => k_is); (case k23 => k_is)
    (case a24 => k_is); (case l24 => k_is); (case c24 => k_is); (case k24 => k_is)
    (case a25 => k_is); (case l25 => k_is); (case c25 => k_is); (case k25 => k_is)
    (case a26 => k_is); (case l26 => k_is); (case c26 => k_is); (case k26 => k_is)
    (case a27 => k_is); (case l27 => k_is); (case c27 => k_is); (case k27 => k_is)
    (case a28 => k_is); (case l28 => k_is); (case c28 => k_is); (case k28 => k_is)
    (case a29 => k_is); (case l29 => k_is); (case c29 => k_is); (case k29 => k_is)
    (case a30 => k_is); (case l30 => k_is); (case c30 => k_is); (case k30 => k_is)
    (case a31 => k_is); (case l31 => k_is); (case c31 => k_is); (case k31 => k_is)
    (case a32 => k_is); (case l32 => k_is); (case c32 => k_is); (case k32 => k_is)
    (case z1 => k_is); (case z2 => k_is); (case z3 => k_is); (case z4 => k_is)
    (case z5 => k_is); (case z6 => k_is); (case z7 => k_is); (case z8 => k_is)
    (case z9 => k_is); (case z10 => k_is); (case z11 => k_is); (case z12 => k_is)
    (case z13 => k_is); (case z14 => k_is); (case z15 => k_is); (case z16 => k_is)
    (case z17 => k_is)

