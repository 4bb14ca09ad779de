import PyProof.Rows.All
import Wide.All
import OpenK.AllK
import Wide.FinOn
import HandS.ForMost
import HandS.IsInst
import HandS.Style
import HandS.Set
import HandS.Strs
import HandS.SetBool
import HandS.SetFor
import PySem.Challenge.RW_ringproofs_k35_charts_by_their_parts
import HandS.Zip
import HandS.Deep
import HandS.Flow
import PyProof.Rows.RegFStrParts
import HandS.TupAny
import HandS.Walk
import HandS.Steps
import HandS.Text
import PyProof.StrLaws
import KE.KUnpackStar
import HandS.Star
import HandS.NoneIn
import HandS.More
import HandS.FStr
import HandS.SortOrd
import PyProof.DictKinds
import PyProof.Rows.SortShellAny
import PyProof.Rows.SortStr
import PyProof.Rows.StrMeet
import KE.LtData
set_option Elab.async false
set_option linter.all false
set_option maxRecDepth 100000
set_option maxHeartbeats 4000000
/-! Two rules that the layer lacks: a comprehension that makes a set of ints, and set(xs) of a list of ints whose table is known well enough to be sorted afterwards. -/
namespace Rp
open PySem PySem.Spec PyProof.Rows L2 PpSet

section addi
variable {X : Cx}
/-- an int goes into a tracked set of ints -/
theorem putInt {pins : List (Addr × Obj)} {σ : L2.St} {H : Hp} {s : Shared} {E : Value → Shared → Prop} {D : Addr} {S : Int → Bool} {n : Nat} {y : Int} {t : Tok} {Q : Value → Shared → Prop}
    (I : Inv X pins σ H s) (hD : H D = some (SetO X.w D S n)) (few : n + 1 < scanBound)
    (go : ∀ s', Inv X pins σ (upd H D (SetO X.w D (fun j => S j || decide (j = y)) (if S y = true then n else n + 1))) s' → Q .none s') :
    wpAny (model X.prog X.w) X.A (call (.builtin "set.add") [.ref D, .int y t]) Q E s :=
  setR_add (setO_get I hD) few fun h' same now =>
    have there : ∃ u, h'.get? D = some u := let ⟨o, _, _, _, ho, _⟩ := now; ⟨o, ho⟩
    go _ (I.write (e := D) (t' := s.toks + 1) (by rw [hD]; trivial) (.inl rfl) (fun b u ne hu => (same.2 b ne).trans hu) there (setO_new now))

/-- what {e for x in .. if ..} asks where e is an int -/
def tScI (w : World) (wi : TI) (g : TG) (tt : TT) (te : TE) (vs : List Nat) : TE := fun σ H Q => wi σ H fun J H1 => ∀ D, H1 D = none →
  ∃ W : Nat → Nat → Hp → Prop, (∃ m, W 0 m (upd H1 D (SetO w D (fun _ => false) 0))) ∧ ∀ i m H, W i m H → (J.stop i H ∧ Q (.ref D) H) ∨
    (J.go i H ∧ ∃ Nx : Hp → Prop, (∀ H', Nx H' → ∃ m', m' < m ∧ W (i + 1) m' H') ∧ ∀ x H', J.yld i H x H' → g x (wipe σ vs) H' fun σ2 H2 => wipe σ2 vs = wipe σ vs ∧
      tt σ2 H2 fun b H3 => if b = true then te σ2 H3 fun y H4 => ∃ (k : Int) (S : Int → Bool) (n : Nat), y = .int k ∧ H4 D = some (SetO w D S n) ∧ n + 1 < scanBound ∧
        Nx (upd H4 D (SetO w D (fun j => S j || decide (j = k)) (if S k = true then n else n + 1))) else Nx H3)

abbrev emptySet (w : World) : Obj := { cls := .type "set", dict := none, data := .set #[] 0 (.fresh 0 0 (!w.params.followText "set-order")) }

theorem pe_scI {elt tg iter : Expr} {ifs : List Expr} {scope : Scope} {own : List (PySem.Str × Nat)} {pos : Pos} {wi : TI} {g : TG} {tt : TT} {te : TE}
    (hc : X.calm = true) (hN : X.N.Nodup) (hi : PI X tg iter wi) (ok : BlkOk X.N X.env.scope scope own)
    (hg : ∀ (s : Shared) (H : Hp) (C : Addr) (cl : List (PySem.Str × Addr)) (fp : List Addr), PG (X.blk s H scope (compEnvC scope cl C X.env) fp) tg g)
    (ht : ∀ (s : Shared) (H : Hp) (C : Addr) (cl : List (PySem.Str × Addr)) (fp : List Addr), PTs (X.blk s H scope (compEnvC scope cl C X.env) fp) ifs tt)
    (he : ∀ (s : Shared) (H : Hp) (C : Addr) (cl : List (PySem.Str × Addr)) (fp : List Addr), PE (X.blk s H scope (compEnvC scope cl C X.env) fp) elt te)
    (hs : ∀ x, foldedSetIterable iter X.env x = pure x := by intro _; rfl) :
    PE X (.SetComp elt [⟨tg, iter, ifs, 0⟩] scope pos) (tScI X.w wi g tt te (own.map (·.2))) := by
  refine ⟨fun pins s σ H Q I h => ?_⟩
  rw [eval_SetComp]
  have caught : ∀ y ∈ scope.names, y.2 = .free → ∃ c, X.env.cells.lookup y.1 = some c := fun y hy e =>
    (ok.free y hy e).elim (fun k => I.ok.has _ (.inl k)) fun k => I.ok.has _ (.inr k)
  refine wpAny_comprehension_free (use := none) rfl hs (closure_ok caught) ok.kind (fun y hy e => (ok.uniq y hy).trans (by rw [e])) (thn (hi.run pins s σ H _ I h) fun xv s1 hx => thn hx fun itv s2 h2 => ?_)
  obtain ⟨it, fp, tn, J, H2, rfl, I2, T, st2, f2, q⟩ := h2
  refine newSet_ok (newEnv_comp ?_)
  -- the new set's place
  obtain ⟨D, hD⟩ : ∃ D, s2.heap.objs.size = D := ⟨_, rfl⟩
  rw [hD]
  obtain ⟨W, ⟨m0, w0⟩, turn⟩ := q D (I2.hok.fresh (Nat.le_of_eq hD))
  obtain ⟨s3, hs3⟩ : ∃ s3 : Shared, { s2 with heap := s2.heap.push (emptySet X.w) } = s3 := ⟨_, rfl⟩
  have h3 : s3.heap = s2.heap.push (emptySet X.w) := by rw [← hs3]
  have I3 : Inv X pins σ (upd H2 D (SetO X.w D (fun _ => false) 0)) s3 := by
    have z := I2.laid (a := D) (o := SetO X.w D (fun _ => false) 0) (t' := s2.toks) (h' := s2.heap.push (emptySet X.w)) (fun b o e => Heap.get?_push_of_some _ e) (Nat.le_of_eq hD) (by rw [← hD]; exact setO_new (setR_fresh X.w))
    exact hs3 ▸ z
  have low : ∀ b ∈ fp, b < s2.heap.objs.size := fun b hb => let ⟨o, e, _⟩ := T.obj _ _ st2 b hb; Heap.lt_size e
  have f3 : ∀ b ∈ fp, FpOk X pins (upd H2 D (SetO X.w D (fun _ => false) 0)) b ∧ b < s3.heap.objs.size := fun b hb =>
    ⟨⟨(upd_ne (by rw [← hD]; exact Nat.ne_of_lt (low b hb))).trans (f2 b hb).1, (f2 b hb).2⟩, by rw [h3, Heap.size_push]; exact Nat.lt_succ_of_lt (low b hb)⟩
  have st3 : tn 0 s3.heap := T.keep _ _ _ st2 fun b _ o e => h3 ▸ Heap.get?_push_of_some _ e
  have I4 := block_start I3 ok hN f3
  obtain ⟨H3, hH3⟩ : ∃ H3, upd H2 D (SetO X.w D (fun _ => false) 0) = H3 := ⟨_, rfl⟩
  rw [hH3] at I3 f3 I4 w0
  obtain ⟨C, hC⟩ : ∃ C, s3.heap.objs.size = C := ⟨_, rfl⟩
  rw [hC] at I4
  have pg := hg s3 H3 C (cellsFrom (C + 1) scope.names (cloFrom X.env.cells scope.names [])) fp
  have pt := ht s3 H3 C (cellsFrom (C + 1) scope.names (cloFrom X.env.cells scope.names [])) fp
  have pe := he s3 H3 C (cellsFrom (C + 1) scope.names (cloFrom X.env.cells scope.names [])) fp
  subst hs3
  have hC' : (s2.heap.push (emptySet X.w)).objs.size = C := hC
  show codeAny _ _ (.compStart (.SetComp elt [⟨tg, iter, ifs, 0⟩] scope pos) 0 (.ref it) (.ref D) (compEnvC scope (cellsFrom ((s2.heap.push (emptySet X.w)).objs.size + 1) scope.names (cloFrom X.env.cells scope.names [])) (s2.heap.push (emptySet X.w)).objs.size X.env))
    (compPost (model X.prog X.w) X.A X.xe none (EP X pins σ Q) (.ref D) (s2.heap.push (emptySet X.w)).objs.size) { s2 with heap := pushCells ((s2.heap.push (emptySet X.w)).push { cls := .type "dict", data := .dict #[] }) scope.names }
  rw [hC']
  obtain ⟨ce, hce⟩ : ∃ ce, compEnvC scope (cellsFrom (C + 1) scope.names (cloFrom X.env.cells scope.names [])) C X.env = ce := ⟨_, rfl⟩
  rw [hce] at I4 pg pt pe ⊢
  have cL : ce.locals = C := by subst hce; rfl
  obtain ⟨s4, hs4⟩ : ∃ s4 : Shared, { s2 with heap := pushCells ((s2.heap.push (emptySet X.w)).push { cls := .type "dict", data := .dict #[] }) scope.names } = s4 := ⟨_, rfl⟩
  have I4 : Inv (X.blk _ H3 scope ce fp) [] (wipe σ (own.map (·.2))) H3 s4 := hs4 ▸ I4
  rw [hs4]
  have st4 : tn 0 s4.heap := T.keep _ _ _ st3 fun b _ o e => by rw [← hs4]; exact pushCells_keeps _ _ _ _ (Heap.get?_push_of_some _ e)
  obtain ⟨Y, hY⟩ : ∃ Y, X.blk { s2 with heap := s2.heap.push (emptySet X.w) } H3 scope ce fp = Y := ⟨_, rfl⟩
  have rest : ∀ {σ' : L2.St} {H' : Hp} {s' : Shared}, Inv Y [] σ' H' s' → (∀ b ∈ fp, H' b = none) → ∀ b ∈ fp, FpOk Y [] H' b := by
    subst hY
    intro σ' H' s' I' hn b hb
    exact ⟨hn b hb, (I'.ok.exf b hb).1, I'.ok.exfs b hb, .inl hb, fun x c e => (I'.ok.exf b hb).2 x c e, fun p hp => absurd (show p ∈ ([] : List (Addr × Obj)) ++ [] from hp) (by simp)⟩
  have round : codeAny (model X.prog X.w) X.A (.compLoop (.SetComp elt [⟨tg, iter, ifs, 0⟩] scope pos) 0 (.ref it) (.ref D) ce) (compPost (model X.prog X.w) X.A X.xe none (EP X pins σ Q) (.ref D) C) s4 := by
    refine compLoopS_any (fun n s' => ∃ i H', Inv Y [] (wipe σ (own.map (·.2))) H' s' ∧ tn i s'.heap ∧ (∀ b ∈ fp, H' b = none) ∧ W i n H') ?_ m0 ⟨0, H3, hY ▸ I4, st4, fun b hb => (f3 b hb).1.1, w0⟩
    rintro n s5 ⟨i, H5, I5, st5, n5, w5⟩
    rcases turn i n H5 w5 with ⟨stop, qq⟩ | ⟨go, Nx, hNx, step⟩
    · subst hY
      refine thnF (T.done (X.blk _ H3 scope ce fp) rfl rfl rfl hc i [] s5 _ H5 (fun _ _ => False) I5 (rest I5 n5) st5 stop) fun r s6 ⟨hr, I6⟩ => ?_
      subst hr
      have I7 : Inv X pins σ H5 s6 := I3.call' (ch := fp) I6.os I6.base I6.hok I6.bare fun b hb => ⟨(f3 b hb).1.2.2.2.1, (f3 b hb).1.2.1, (f3 b hb).1.2.2.2.2.1, (f3 b hb).1.2.2.2.2.2⟩
      have nC : H5 C = none := cL ▸ (show H5 ce.locals = none from I6.free)
      obtain ⟨m, hn, _⟩ := I6.loc
      have hn : s6.heap.Ns C m := cL ▸ (show s6.heap.Ns ce.locals m from hn)
      refine ⟨m, hn, fun h'' sb => ?_⟩
      obtain ⟨g0, g1, g2, g3, g4, g5⟩ := I3.fpOk (Nat.le_of_eq hC) nC
      exact ⟨.ref D, H5, I7.turned (t' := s6.toks) (fun b o hb e => (sb.2 b hb).trans e) g0 g1 g3 g4 g5, rfl, qq⟩
    · have ti := T.item Y (by subst hY; rfl) (by subst hY; rfl) (by subst hY; rfl) (by subst hY; exact hc) i [] s5 _ H5 (fun _ _ => False) I5 (rest I5 n5) st5 go
      subst hY
      refine thnF ti fun r s6 ⟨u, hr, h6⟩ => ?_
      subst hr
      refine thnF h6 fun _ s7 ⟨x, H7, I7, r7, y7, st7, n7⟩ => ?_
      refine thnF (pg.run _ s7 _ H7 x u _ (I7.pinned (rest I7 n7) (T.obj _ _ st7)) r7 (step x H7 y7)) fun _ s8 ⟨σ8, H8, I8, hw8, q8⟩ => ?_
      refine thnF (pt.run _ s8 σ8 H8 _ I8 q8) fun b s9 ⟨H9, I9, q9⟩ => ?_
      have turned : ∀ {s' : Shared} {H' : Hp}, Inv (X.blk { s2 with heap := s2.heap.push (emptySet X.w) } H3 scope ce fp) ([] ++ pinsAt fp s7.heap) σ8 H' s' → Nx H' → ∃ m, m < n ∧ ∃ i H', Inv (X.blk { s2 with heap := s2.heap.push (emptySet X.w) } H3 scope ce fp) [] (wipe σ (own.map (·.2))) H' s' ∧ tn i s'.heap ∧ (∀ b ∈ fp, H' b = none) ∧ W i m H' := by
        intro s' H' I' nx
        obtain ⟨m', hm, w'⟩ := hNx H' nx
        have pin : ∀ b ∈ fp, ∀ o, s7.heap.get? b = some o → s'.heap.get? b = some o ∧ H' b = none := fun b hb o e =>
          let z := I'.pin (b, o) (List.mem_append_right _ (List.mem_append_right _ (mem_pinsAt hb e))); ⟨z.1, z.2.1⟩
        refine ⟨m', hm, i + 1, H', (I'.unpinned (pins := [])).weak (by rw [← hw8, wipe_length]) (fun j v e => (wipe_some (by rw [hw8]; exact e)).1), T.keep _ _ _ st7 fun b hb o e => (pin b hb o e).1, fun b hb => ?_, w'⟩
        obtain ⟨o, e, _⟩ := T.obj _ _ st7 b hb
        exact (pin b hb o e).2
      cases b with
      | false => simp only [Bool.false_eq_true, if_false] at q9 ⊢; exact turned I9 q9
      | true =>
        simp only [if_true] at q9 ⊢
        refine thnF (pe.run _ s9 σ8 H9 _ I9 q9) fun z s10 ⟨yv, H10, I10, r10, k, S0, n0, ey, hD10, few, nx⟩ => ?_
        subst ey
        obtain ⟨t, rfl⟩ := r10
        exact putInt (X := X.blk _ H3 scope ce fp) I10 hD10 few fun s11 I11 => turned I11 nx
  exact codeAny_compStart_set round (T.self X.A 0 _ _ _ st4 round)

/-- the walk over a list that the block leaves as it is -/
theorem scI_list {w : World} {K : PySem.W.Frag} {a : Addr} {xs : List V} {g : TG} {tt : TT} {te : TE} {vs : List Nat} {σ : L2.St} {H1 : Hp} {D : Addr} {Qd : Hp → Prop}
    (Pv : Nat → Hp → Prop) (h0 : Pv 0 (upd H1 D (SetO w D (fun _ => false) 0))) (hl : ∀ i H, i ≤ xs.length → Pv i H → SqL K H a xs)
    (hs : ∀ i x H, xs[i]? = some x → Pv i H → g x (wipe σ vs) H fun σ2 H2 => wipe σ2 vs = wipe σ vs ∧ tt σ2 H2 fun b H3 => if b = true then te σ2 H3 fun y H4 =>
      ∃ (k : Int) (S : Int → Bool) (n : Nat), y = .int k ∧ H4 D = some (SetO w D S n) ∧ n + 1 < scanBound ∧ Pv (i + 1) (upd H4 D (SetO w D (fun j => S j || decide (j = k)) (if S k = true then n else n + 1))) else Pv (i + 1) H3)
    (hd : ∀ H, Pv xs.length H → Qd H) :
    ∃ W : Nat → Nat → Hp → Prop, (∃ m, W 0 m (upd H1 D (SetO w D (fun _ => false) 0))) ∧ ∀ i m H, W i m H → ((Itl K a).stop i H ∧ Qd H) ∨
      ((Itl K a).go i H ∧ ∃ Nx : Hp → Prop, (∀ H', Nx H' → ∃ m', m' < m ∧ W (i + 1) m' H') ∧ ∀ x H', (Itl K a).yld i H x H' → g x (wipe σ vs) H' fun σ2 H2 => wipe σ2 vs = wipe σ vs ∧
        tt σ2 H2 fun b H3 => if b = true then te σ2 H3 fun y H4 => ∃ (k : Int) (S : Int → Bool) (n : Nat), y = .int k ∧ H4 D = some (SetO w D S n) ∧ n + 1 < scanBound ∧
          Nx (upd H4 D (SetO w D (fun j => S j || decide (j = k)) (if S k = true then n else n + 1))) else Nx H3) := by
  refine ⟨fun i m H => m + i = xs.length ∧ Pv i H, ⟨xs.length, by simp, h0⟩, ?_⟩
  rintro i m H ⟨em, p⟩
  have here := hl i H (by omega) p
  rcases Nat.lt_or_ge i xs.length with lt | ge
  · refine .inr ⟨⟨xs, xs[i], here, by simp [lt]⟩, Pv (i + 1), fun H' p' => ⟨m - 1, by omega, by omega, p'⟩, fun x H' ⟨e, y⟩ => ?_⟩
    subst e
    exact hs i x _ (y xs here) p
  · have e : i = xs.length := by omega
    subst e
    exact .inl ⟨⟨xs, here, Nat.le_refl _⟩, hd H p⟩
end addi
end Rp

namespace Rp
open PySem PySem.Spec PyProof.Rows L2 PpSet
section
variable {P : Program} {w : World} {A : Around} {E : Value → Shared → Prop} {s : Shared}
set_option maxHeartbeats 6400000 in
theorem set_of_list {l : Addr} {items : Array Value} (ns : List Int) {Q : Value → Shared → Prop} (calm : A.handled = none) (hl : s.heap.IsList l items) (hi : IntsAre items.toList ns) (few : ns.length + 1 < scanBound)
    (go : ∀ (h' : Heap) (tk c : Nat), SetR w h' s.heap.objs.size (fun j => decide (j ∈ ns)) c → c ≤ ns.length → (∀ b o, s.heap.get? b = some o → h'.get? b = some o) → Q (.ref s.heap.objs.size) { s with heap := h', toks := tk }) :
    wpAny (model P w) A (call (.type "set") [.ref l]) Q E s := by
  have cnt : items.size = ns.length := by have q := IntsAre.length hi; rwa [Array.length_toList] at q
  obtain ⟨c, tl, hmro⟩ := F.called_set.mro
  have hmade := F.called_set.made
  have hsub := F.called_set.sub
  refine wpAny_call (codeAny_of_tree ?_)
  show wpAny _ _ (callAny (.type "set") _) _ _ _
  refine wpAny_pure ⟨Code.quiet_builtin _ (by decide +kernel), codeAny_builtin F.entry_type_call ?_⟩
  rw [Around.under_plain (weight_type_call_type "set" [.ref l] []) rfl]
  have h1 := F.called_set.notType
  have h2 := F.called_set.canCreate
  have hct := F.typeCall_set_1 (.ref l)
  repeat (any_goals (first | assumption | wp_step))
  refine codeAny_mono (code_set_led1 (.ref l) (E := E) (Q₁ := fun obj z => obj = .ref s.heap.objs.size ∧ z = { s with heap := s.heap.push (emptySet w) }) ⟨rfl, rfl⟩) fun r s₁ hr => ?_
  cases r with
  | error e => exact hr
  | ok fl =>
    cases fl with
    | ret obj =>
      obtain ⟨rfl, rfl⟩ := hr
      have atNew : (s.heap.push (emptySet w)).get? s.heap.objs.size = some (emptySet w) := Heap.get?_push_size _ rfl
      have hT : Shared.TypeIs { s with heap := s.heap.push (emptySet w) } (.ref s.heap.objs.size) "set" := ⟨_, atNew, rfl⟩
      have hli := F.called_set.init.lookup
      have hbi := F.called_set.init.bind (.ref s.heap.objs.size)
      repeat (any_goals (first | assumption | wp_step))
      refine codeAny_mono (codeAny_call_builtin (R := wants (fun r z => r = .none ∧ ∃ h' tk c, z = { s with heap := h', toks := tk } ∧ SetR w h' s.heap.objs.size (fun j => decide (j ∈ ns)) c ∧ c ≤ ns.length ∧
        (∀ b o, s.heap.get? b = some o → h'.get? b = some o)) E) F.called_set.init.plain F.entry_set_init (check_set_init_1 hT ?_)) fun r₂ s₂ hr₂ => ?_
      · obtain ⟨⟨ocls, odict, odata, oslots⟩, hol, hcl, nl, hdl⟩ := hl
        simp only at hcl hdl
        subst hcl hdl
        have hol' : (s.heap.push (emptySet w)).get? l = some { cls := .type "list", dict := odict, data := .seq items nl, slots := oslots } := Heap.get?_push_of_some _ hol
        have hsls := F.sub_list_set
        have hslf := F.sub_list_frozenset
        have hne : (Value.type "list" == Value.type "dict") = false := by decide
        have here : (s.heap.push (emptySet w)).IsList l items := ⟨_, hol', rfl, nl, rfl⟩
        unfold Builtin.«set.__init__» noKeywords Builtin.Frozenset.updateFrom
        generalize hPI : pyIter = PI
        wp_walk
        subst hPI
        refine wpAny_pyIter_list here (wpAny_bind (wpAny_runValue ?_))
        have below : l < s.heap.objs.size := Heap.lt_size hol
        have top : (s.heap.push (emptySet w)).objs.size = s.heap.objs.size + 1 := Heap.size_push ..
        have apart : l ≠ (s.heap.push (emptySet w)).objs.size := by rw [top]; exact Nat.ne_of_lt (Nat.lt_succ_of_lt below)
        have out : s.heap.objs.size ∉ [(s.heap.push (emptySet w)).objs.size, l] := by
          simp only [List.mem_cons, List.not_mem_nil, or_false, not_or, top]
          exact ⟨Nat.ne_of_lt (Nat.lt_succ_self _), Nat.ne_of_gt below⟩
        have each : ∀ (i : Nat) (v : Value), items[i]? = some v → ∃ k t, ns[i]? = some k ∧ v = .int k t := by
          intro i v hv
          have lt : i < ns.length := by rw [← cnt]; exact (Array.getElem?_eq_some_iff.mp hv).1
          obtain ⟨t, e⟩ := PyProof.Rows.IntsAre.int_at hi i v (by rw [Array.getElem?_toList]; exact hv)
          exact ⟨ns[i], t, List.getElem?_eq_getElem lt, by rw [e, List.getD_eq_getElem?_getD, List.getElem?_eq_getElem lt]; rfl⟩
        refine set_update_ints ((Walks.list (by simp [calm]) _ l apart items).toS) s.heap.objs.size out ns cnt few each (items.size - 0) 0 _ (by omega) (Nat.zero_le _)
          ⟨⟨_, Heap.get?_push_size _ rfl, rfl, rfl⟩, here.push _⟩ ⟨0, Nat.le_refl 0, setR_new_at (Heap.get?_push_of_some _ atNew)⟩ fun s' c' hm hc' hS' => ?_
        obtain ⟨h', g2, d', tk', os'⟩ := s'
        have eg : g2 = s.gens := hm.gens
        have ed : d' = s.drawn := hm.drawn
        have eo : os' = s.os := hm.os
        subst eg ed eo
        show wpAny _ _ _ _ _ _
        refine wpAny_pure ?_
        show wpAny _ _ (ret Value.none) _ _ _
        refine wpAny_pure ⟨rfl, h', tk', c', rfl, hS', by omega, fun b o e => ?_⟩
        have lt := Heap.lt_size e
        exact hm.heap b o (by simp only [List.mem_cons, List.not_mem_nil, or_false, not_or, top]; exact ⟨Nat.ne_of_lt lt, Nat.ne_of_lt (Nat.lt_succ_of_lt lt)⟩) (Heap.get?_push_of_some _ (Heap.get?_push_of_some _ e))
      · cases r₂ with
        | error e => exact hr₂
        | ok fl₂ =>
          cases fl₂ with
          | ret r =>
            obtain ⟨rfl, h', tk, c', rfl, hS', hc', hk'⟩ := hr₂
            repeat (any_goals (first | assumption | wp_step))
            exact go _ _ _ hS' hc' hk'
          | _ => exact hr₂.elim
    | _ => exact hr.elim
end
section
variable {X : Cx}
theorem intsOf : ∀ {ns : List Int} {us : List Value}, Vals (ns.map V.int) us → PyProof.Rows.IntsAre us ns
  | [], _, .nil => .nil
  | n :: ns, _, .cons ⟨k, e⟩ t => by subst e; exact .cons n k (intsOf t)
/-- set(xs), xs a list of ints -/
def rSetI (K : PySem.W.Frag) (w : World) : List V → Hp → VK → Prop := fun vs H Q => ∃ (a : Addr) (ns : List Int), vs = [V.ref a] ∧ SqL K H a (ns.map V.int) ∧ ns.length < 1000 ∧
  ∀ (p : Addr) (c : Nat), H p = none → c ≤ ns.length → Q (.ref p) (upd H p (SetO w p (fun j => decide (j ∈ ns)) c))
theorem cr_setI (hc : X.calm = true) : CallR X (.type "set") (rSetI X.K X.w) := by
  intro pins s σ H vs us Q I r h
  obtain ⟨a, ns, rfl, hs, hn, q⟩ := h
  rw [Vals.ref1 r]
  obtain ⟨its, rv, pl, hz⟩ := I.list hs
  refine set_of_list ns (I.ok.hd hc) pl.isList (by simpa using intsOf rv) (by unfold scanBound; omega) fun h' tk c R hc' k => ?_
  have hn : H s.heap.objs.size = none := I.hok.fresh (Nat.le_refl _)
  exact ⟨.ref _, upd H s.heap.objs.size (SetO X.w s.heap.objs.size (fun j => decide (j ∈ ns)) c), I.laid (t' := tk) k (Nat.le_refl _) (setO_new R), rfl, q _ c hn hc'⟩
end
end Rp

namespace Rp
open PySem L2
/-! ### TERMs -/
inductive Tm where
  | v (n : Int) | z | s (t : Tm) | f (l r : Tm)
  deriving DecidableEq
namespace Tm
def size : Tm → Nat
  | v _ => 1 | z => 1 | s t => t.size + 1 | f l r => l.size + r.size + 1
def deep : Tm → Nat
  | v _ => 0 | z => 0 | s t => t.deep + 1 | f l r => max l.deep r.deep + 1
def nums : Tm → List Int
  | v n => [n] | z => [] | s t => t.nums | f l r => l.nums ++ r.nums
/-- all parts, the whole first, the right-hand ones ahead of the left-hand ones -/
def rpost : Tm → List Tm
  | v n => [v n] | z => [z] | s t => s t :: t.rpost | f l r => f l r :: (r.rpost ++ l.rpost)
def kids : Tm → List Tm
  | v _ => [] | z => [] | s t => [t] | f l r => [l, r]
theorem size_pos : ∀ t : Tm, 1 ≤ t.size
  | v _ => Nat.le_refl _ | z => Nat.le_refl _ | s _ => by unfold size; omega | f _ _ => by unfold size; omega
theorem deep_lt : ∀ t : Tm, t.deep < t.size
  | v _ => Nat.zero_lt_one | z => Nat.zero_lt_one | s t => by have := deep_lt t; unfold deep size; omega
  | f l r => by have := deep_lt l; have := deep_lt r; unfold deep size; omega
theorem rpost_len : ∀ t : Tm, t.rpost.length = t.size
  | v _ => rfl | z => rfl | s t => by unfold rpost size; rw [List.length_cons, rpost_len t]
  | f l r => by unfold rpost size; rw [List.length_cons, List.length_append, rpost_len l, rpost_len r]; omega
/-- an int among the parts -/
theorem mem_rpost (n : Int) : ∀ t : Tm, v n ∈ t.rpost ↔ n ∈ t.nums
  | v m => by unfold rpost nums; simp
  | z => by unfold rpost nums; simp
  | s t => by unfold rpost nums; have := mem_rpost n t; simp [this]
  | f l r => by unfold rpost nums; have := mem_rpost n l; have := mem_rpost n r; simp [*]; exact Or.comm
theorem rpost_kids (t : Tm) : t.rpost = t :: (t.kids.reverse.flatMap rpost) := by
  cases t <;> simp [rpost, kids]
theorem kids_size (t : Tm) : (t.kids.map size).sum + 1 = t.size := by
  cases t <;> simp [kids, size] <;> omega
theorem nums_len : ∀ t : Tm, t.nums.length ≤ t.size
  | v _ => Nat.le_refl _ | z => Nat.zero_le _ | s t => by have := nums_len t; unfold nums size; omega
  | f l r => by have := nums_len l; have := nums_len r; unfold nums size; rw [List.length_append]; omega
/-- all signs, as law's leaves has them -/
def signs : Tm → List V
  | v n => [.int n] | z => [.str "0"] | s t => .str "s" :: t.signs | f l r => .str "f" :: (l.signs ++ r.signs)
theorem signs_len : ∀ t : Tm, t.signs.length = t.size
  | v _ => rfl | z => rfl | s t => by unfold signs size; rw [List.length_cons, signs_len t]
  | f l r => by unfold signs size; rw [List.length_cons, List.length_append, signs_len l, signs_len r]
end Tm
/-- the ints of a row of ints and texts -/
def rowInts : List V → List Int
  | [] => []
  | .int n :: r => n :: rowInts r
  | _ :: r => rowInts r
theorem rowInts_append : ∀ a b : List V, rowInts (a ++ b) = rowInts a ++ rowInts b
  | [], b => rfl
  | x :: r, b => by cases x <;> simp [rowInts, rowInts_append r b]
theorem signs_nums : ∀ t : Tm, rowInts t.signs = t.nums
  | .v _ => rfl | .z => rfl | .s t => by simp [Tm.signs, Tm.nums, rowInts, signs_nums t]
  | .f l r => by simp [Tm.signs, Tm.nums, rowInts, rowInts_append, signs_nums l, signs_nums r]
/-- a row of ints and texts -/
def Flat2 : V → Prop
  | .int _ => True
  | .str _ => True
  | _ => False
theorem signs_flat : ∀ t : Tm, ∀ x ∈ t.signs, Flat2 x
  | .v _, x, h => by simp [Tm.signs] at h; subst h; trivial
  | .z, x, h => by simp [Tm.signs] at h; subst h; trivial
  | .s t, x, h => by
    simp only [Tm.signs, List.mem_cons] at h
    rcases h with h | h
    · subst h; trivial
    · exact signs_flat t x h
  | .f l r, x, h => by
    simp only [Tm.signs, List.mem_cons, List.mem_append] at h
    rcases h with h | h | h
    · subst h; trivial
    · exact signs_flat l x h
    · exact signs_flat r x h
/-! ### two rising rows of the same ints are one -/
theorem rising_one : ∀ {a b : List Int}, a.Pairwise (· < ·) → b.Pairwise (· < ·) → (∀ k, k ∈ a ↔ k ∈ b) → a = b
  | [], [], _, _, _ => rfl
  | [], y :: b, _, _, h => by have := (h y).2 (by simp); simp at this
  | x :: a, [], _, _, h => by have := (h x).1 (by simp); simp at this
  | x :: a, y :: b, ha, hb, h => by
    rw [List.pairwise_cons] at ha hb
    have exy : x = y := by
      rcases List.mem_cons.mp ((h x).1 (by simp)) with e | e
      · exact e
      · rcases List.mem_cons.mp ((h y).2 (by simp)) with e' | e'
        · exact e'.symm
        · have := hb.1 x e
          have := ha.1 y e'
          omega
    subst exy
    rw [rising_one ha.2 hb.2 fun k => ?_]
    constructor
    · intro hk
      rcases List.mem_cons.mp ((h k).1 (List.mem_cons_of_mem _ hk)) with e | e
      · have := ha.1 k hk; omega
      · exact e
    · intro hk
      rcases List.mem_cons.mp ((h k).2 (List.mem_cons_of_mem _ hk)) with e | e
      · have := hb.1 k hk; omega
      · exact e
/-! ### heaps -/
/-- all but b stays -/
def But (b : Addr) (H H' : Hp) : Prop := ∀ c o, H c = some o → c ≠ b → H' c = some o
theorem But.refl (b : Addr) (H : Hp) : But b H H := fun _ _ h _ => h
theorem But.trans {b : Addr} {H H1 H2 : Hp} (x : But b H H1) (y : But b H1 H2) : But b H H2 := fun c o h n => y c o (x c o h n) n
theorem but_of {b : Addr} {H H' : Hp} (x : Same H H') : But b H H' := fun c o h _ => x c o h
theorem same_new {H : Hp} {p : Addr} (h : H p = none) (o : HO) : Same H (upd H p o) := fun b u q => by rw [upd_ne (ne_of_none q h)]; exact q
theorem but_upd {H : Hp} {b : Addr} (o : HO) : But b H (upd H b o) := fun c u h n => by rw [upd_ne n]; exact h
/-- the box of draws: j bounds how often it was drawn from -/
structure BoxAt (H : Hp) (b : Addr) (j : Nat) : Prop where
  ex : ∃ x y z : Int, H b = some (.lst [.int x, .int y, .int z]) ∧ 0 ≤ x ∧ 0 ≤ y ∧ y < 10000000000 ∧ 0 ≤ z ∧ z ≤ (j : Int)
theorem BoxAt.same {H H' : Hp} {b : Addr} {j : Nat} (B : BoxAt H b j) (e : Same H H') : BoxAt H' b j := by
  obtain ⟨x, y, z, h, r⟩ := B.ex
  exact ⟨x, y, z, e _ _ h, r⟩
theorem BoxAt.more {H : Hp} {b : Addr} {j k : Nat} (B : BoxAt H b j) (h : j ≤ k) : BoxAt H b k := by
  obtain ⟨x, y, z, e, h1, h2, h3, h4, h5⟩ := B.ex
  exact ⟨x, y, z, e, h1, h2, h3, h4, by omega⟩
theorem BoxAt.some {H : Hp} {b : Addr} {j : Nat} (B : BoxAt H b j) : ∃ xs, H b = some (.lst xs) := by
  obtain ⟨x, y, z, e, _⟩ := B.ex
  exact ⟨_, e⟩
/-- a TERM stands as the value v -/
inductive TmAt (H : Hp) : V → Tm → Prop where
  | v (n : Int) : TmAt H (.int n) (.v n)
  | z {a : Addr} (h : H a = some (.tup [.str "0"])) : TmAt H (.ref a) .z
  | s {a : Addr} {x : V} {t : Tm} (h : H a = some (.tup [.str "s", x])) (q : TmAt H x t) : TmAt H (.ref a) (.s t)
  | f {a : Addr} {x y : V} {l r : Tm} (h : H a = some (.tup [.str "f", x, y])) (q : TmAt H x l) (q' : TmAt H y r) : TmAt H (.ref a) (.f l r)
theorem TmAt.mono {H H' : Hp} (e : ∀ a xs, H a = some (.tup xs) → H' a = some (.tup xs)) {v : V} {t : Tm} (h : TmAt H v t) : TmAt H' v t := by
  induction h with
  | v n => exact .v n
  | z h => exact .z (e _ _ h)
  | s h _ ih => exact .s (e _ _ h) ih
  | f h _ _ ih ih' => exact .f (e _ _ h) ih ih'
theorem TmAt.same {H H' : Hp} (e : Same H H') {v : V} {t : Tm} (h : TmAt H v t) : TmAt H' v t := h.mono fun a xs q => e a _ q
theorem TmAt.but {H H' : Hp} {b : Addr} {ys : List V} (e : But b H H') (hb : H b = some (.lst ys)) {v : V} {t : Tm} (h : TmAt H v t) : TmAt H' v t :=
  h.mono fun a xs q => e a _ q (ne_of q hb (by intro z; cases z))
/-! ### what is alike, kind by kind (to a depth) -/
def Plain : V → Prop
  | .non => True
  | .bl _ => True
  | .int _ => True
  | .str _ => True
  | _ => False
def Alike (H : Hp) : Nat → V → V → Prop
  | 0, x, y => Plain x ∧ x = y
  | n + 1, x, y => (Plain x ∧ x = y) ∨ ∃ a b xs ys, x = .ref a ∧ y = .ref b ∧ ((H a = some (.lst xs) ∧ H b = some (.lst ys)) ∨ (H a = some (.tup xs) ∧ H b = some (.tup ys))) ∧
      xs.length = ys.length ∧ xs.length ≤ 1000000 ∧ ∀ (i : Nat) (u v : V), xs[i]? = some u → ys[i]? = some v → Alike H n u v
theorem Alike.mono {H H' : Hp} (e : Same H H') : ∀ (n : Nat) {x y : V}, Alike H n x y → Alike H' n x y
  | 0, _, _, h => by unfold Alike at h ⊢; exact h
  | n + 1, x, y, h => by
    unfold Alike at h ⊢
    rcases h with h | ⟨a, b, xs, ys, h1, h2, h3, h4, h5, h6⟩
    · exact .inl h
    · exact .inr ⟨a, b, xs, ys, h1, h2, h3.imp (fun q => ⟨e _ _ q.1, e _ _ q.2⟩) (fun q => ⟨e _ _ q.1, e _ _ q.2⟩), h4, h5, fun i u v p q => Alike.mono e n (h6 i u v p q)⟩
theorem alike_ints {H : Hp} {n : Nat} {a b : Addr} {ns : List Int} (ha : H a = some (.lst (ns.map V.int))) (hb : H b = some (.lst (ns.map V.int))) (hl : ns.length ≤ 1000000) : Alike H (n + 1) (.ref a) (.ref b) := by
  unfold Alike
  refine .inr ⟨a, b, _, _, rfl, rfl, .inl ⟨ha, hb⟩, rfl, by rw [List.length_map]; exact hl, fun i u v h1 h2 => ?_⟩
  have e : u = v := Option.some.inj (h1.symm.trans h2)
  subst e
  rw [List.getElem?_map] at h1
  cases q : ns[i]? with
  | none => rw [q] at h1; cases h1
  | some k =>
    rw [q] at h1
    cases h1
    cases n with
    | zero => unfold Alike; exact ⟨trivial, rfl⟩
    | succ n => unfold Alike; exact .inl ⟨trivial, rfl⟩
end Rp

/-! Defs whose body asks for the repr of lists and tuples: their promise is kept where no repr is at work (the around's guards are told to be none), and so where the law itself is called. -/
namespace Rp
open PySem PySem.Spec PyProof.Rows L2
structure GnOk (P : Program) (w : World) (K : PySem.W.Frag) (mg : Str → Option Value) (base : Heap) (k : Nat) (f : Addr) (fd : FuncData) (ps : List Str) (sp : Sp) : Prop where
  len : ∀ vs H Q E, sp vs H Q E → vs.length = ps.length
  run : ∀ (A : Around) (outer : List Env) (s : Shared) (H : Hp) (args : Args) (us : List Value) (vs : List V) (Q : VK) (E : XK), A.guards = some [] → Room k A → Env0 P w K mg base A outer s H → BindsTo s fd args (ps.zip us) → Vals vs us → sp vs H Q E →
    codeAny (model P w) A (.call (.ref f) args) (CR CX0 outer P w H s Q E) s
section
variable {P : Program} {w : World} {K : PySem.W.Frag} {mg : Str → Option Value} {base : Heap}
/-- a def by its body, the guards told -/
theorem gok {x qual : Str} {st : Stmt} {f : Addr} {fd : FuncData} {N ps : List Str} {k : Nat} {sp : Sp} (F : Fun K x qual st f fd) (S : FnScope N ps (defScope st)) (len : ∀ vs H Q E, sp vs H Q E → vs.length = ps.length)
    (walk : ∀ (cdv : Value) (A : Around) (outer : List Env) (s : Shared) (H : Hp) (vs : List V) (Q : VK) (E : XK), A.guards = some [] → Room k (A.deeper (envOfC qual (defScope st) s.heap.objs.size f cdv)) → sp vs H Q E →
      ∃ t, PSs (cxOf CX0 P w K mg base N qual (defScope st) f cdv A outer s H E).nox (defBody st) t ∧ t { nx := fun _ H' => Q .non H', rt := Q } (start N vs) H) : GnOk P w K mg base (k + 1) f fd ps sp := by
  obtain ⟨oc, od, kV, doc, pm, an, cdv, ct, osl, rfl, lk, hcd⟩ := F.ex
  refine ⟨len, fun A outer s H args us vs Q E hg hr e0 hb r hsp => ?_⟩
  have K0 : K.In s.heap := e0.mod.kin.keeps fun b o e => (e0.bs b o e).1
  have L0 : s.heap.NoLimit := e0.mod.nolimit.keeps fun b o e => (e0.bs b o e).1
  have each : ∀ y ∈ ps.zip us, (defScope st).names.lookup y.1 = some .local ∨ ((defScope st).names.lookup y.1 = some .cell ∧ ((cellsFrom (s.heap.objs.size + 1) (defScope st).names []).lookup y.1).isSome = true) := by
    rintro ⟨n, v⟩ hy
    exact (S.par n (List.of_mem_zip hy).1).imp id fun q => ⟨q, PySem.W.cellsFrom_some _ _ _ (.inl q)⟩
  refine codeAny_call_function hr.depth (K0 _ _ lk) rfl S.co S.gen rfl (PySem.W.codeRec_of K0 hcd) (hb _ _ _ _ (wpAny_newFunctionEnv_cells S.kind each fun env he s1 z => ?_))
  subst he
  refine ⟨L0.keeps z.toInCall.keep, codeAny_func ?_⟩
  obtain ⟨t, ht, hq⟩ := walk cdv A outer s H vs Q E hg (hr.deeper _) hsp
  have I : L2.Inv (cxOf CX0 P w K mg base N qual (defScope st) f cdv A outer s H E) [] (start N vs) H s1 := inv_start S hr.hd e0 (len _ _ _ _ hsp) r z
  refine wpAny_mono (ht.nox.run [] s1 (start N vs) H _ I hq) (fun fl s' hs => ?_) fun e s' hs => hs
  rcases fl with _ | _ | _ | u
  · obtain ⟨_, H', J, q⟩ := hs
    exact ⟨V.non, H', J.os, J.bare, J.base, J.hok, rfl, q⟩
  · exact hs.choose_spec.choose_spec.2.elim
  · exact hs.choose_spec.choose_spec.2.elim
  · obtain ⟨v, _, H', J, rv, q⟩ := hs
    exact ⟨v, H', J.os, J.bare, J.base, J.hok, rv, q⟩
end
section
variable {X : Cx} {k : Nat} {f : Addr} {fd : FuncData} {ps : List Str} {sp : Sp} {E : XK} {x : Str} {p pos : Pos} {e : Expr} {es : List Expr} {t : TA}
theorem pe_callG (F : GnOk X.prog X.w X.K X.mg X.base k f fd ps sp) (hgd : X.A.guards = some []) (hr : Room k X.A) (hg : Gl X x) (hm : X.mg x = some (.ref f)) (hk : PySem.W.keepIn X.K (.ref f) = true) (hb : Binds X.K fd ps []) (ha : PA X (e :: es) t)
    (hdb : (x == ("__debug__" : Str)) = false := by decide) (he : starEach (e :: es) X.env = (false, eval e X.env) :: starEach es X.env := by rfl) (hpl : (backTo pos (starEach es X.env)).any (·.1) = false := by rfl) :
    PE X (.Call (.Name x p) (e :: es) [] pos) (tCall sp [] E0 t) := by
  refine ⟨fun pins s σ H Q I h => wpAny_Call_Name_kw (ld_glob I hg hm ?_ hdb)⟩
  refine PySem.W.callWith_K (h₀ := X.base) I.ok.mod.kin hk (thn (ha.run pos pins s σ H _ I h) fun us s1 ⟨vs, H1, I1, r, q⟩ => ⟨I1.kIn, ?_⟩) he hpl
  have q : sp vs H1 Q E0 := by
    have z : sp (vs ++ []) H1 Q E0 := q
    rwa [List.append_nil] at z
  have hl : us.length = ps.length := r.length.symm.trans (F.len _ _ _ _ q)
  have hb' := hb s1 us I1.kIn (by rw [List.append_nil]; exact hl)
  rw [List.append_nil] at hb'
  refine wpAny_call (codeAny_mono (F.run X.A X.stack s1 H1 ⟨us, []⟩ us vs Q E0 hgd hr I1.env0 hb' r q) fun r' s' hq => ?_)
  rcases r' with e' | fl
  · exact hq.elim
  · rcases fl with _ | _ | _ | u
    · exact hq.elim
    · exact hq.elim
    · exact hq.elim
    · exact I1.after hq
/-- repr(v), v data at any depth -/
def rReprD (K : PySem.W.Frag) : List V → Hp → VK → Prop := fun vs H Q => ∃ (v : V) (d : PyData), vs = [v] ∧ Dp K H v d ∧ d.showable = true ∧ d.hasDict = false ∧ d.depth ≤ 64 ∧ d.shown.length ≤ sizeLine ∧ Q (.str d.shown) H
theorem cr_reprD (hgd : X.A.guards = some []) (hu : X.A.units + 66 < cLine) : CallR X (.builtin "repr") (rReprD X.K) := by
  intro pins s σ H vs us Q I r h
  obtain ⟨v, d, rfl, hd, sh, nd, dp, sz, q⟩ := h
  obtain ⟨u, rfl, ru⟩ := vals1 r
  obtain ⟨as, rd⟩ := Dp.reads I d v u hd ru
  cases hd with
  | non => cases ru; exact PySem.P.repr_of_none ⟨.str "None", H, I.tok _, ⟨_, rfl⟩, by simpa [PyData.shown] using q⟩
  | bl b => cases ru; exact PySem.P.repr_of_bool ⟨.str (if b then "True" else "False"), H, I.tok _, ⟨_, rfl⟩, by simpa [PyData.shown] using q⟩
  | int i =>
    obtain ⟨t, rfl⟩ := ru
    exact PySem.P.repr_of_int (by simpa [PyData.showable] using sh) ⟨.str (toString i), H, I.tok _, ⟨_, rfl⟩, by simpa [PyData.shown] using q⟩
  | str x =>
    obtain ⟨t, rfl⟩ := ru
    exact PySem.P.repr_of_str ⟨.str (reprText x), H, I.tok _, ⟨_, rfl⟩, by simpa [PyData.shown] using q⟩ (by simpa [PyData.shown] using sz)
  | lst a b =>
    cases ru
    exact PySem.repr_of_reads' rd sh (fun e => by rw [nd] at e; cases e) hgd (by omega) (fun _ _ e => e) (fun h' u tk k => ⟨.str _, H, I.kept (t' := tk) k, ⟨u, rfl⟩, q⟩) sz
  | tup a b =>
    cases ru
    exact PySem.repr_of_reads' rd sh (fun e => by rw [nd] at e; cases e) hgd (by omega) (fun _ _ e => e) (fun h' u tk k => ⟨.str _, H, I.kept (t' := tk) k, ⟨u, rfl⟩, q⟩) sz
end
/-- the law's own call, its promise with the guards told -/
theorem law_callG {P : Program} {w : World} {K : PySem.W.Frag} {mg mb : Str → Option Value} {k : Nat} {fa a : Addr} {fd : FuncData} {x : Str} {sp : Sp} {s₁ : Shared} {vs : List Value} {ns : List Int}
    (KX : K.In s₁.heap) (hns : s₁.heap.Ns mainGlobals mg) (hb : s₁.heap.Ns builtinsNs mb) (hbb : ∀ x : Str, x ≠ "__name__" → mb x = bootBuiltins x) (hlim : s₁.heap.NoLimit) (hg : s₁.gens = #[])
    (ha : s₁.heap.get? a = some { cls := .type "list", data := .seq vs.toArray }) (hi : IntsAre vs ns) (hl : ns.length ≤ sizeLine) (hr : Room k callerA)
    (F : ∀ base : Heap, K.In base → base.Ns mainGlobals mg → GnOk P w K mg base k fa fd [x] sp) (bind : ∀ (s : Shared) (u : Value), BindsTo s fd ⟨[u], []⟩ [(x, u)])
    (ask : ∀ H : Hp, Only H → SqL K H a (ns.map V.int) → sp [.ref a] H (fun v _ => v = .bl true) E0) :
    codeAny (model P w) callerA (.call (.ref fa) ⟨[.ref a], []⟩) (fun r s' => r = .ok (.ret (.bool true)) ∧ OldK s₁.heap s'.heap ∧ s'.os = s₁.os ∧ AllBare s'.gens) s₁ := by
  have rv := vals_ints hi
  have lenV := hi.length
  have from_ : ∀ H : Hp, Only H → SqL K H a (ns.map V.int) → HOk P w H s₁.heap → (∀ b, H b ≠ none → b = a ∧ K.lookup a = none) →
      codeAny (model P w) callerA (.call (.ref fa) ⟨[.ref a], []⟩) (fun r s' => r = .ok (.ret (.bool true)) ∧ OldK s₁.heap s'.heap ∧ s'.os = s₁.os ∧ AllBare s'.gens) s₁ := by
    intro H only hS hok hA
    have free : ∀ {b : Addr} {o : Obj}, s₁.heap.get? b = some o → (b = a → False) → H b = none := fun {b o} _ n => by
      cases q : H b with
      | none => rfl
      | some u => exact (n (hA b (by rw [q]; simp)).1).elim
    have low : ∀ {b : Addr} {o : Obj}, s₁.heap.get? b = some o → H b = none → (hidT s₁.heap H).get? b = some o := fun e n => hidT_get e n
    have names : ∀ {b : Addr} {m : Str → Option Value}, s₁.heap.Ns b m → (hidT s₁.heap H).Ns b m := fun {b m} ⟨o, es, ep, e, d, r⟩ =>
      ⟨o, es, ep, low e (free e fun z => by subst z; rw [ha] at e; cases e; cases d), d, r⟩
    have hK : K.In (hidT s₁.heap H) := fun b o e => low (KX b o e) (by
      cases q : H b with
      | none => rfl
      | some u =>
        obtain ⟨z, zk⟩ := hA b (by rw [q]; simp)
        subst z
        rw [zk] at e; cases e)
    have M : Mod K mg (hidT s₁.heap H) := ⟨hK, names hns, ⟨mb, names hb, hbb⟩, let ⟨mc, h1, h2⟩ := hlim; ⟨mc, names h1, h2⟩⟩
    have e0 : Env0 P w K mg (hidT s₁.heap H) callerA [] s₁ H := ⟨rfl, M, fun b o e => of_hidT e, Nat.le_of_eq (hidT_size _ _), trivial, fun b z => absurd (show b ∈ ([] : List Addr) from z) (by simp), hok, .of_eq hg⟩
    refine codeAny_mono ((F _ hK (names hns)).run callerA [] s₁ H ⟨[.ref a], []⟩ [.ref a] [.ref a] _ _ rfl hr e0 (bind s₁ (.ref a)) (.cons rfl .nil) (ask H only hS)) fun r s' h => ?_
    rcases r with e | fl
    · exact h.elim
    · rcases fl with _ | _ | _ | u
      · exact h.elim
      · exact h.elim
      · exact h.elim
      · obtain ⟨v, H', os, bare, un, hok', r', q⟩ := h
        obtain rfl : v = .bl true := q
        obtain rfl : u = Value.bool true := r'
        refine ⟨rfl, OldK.of_keep fun b o e => ?_, os, bare⟩
        cases q : H b with
        | none => exact un.keep b o e q (by intro z; exact absurd (show b ∈ ([] : List Addr) from z) (by simp)) (by simp)
        | some u =>
          rcases only b with z | ⟨ob, xs, z⟩
          · rw [q] at z; cases z
          · obtain ⟨e1, _⟩ := hok b _ z
            obtain ⟨e2, _⟩ := hok' b _ (un.frzs b ob _ z)
            rw [e] at e1; cases e1
            exact e2
  cases hk : K.lookup a with
  | some o =>
    have e := KX a o hk
    rw [ha] at e
    cases e
    exact from_ (fun _ => none) (fun _ => .inl rfl) (.inr ⟨_, vs.toArray, _, hk, rfl, rfl, rfl, by rw [List.size_toArray, lenV]; exact hl, by simpa using rv⟩) (fun b u z => nomatch (show (none : Option HO) = some u from z)) fun b z => absurd rfl z
  | none =>
    have at_ : ∀ b, (fun b => if b = a then some (HO.frz { cls := .type "list", data := .seq vs.toArray } (.lst (ns.map V.int))) else none) b ≠ none → b = a := fun b z => by
      by_cases hb : b = a
      · exact hb
      · exact absurd (if_neg hb) z
    refine from_ _ (fun b => ?_) (.inl (.inr ⟨_, if_pos rfl⟩)) (fun b u z => ?_) fun b z => ⟨at_ b z, hk⟩
    · by_cases hb : b = a
      · exact .inr ⟨_, _, if_pos hb⟩
      · exact .inl (if_neg hb)
    · have hb := at_ b (fun e => by have y := z.symm.trans e; cases y)
      subst hb
      have z' := (if_pos rfl).symm.trans z
      cases z'
      exact ⟨ha, by rw [List.length_map]; exact hl, vs, _, rv, ha⟩
theorem walk_ofG {l : PySem.W.OpenLaw} {n k : Nat} {q : Program} {loose : List Str} {XP : (Str → Option Value) → Heap → Prop} {YP : World → Heap → Prop} {d : DefRec} {K : Params → PySem.W.Frag} {sp : PySem.W.Frag → Sp} {x : Str}
    (hn : l.most = some n) (hn2 : n ≤ sizeLine) (hdf : d.params.defaults = []) (hr : Room k callerA) (hY : ∀ (w : World) (h : Heap), YP w h → (K w.params).In h)
    (F : ∀ (w : World) (mg : Str → Option Value) (fa : Addr) (h : Heap), (K w.params).In h → h.Ns mainGlobals mg → mg d.name = some (.ref fa) →
      ∃ fd : FuncData, (∀ (s : Shared) (u : Value), BindsTo s fd ⟨[u], []⟩ [(x, u)]) ∧ ∀ base : Heap, (K w.params).In base → base.Ns mainGlobals mg → GnOk l.prog w (K w.params) mg base k fa fd [x] (sp (K w.params)))
    (ask : ∀ (K : PySem.W.Frag) (H : Hp) (a : Addr) (ns : List Int), ns.length ≤ n → Only H → SqL K H a (ns.map V.int) → sp K [.ref a] H (fun v _ => v = .bl true) E0) :
    PySem.W.WalkO q loose XP YP l.row.toRowW d [] (fun f vs => PySem.call f vs) := by
  refine Att.attach_call hn hdf fun w s₀ s₁ mg mb fa o pm cd doc a vs ns G Y ho hd hcd hmg hobj hints hlen hg => ?_
  obtain ⟨fd, hb, hF⟩ := F w mg fa _ (hY w _ Y) G.T.g hmg
  exact law_callG (hY w _ Y) G.T.g G.T.b G.T.builtins G.T.nolimit hg hobj hints (Nat.le_trans hlen hn2) hr hF hb fun H hO hS => ask _ H a ns hlen hO hS
end Rp

namespace Rp
open PySem L2
def top (i : Nat) : Stmt := PySem.Challenge.pw_ringproofs_k35_charts_by_their_parts.main.body.getD i (.Pass ⟨0, 0, 0, 0⟩)
abbrev sNumber : Stmt := top 3
abbrev sPlace : Stmt := top 4
abbrev sVariable : Stmt := top 5
abbrev sShape : Stmt := top 6
abbrev sTerm : Stmt := top 7
abbrev sIsPair : Stmt := top 8
abbrev sIsBinding : Stmt := top 9
abbrev sIsName : Stmt := top 13
abbrev sIsAtom : Stmt := top 14
abbrev sUnlike : Stmt := top 17
abbrev sIsSaying : Stmt := top 18
abbrev sIsStep : Stmt := top 20
abbrev sIsChart : Stmt := top 22
abbrev sNamed : Stmt := top 23
abbrev sLeaned : Stmt := top 24
abbrev sGoals : Stmt := top 25
abbrev sBox : Stmt := top 27
abbrev sTake : Stmt := top 28
abbrev sPick : Stmt := top 29
abbrev sSame : Stmt := top 30
abbrev sNames : Stmt := top 31
abbrev sTermL : Stmt := top 32
abbrev sUnlikeL : Stmt := top 33
abbrev sShapes : Stmt := top 34
abbrev sAtomL : Stmt := top 35
abbrev sSayingL : Stmt := top 36
abbrev sOther : Stmt := top 37
abbrev sCountW : Stmt := top 38
abbrev sTermW : Stmt := top 39
abbrev sWordW : Stmt := top 40
abbrev sAtomW : Stmt := top 41
abbrev sSayingW : Stmt := top 42
abbrev sBindingW : Stmt := top 43
abbrev sStepW : Stmt := top 44
abbrev sPuts : Stmt := top 45
abbrev sKnown : Stmt := top 46
abbrev sBad : Stmt := top 47
abbrev sChartL : Stmt := top 48
abbrev sNRight : Stmt := top 49
abbrev sWild : Stmt := top 50
abbrev sLaw : Stmt := top 51
end Rp

namespace Rp
open PySem L2
/-! ### promises -/
def spBox (K : PySem.W.Frag) : Sp := fun vs H Q _ => ∃ (a : Addr) (ns : List Int) (k : Int), vs = [.ref a, .int k] ∧ SqL K H a (ns.map V.int) ∧ ns.length ≤ 63 ∧ 0 ≤ k ∧ k ≤ 63 ∧
  ∀ (b : Addr) (H' : Hp), H b = none → BoxAt H' b 0 → Same H H' → Q (.ref b) H'
def spTake : Sp := fun vs H Q _ => ∃ (b : Addr) (c : Int) (j : Nat), vs = [.ref b, .int c] ∧ BoxAt H b j ∧ j ≤ 1000000 ∧ 1 ≤ c ∧ c ≤ 1000000000 ∧
  ∀ (r : Int) (H' : Hp), 0 ≤ r → r < c → BoxAt H' b (j + 1) → But b H H' → Q (.int r) H'
def spPick : Sp := fun vs H Q _ => ∃ (b p : Addr) (xs : List V) (j : Nat), vs = [.ref b, .ref p] ∧ BoxAt H b j ∧ j ≤ 1000000 ∧ H p = some (.lst xs) ∧ p ≠ b ∧ 1 ≤ xs.length ∧ xs.length ≤ 1000000 ∧
  ∀ (v : V) (H' : Hp), v ∈ xs → BoxAt H' b (j + 1) → But b H H' → Q v H'
section
variable {P : Program} {w : World} {K : PySem.W.Frag} {mg : Str → Option Value} {base : Heap}
theorem fmod_pos {a c : Int} (h : 0 < c) : 0 ≤ a.fmod c ∧ a.fmod c < c := by
  rw [Int.fmod_eq_emod_of_nonneg a (Int.le_of_lt h)]
  exact ⟨Int.emod_nonneg a (by omega), Int.emod_lt_of_pos a h⟩
theorem fdiv_pos {a c : Int} (h : 0 < c) (ha : 0 ≤ a) : 0 ≤ a.fdiv c := by
  rw [Int.fdiv_eq_ediv_of_nonneg a (Int.le_of_lt h)]
  exact Int.ediv_nonneg ha (Int.le_of_lt h)
theorem scBox : FnScope ["_law_script", "_law_k", "_law_cell"] ["_law_script", "_law_k"] (defScope sBox) := ⟨rfl, rfl, rfl, by decide +kernel, rfl, by decide +kernel, by decide +kernel⟩
theorem ok_box {f : Addr} {fd : FuncData} (F : Fun K "_law_box" "_law_box" sBox f fd) (mLen : mg "len" = none) (mAbs : mg "abs" = none) (mInt : mg "int" = none) :
    FnOk P w K mg base CX0 1 f fd ["_law_script", "_law_k"] (spBox K) := by
  refine F.ok scBox (fun vs H Q E h => ?_) (fun cdv A outer s H vs Q E hr h => ?_)
  · obtain ⟨a, ns, k, rfl, _⟩ := h
    rfl
  obtain ⟨a, ns, k, rfl, hS, hl, h0, h1, q⟩ := h
  refine ⟨_, pss_cons (ps_set (i := 2) scBox.nd rfl (Or.inl rfl) pe_int)
    (pss_cons (ps_if (pt_cmpR op_lt (pv 1) (pe_callB call_len_seq (by rfl) mLen PySem.boot_len (pa_cons (pv 0) pa_nil)) (nomark _))
      (pss_one (ps_set (i := 2) scBox.nd rfl (Or.inl rfl) (pe_ix ix_list (pv 0) (pv 1) (fun _ _ => rfl)))) pss_nil)
    (pss_one (ps_ret (pe_lst (pa_cons
      (pe_op op_mul (pe_callB call_abs (by rfl) mAbs (by decide +kernel) (pa_cons (pv 2) pa_nil))
        (pe_callTy call_int1 (by rfl) mInt (by decide +kernel) (pa_cons (pe_cmpR op_ge (pe_callB call_abs (by rfl) mAbs (by decide +kernel) (pa_cons (pv 2) pa_nil)) (pe_op op_pow pe_int pe_int) (nomark _)) pa_nil)))
      (pa_cons (pe_op op_add (pe_op op_add (pe_op op_modN (pv 2) pe_int) (pe_op op_mul pe_int (pv 1))) pe_int) (pa_cons pe_int pa_nil))))))), ?_⟩
  refine ⟨_, rfl, _, rfl, a, _, rfl, .inl hS, _, _, rfl, rfl, _, rfl, ?_⟩
  have two : ∀ (b : Bool), -(2 ^ 64) < (if b = true then (1 : Int) else 0) ∧ (if b = true then (1 : Int) else 0) < 2 ^ 64 ∧ 0 ≤ (if b = true then (1 : Int) else 0) := by decide
  have pos : ∀ c : Int, 0 ≤ if c < 0 then -c else c := fun c => by split <;> omega
  have m := fun c : Int => fmod_pos (a := c) (c := 2147483629) (by decide)
  refine ite2 (fun c => ?_) (fun c => ?_)
  · have hk : k.toNat < ns.length := by
      have z : k < (((ns.map V.int).length : Nat) : Int) := of_decide_eq_true c
      rw [List.length_map] at z
      omega
    have it : atI (ns.map V.int) k = some (.int ns[k.toNat]) := at_of (j := k.toNat) (by omega) (by rw [List.getElem?_map, List.getElem?_eq_getElem hk]; rfl)
    refine ⟨_, rfl, _, rfl, a, _, _, _, rfl, rfl, hS, it, ?_⟩
    refine ⟨_, rfl, _, rfl, _, rfl, _, rfl, _, _, rfl, rfl, ⟨by decide, by decide, by decide⟩, _, _, rfl, rfl, .inr ⟨_, rfl, ?_⟩⟩
    refine ⟨_, _, rfl, rfl, .inr ⟨(two _).1, (two _).2.1⟩, _, rfl, _, _, rfl, rfl, (fun h => absurd h (by decide)), _, rfl, _, _, rfl, rfl, .inl ⟨by decide, by decide⟩, _, _, rfl, rfl, _, _, rfl, rfl, (by show 3 ≤ sizeLine; decide), fun b hb => ?_⟩
    have mm := m ns[k.toNat]
    exact q b _ hb ⟨_, _, _, upd_same, Int.mul_nonneg (pos _) (two _).2.2, by omega, by omega, by decide, by decide⟩ (same_new hb _)
  · refine ⟨_, rfl, _, rfl, _, rfl, _, rfl, _, _, rfl, rfl, ⟨by decide, by decide, by decide⟩, _, _, rfl, rfl, .inr ⟨_, rfl, ?_⟩⟩
    refine ⟨_, _, rfl, rfl, .inr ⟨(two _).1, (two _).2.1⟩, _, rfl, _, _, rfl, rfl, (fun h => absurd h (by decide)), _, rfl, _, _, rfl, rfl, .inl ⟨by decide, by decide⟩, _, _, rfl, rfl, _, _, rfl, rfl, (by show 3 ≤ sizeLine; decide), fun b hb => ?_⟩
    have mm := m 0
    exact q b _ hb ⟨_, _, _, upd_same, Int.mul_nonneg (pos _) (two _).2.2, by omega, by omega, by decide, by decide⟩ (same_new hb _)
theorem scTake : FnScope ["_law_box_here", "_law_reach", "_law_found", "_law_once"] ["_law_box_here", "_law_reach"] (defScope sTake) := ⟨rfl, rfl, rfl, by decide +kernel, rfl, by decide +kernel, by decide +kernel⟩
theorem ok_take {f : Addr} {fd : FuncData} (F : Fun K "_law_take" "_law_take" sTake f fd) : FnOk P w K mg base CX0 1 f fd ["_law_box_here", "_law_reach"] spTake := by
  refine F.ok scTake (fun vs H Q E h => ?_) (fun cdv A outer s H vs Q E hr h => ?_)
  · obtain ⟨b, c, j, rfl, _⟩ := h
    rfl
  obtain ⟨b, c, j, rfl, B, hj, h1, h2, q⟩ := h
  obtain ⟨x, y, z, hb, x0, y0, y1, z0, z1⟩ := id B
  have s0 : SqL K H b [.int x, .int y, .int z] := .inl (.inl hb)
  have a0 : ∀ u v t : Int, atI [V.int u, .int v, .int t] 0 = some (.int u) := fun u v t => at_of (j := 0) rfl rfl
  have a1 : ∀ u v t : Int, atI [V.int u, .int v, .int t] 1 = some (.int v) := fun u v t => at_of (j := 1) rfl rfl
  have a2 : ∀ u v t : Int, atI [V.int u, .int v, .int t] 2 = some (.int t) := fun u v t => at_of (j := 2) rfl rfl
  refine ⟨_, pss_cons (ps_if (pt_cmpR op_gt (pe_ix ix_list (pv 0) pe_int (fun _ _ => rfl)) pe_int (nomark _))
      (pss_cons (ps_set (i := 2) scTake.nd rfl (Or.inl rfl) (pe_op op_modN (pe_ix ix_list (pv 0) pe_int (fun _ _ => rfl)) (pv 1)))
      (pss_cons (ps_asg (pe_op op_fdivN (pe_ix ix_list (pv 0) pe_int (fun _ _ => rfl)) (pv 1)) (pg_sub (pv 0) pe_int set_list))
      (pss_one (ps_ret (pv 2))))) pss_nil)
    (pss_cons (ps_asg (pe_op op_add (pe_ix ix_list (pv 0) pe_int (fun _ _ => rfl)) pe_int) (pg_sub (pv 0) pe_int set_list))
    (pss_cons (ps_set (i := 3) scTake.nd rfl (Or.inl rfl) (pe_op op_modN (pe_op op_pow (pe_op op_add (pe_ix ix_list (pv 0) pe_int (fun _ _ => rfl)) (pe_op op_mul pe_int (pe_ix ix_list (pv 0) pe_int (fun _ _ => rfl)))) pe_int) pe_int))
    (pss_one (ps_ret (pe_op op_modN (pe_op op_fdivN (pe_op op_modN (pe_op op_add (pe_op op_mul (pv 3) (pe_op op_add (pe_op op_modN (pv 3) pe_int) pe_int)) (pe_op op_mul (pe_ix ix_list (pv 0) pe_int (fun _ _ => rfl)) pe_int)) pe_int) pe_int) (pv 1)))))), ?_⟩
  refine ⟨_, rfl, b, _, _, _, rfl, rfl, s0, a0 _ _ _, _, _, rfl, rfl, _, rfl, ?_⟩
  refine ite2 (fun d => ?_) (fun d => ?_)
  · refine ⟨_, rfl, b, _, _, _, rfl, rfl, s0, a0 _ _ _, _, rfl, _, _, rfl, rfl, (by omega), ?_⟩
    refine ⟨_, rfl, b, _, _, _, rfl, rfl, s0, a0 _ _ _, _, rfl, _, _, rfl, rfl, ⟨by omega, by omega⟩, ?_⟩
    refine ⟨_, rfl, b, _, _, 0, rfl, rfl, hb, rfl, ?_⟩
    have m := fmod_pos (a := x) (c := c) (by omega)
    exact ⟨_, rfl, q _ _ m.1 m.2 ⟨_, _, _, upd_same, fdiv_pos (by omega) x0, y0, y1, z0, by omega⟩ (but_upd _)⟩
  · refine ⟨_, rfl, b, _, _, _, rfl, rfl, s0, a2 _ _ _, _, _, rfl, rfl, ?_⟩
    refine ⟨_, rfl, b, _, _, 2, rfl, rfl, hb, rfl, ?_⟩
    have hb' : (upd H b (.lst [.int x, .int y, .int (z + 1)])) b = some (.lst [.int x, .int y, .int (z + 1)]) := upd_same
    have s1 : SqL K (upd H b (.lst [.int x, .int y, .int (z + 1)])) b [.int x, .int y, .int (z + 1)] := .inl (.inl hb')
    refine ⟨_, rfl, b, _, _, _, rfl, rfl, s1, a1 _ _ _, _, rfl, b, _, _, _, rfl, rfl, s1, a2 _ _ _, _, _, rfl, rfl, .inl ⟨by decide, by decide⟩, _, _, rfl, rfl, _, _, rfl, rfl, ⟨by decide, by decide, by omega⟩, _, _, rfl, rfl, (fun h => absurd h (by decide)), ?_⟩
    generalize (y + 39373 * (z + 1)) ^ Int.toNat 5 = g
    have m := fmod_pos (a := g) (c := 2147483647) (by decide)
    refine ⟨_, rfl, _, rfl, _, _, rfl, rfl, (fun h => absurd h (by decide)), _, _, rfl, rfl, _, _, rfl, rfl, .inl ⟨by omega, by omega⟩, _, rfl, b, _, _, _, rfl, rfl, s1, a2 _ _ _, _, _, rfl, rfl, .inl ⟨by omega, by omega⟩, _, _, rfl, rfl, _, _, rfl, rfl, (fun h => absurd h (by decide)), _, _, rfl, rfl, ⟨by decide, by decide⟩, _, rfl, _, _, rfl, rfl, (by omega), ?_⟩
    generalize Int.fdiv _ _ = e
    have m2 := fmod_pos (a := e) (c := c) (by omega)
    exact q _ _ m2.1 m2.2 ⟨_, _, _, upd_same, x0, y0, y1, by omega, by omega⟩ (but_upd _)
theorem scPick : FnScope ["_law_box_here", "_law_things"] ["_law_box_here", "_law_things"] (defScope sPick) := ⟨rfl, rfl, rfl, by decide +kernel, rfl, by decide +kernel, by decide +kernel⟩
theorem ok_pick {f fT : Addr} {fd fdT : FuncData} (F : Fun K "_law_pick" "_law_pick" sPick f fd) (FT : Fun K "_law_take" "_law_take" sTake fT fdT) (bT : Binds K fdT ["_law_box_here", "_law_reach"] []) (mT : mg "_law_take" = some (.ref fT)) (mLen : mg "len" = none) :
    FnOk P w K mg base CX0 2 f fd ["_law_box_here", "_law_things"] spPick := by
  have GT : FnOk P w K mg base CX0 1 fT fdT ["_law_box_here", "_law_reach"] spTake := ok_take FT
  refine F.ok scPick (fun vs H Q E h => ?_) (fun cdv A outer s H vs Q E hr h => ?_)
  · obtain ⟨b, p, xs, j, rfl, _⟩ := h
    rfl
  obtain ⟨b, p, xs, j, rfl, B, hj, hp, ne, l1, l2, q⟩ := h
  refine ⟨_, pss_one (ps_ret (pe_ix ix_list (pv 1) (pe_call GT hr rfl mT FT.kp bT .nil pass0 (pa_cons (pv 0) (pa_cons (pe_callB call_len_seq (by rfl) mLen PySem.boot_len (pa_cons (pv 1) pa_nil)) pa_nil))) (fun _ _ => rfl))), ?_⟩
  refine ⟨_, rfl, _, rfl, _, rfl, p, _, rfl, .inl (.inl (.inl hp)), b, _, j, rfl, B, hj, by omega, by omega, fun r H' r0 r1 B' o => ?_⟩
  have hr' : r.toNat < xs.length := by omega
  refine ⟨p, _, _, _, rfl, rfl, .inl (.inl (o _ _ hp ne)), at_of (j := r.toNat) (v := xs[r.toNat]) (by omega) (List.getElem?_eq_getElem hr'), ?_⟩
  exact q _ _ (List.getElem_mem hr') B' o
end
end Rp

namespace Rp
open PySem L2
section
variable {P : Program} {w : World} {K : PySem.W.Frag} {mg : Str → Option Value} {base : Heap}
theorem none_left {k : Nat} {f : Addr} {fd : FuncData} {ps : List Str} {sp : Sp} (no : ∀ vs H Q E, ¬ sp vs H Q E) : FnOk P w K mg base CX0 k f fd ps sp :=
  ⟨fun vs H Q E h => absurd h (no vs H Q E), fun A outer s H args us vs Q E _ _ _ _ h => absurd h (no vs H Q E)⟩
theorem v1_ne {x y : Int} (c : ¬ decide (V.int x = V.int y) = true) : x ≠ y := fun e => c (by rw [e]; simp)
theorem v1_eq {x y : Int} (c : decide (V.int x = V.int y) = true) : x = y := V.int.inj (of_decide_eq_true c)
theorem big1000 : (2000000 : Nat) ≤ sizeLine := by decide
end
end Rp

namespace Rp
open PySem L2
/-- the value of a TERM is an int or a tuple that stands -/
theorem TmAt.ty {K : PySem.W.Frag} {H : Hp} {v : V} {t : Tm} (h : TmAt H v t) : (∃ n, v = .int n ∧ t = .v n) ∨ (∃ a xs, v = .ref a ∧ H a = some (.tup xs) ∧ TyX K H v (.type "tuple") ∧ (∀ n, t ≠ .v n)) := by
  cases h with
  | v n => exact .inl ⟨n, rfl, rfl⟩
  | z h => exact .inr ⟨_, _, rfl, h, .base (.tup h), fun n e => by cases e⟩
  | s h _ => exact .inr ⟨_, _, rfl, h, .base (.tup h), fun n e => by cases e⟩
  | f h _ _ => exact .inr ⟨_, _, rfl, h, .base (.tup h), fun n e => by cases e⟩
def signHead : Tm → Str
  | .v _ => "" | .z => "0" | .s _ => "s" | .f _ _ => "f"
/-- a TERM that is no variable: its tuple, its parts -/
theorem TmAt.tupled {H : Hp} {v : V} {t : Tm} (h : TmAt H v t) (no : ∀ n, t ≠ .v n) : ∃ a ks, v = .ref a ∧ H a = some (.tup (.str (signHead t) :: ks)) ∧ ks.length = t.kids.length ∧ ∀ (i : Nat) (x : V) (k : Tm), ks[i]? = some x → t.kids[i]? = some k → TmAt H x k := by
  cases h with
  | v n => exact absurd rfl (no n)
  | z h => exact ⟨_, [], rfl, h, rfl, fun i x k h => by simp at h⟩
  | @s a x t h q =>
    refine ⟨_, [x], rfl, h, rfl, fun i y k h1 h2 => ?_⟩
    cases i with
    | zero => simp [Tm.kids] at h1 h2; subst h1 h2; exact q
    | succ i => simp at h1
  | @f a x y l r h q q' =>
    refine ⟨_, [x, y], rfl, h, rfl, fun i u k h1 h2 => ?_⟩
    match i with
    | 0 => simp [Tm.kids] at h1 h2; subst h1 h2; exact q
    | 1 => simp [Tm.kids] at h1 h2; subst h1 h2; exact q'
    | i + 2 => simp at h1
theorem signs_kids : ∀ {t : Tm}, (∀ n, t ≠ .v n) → t.signs = .str (signHead t) :: t.kids.flatMap Tm.signs
  | .v n, h => absurd rfl (h n)
  | .z, _ => rfl
  | .s t, _ => by simp [Tm.signs, Tm.kids, signHead]
  | .f l r, _ => by simp [Tm.signs, Tm.kids, signHead]
theorem kid_deep {t k : Tm} (h : k ∈ t.kids) : k.deep < t.deep := by
  cases t with
  | v n => simp [Tm.kids] at h
  | z => simp [Tm.kids] at h
  | s t => simp [Tm.kids] at h; subst h; exact Nat.lt_succ_self _
  | f l r =>
    simp [Tm.kids] at h
    rcases h with h | h <;> subst h <;> (simp only [Tm.deep]; omega)
theorem kid_size {t k : Tm} (h : k ∈ t.kids) : k.size < t.size := by
  cases t with
  | v n => simp [Tm.kids] at h
  | z => simp [Tm.kids] at h
  | s t => simp [Tm.kids] at h; subst h; exact Nat.lt_succ_self _
  | f l r =>
    simp [Tm.kids] at h
    rcases h with h | h <;> subst h <;> (simp only [Tm.size]; omega)
theorem take_flat {t : Tm} (i : Nat) : ((t.kids.take i).flatMap Tm.signs).length ≤ t.size := by
  cases t with
  | v n => simp [Tm.kids]
  | z => simp [Tm.kids]
  | s t =>
    match i with
    | 0 => simp
    | i + 1 => simp [Tm.kids, Tm.signs_len, Tm.size]
  | f l r =>
    match i with
    | 0 => simp
    | 1 => simp [Tm.kids, Tm.signs_len, Tm.size]; try omega
    | i + 2 => simp [Tm.kids, Tm.signs_len, Tm.size]; try omega
theorem cut_tail (x : V) (ks : List V) : cutV (x :: ks) (some 1) none = ks := by
  have e : HT.sIx (x :: ks).length 0 (some 1) = 1 := by
    have := HT.sIx_nat (x :: ks).length 0 1
    rw [List.length_cons] at this ⊢
    rw [show (some 1 : Option Int) = some ((1 : Nat) : Int) from rfl, this]
    omega
  unfold cutV
  rw [e, HT.sIx_none, List.drop_one, List.tail_cons, List.take_of_length_le (by simp)]
theorem cut_part (x : V) (ks : List V) : ¬ (HT.sIx (x :: ks).length 0 (some 1) = 0 ∧ HT.sIx (x :: ks).length (x :: ks).length none = (x :: ks).length) := by
  have := HT.sIx_nat (x :: ks).length 0 1
  rw [List.length_cons] at this ⊢
  rw [show (some 1 : Option Int) = some ((1 : Nat) : Int) from rfl, this]
  omega
section
variable {P : Program} {w : World} {K : PySem.W.Frag} {mg : Str → Option Value} {base : Heap}
theorem kit_ii : PySem.W.kitOne K (.type "int") (.type "int") = some true := kit_ty (by decide +kernel)
theorem kit_ti : PySem.W.kitOne K (.type "tuple") (.type "int") = some false := kit_ty (by decide +kernel)
theorem kit_si : PySem.W.kitOne K (.type "str") (.type "int") = some false := kit_ty (by decide +kernel)
end
end Rp

namespace Rp
open PySem PySem.Spec PyProof.Rows L2
/-- list.extend by any tuple object -/
theorem extend_by (l : Addr) (xs : Array Value) (n : Nat) (b : Addr) (od : Option Addr) (ys : Array Value) (m : Nat) (sl : Array (Option Value)) (short : ¬(!xs.isEmpty && Builtin.List.listTooLong (xs.size + ys.size)) = true) (h1 : xs.size ≤ sizeLine) (h2 : xs.size + ys.size ≤ sizeLine + 1) :
    Meets (Builtin.«list.extend» ⟨[.ref l, .ref b], []⟩) (fun _ R s => s.heap.get? l = some { cls := .type "list", data := .seq xs n } ∧ s.heap.get? b = some ⟨.type "tuple", od, .seq ys m, sl⟩ ∧
      R (.ok (.ret Value.none)) { s with heap := s.heap.update l (Obj.mapSeq fun x => x ++ ys) }) :=
  .of_wp fun prog w A R s ⟨hl, hb, h⟩ => by
    obtain ⟨hp, g, d, tk, os⟩ := s
    have g1 := sub_list_list
    have g2 := sub_tuple_list
    have g3 := sub_tuple_tuple
    have g4 := sub_list_tuple
    have both : (xs ++ ys).size ≤ sizeLine + 1 := by rw [Array.size_append]; exact h2
    wp_walk using (wpAny_updateSeq hl rfl (hz := h1) (_hz' := both)), wpAny_loadPart' hl, wpAny_loadPart' hb
    exact ⟨_, rfl, h⟩
section
variable {X : Cx}
/-- xs.extend(t), t a tuple -/
def rExtT (K : PySem.W.Frag) : V → List V → Hp → VK → Prop := fun x vs H Q => ∃ (l b : Addr) (xs zs : List V), x = .ref l ∧ vs = [.ref b] ∧ H l = some (.lst xs) ∧ SqT K H b zs ∧ xs.length + zs.length ≤ sizeLine ∧ Q .non (upd H l (.lst (xs ++ zs)))
theorem mt_extendT : MtM X "list.extend" (rExtT X.K) := by
  intro pins s σ H x vs v us Q I rx rv h
  obtain ⟨l, b, xs, zs, rfl, rfl, hH, hB, few, q⟩ := h
  cases rx
  obtain ⟨u, rfl, ru⟩ := rv.one
  cases ru
  obtain ⟨z, its, n, r, hl, e⟩ := I.lstM hH
  obtain ⟨its2, r2, ⟨⟨c2, d2, dat2, sl2⟩, e2, hc2, n2, hd2⟩, hz2⟩ := I.tuple hB
  simp only at hc2 hd2
  subst hc2 hd2
  have l1 := r.length
  have l2 := r2.length
  have room : its.toArray.size + its2.toArray.size ≤ sizeLine := by rw [List.size_toArray, List.size_toArray]; omega
  have short : ¬ (!its.toArray.isEmpty && Builtin.List.listTooLong (its.toArray.size + its2.toArray.size)) = true := by
    rw [notLongL room, Bool.and_false]; exact Bool.false_ne_true
  refine call_meets PySem.F.slot_list_extend ⟨_, e, rfl⟩ PySem.F.entry_list_extend (PySem.F.args_list_extend_2 _ _) (extend_by l its.toArray n b d2 its2.toArray n2 sl2 short (by rw [List.size_toArray]; omega) (by omega)) ⟨e, e2, ?_⟩
  refine ⟨.non, _, I.lset (its' := its ++ its2) (t' := s.toks) hH e (by simp) (r.append r2) ?_, rfl, q⟩
  rw [List.length_append]; omega
end
end Rp

namespace Rp
open PySem L2
/-- values and TERMs side by side -/
def AllAt (H : Hp) : List V → List Tm → Prop
  | [], [] => True
  | x :: xs, t :: ts => TmAt H x t ∧ AllAt H xs ts
  | _, _ => False
theorem AllAt.len {H : Hp} : ∀ {xs : List V} {ts : List Tm}, AllAt H xs ts → xs.length = ts.length
  | [], [], _ => rfl
  | x :: xs, t :: ts, h => congrArg (· + 1) (AllAt.len h.2)
theorem AllAt.append {H : Hp} : ∀ {xs ys : List V} {ts us : List Tm}, AllAt H xs ts → AllAt H ys us → AllAt H (xs ++ ys) (ts ++ us)
  | [], _, [], _, _, h => h
  | x :: xs, _, t :: ts, _, h, h' => ⟨h.1, AllAt.append h.2 h'⟩
theorem AllAt.parted {H : Hp} : ∀ {xs ys : List V} {ts : List Tm}, AllAt H (xs ++ ys) ts → ∃ t1 t2, ts = t1 ++ t2 ∧ AllAt H xs t1 ∧ AllAt H ys t2
  | [], _, ts, h => ⟨[], ts, rfl, trivial, h⟩
  | x :: xs, ys, t :: ts, h => by
    obtain ⟨t1, t2, e, h1, h2⟩ := AllAt.parted (xs := xs) h.2
    exact ⟨t :: t1, t2, by rw [e]; rfl, ⟨h.1, h1⟩, h2⟩
theorem AllAt.mono {H H' : Hp} (e : ∀ a xs, H a = some (.tup xs) → H' a = some (.tup xs)) : ∀ {xs : List V} {ts : List Tm}, AllAt H xs ts → AllAt H' xs ts
  | [], [], _ => trivial
  | x :: xs, t :: ts, h => ⟨h.1.mono e, AllAt.mono e h.2⟩
theorem AllAt.back {H : Hp} : ∀ {xs : List V} {ts : List Tm}, AllAt H xs ts → AllAt H xs.reverse ts.reverse
  | [], [], _ => trivial
  | x :: xs, t :: ts, h => by
    rw [List.reverse_cons, List.reverse_cons]
    exact (AllAt.back h.2).append ⟨h.1, trivial⟩
theorem AllAt.get {H : Hp} : ∀ {xs : List V} {ts : List Tm} {i : Nat} {x : V}, AllAt H xs ts → xs[i]? = some x → ∃ t, ts[i]? = some t ∧ TmAt H x t
  | x :: xs, t :: ts, 0, y, h, e => by simp at e; subst e; exact ⟨t, rfl, h.1⟩
  | x :: xs, t :: ts, i + 1, y, h, e => by simpa using AllAt.get h.2 (by simpa using e)
theorem AllAt.of {H : Hp} : ∀ {xs : List V} {ts : List Tm}, xs.length = ts.length → (∀ (i : Nat) (x : V) (k : Tm), xs[i]? = some x → ts[i]? = some k → TmAt H x k) → AllAt H xs ts
  | [], [], _, _ => trivial
  | x :: xs, t :: ts, l, h => ⟨h 0 x t rfl rfl, AllAt.of (by simpa using l) fun i y k a b => h (i + 1) y k (by simpa using a) (by simpa using b)⟩
end Rp

namespace Rp
open PySem L2 RZ
/-- [.. for a, b in zip(xs, ys)], both lists or both tuples, as long -/
theorem lc_pairs {J : It} {xs ys : List V} {g : TG} {tt : TT} {te : TE} {vs : List Nat} {σ : L2.St} {H1 : Hp} {D : Addr} {Qd : Hp → Prop} (same : xs.length = ys.length) (Pv : Nat → Hp → Prop)
    (stops : ∀ H, Pv xs.length H → J.stop xs.length H) (goes : ∀ i H, i < xs.length → Pv i H → J.go i H)
    (gives : ∀ i H v H', Pv i H → J.yld i H v H' → ∃ T x y, v = .ref T ∧ xs[i]? = some x ∧ ys[i]? = some y ∧ H T = none ∧ H' = upd H T (.tup [x, y]))
    (h0 : Pv 0 (upd H1 D (.lst [])))
    (hs : ∀ (i : Nat) (x y : V) (T : Addr) (H : Hp), xs[i]? = some x → ys[i]? = some y → Pv i H → H T = none → g (.ref T) (wipe σ vs) (upd H T (.tup [x, y])) fun σ2 H2 => wipe σ2 vs = wipe σ vs ∧
      tt σ2 H2 fun b H3 => if b = true then te σ2 H3 fun y H4 => ∃ acc, H4 D = some (.lst acc) ∧ acc.length < sizeLine ∧ Pv (i + 1) (upd H4 D (.lst (acc ++ [y]))) else Pv (i + 1) H3)
    (hd : ∀ H, Pv xs.length H → Qd H) :
    ∃ W : Nat → Nat → Hp → Prop, (∃ m, W 0 m (upd H1 D (.lst []))) ∧ ∀ i m H, W i m H → (J.stop i H ∧ Qd H) ∨
      (J.go i H ∧ ∃ Nx : Hp → Prop, (∀ H', Nx H' → ∃ m', m' < m ∧ W (i + 1) m' H') ∧ ∀ x H', J.yld i H x H' → g x (wipe σ vs) H' fun σ2 H2 => wipe σ2 vs = wipe σ vs ∧
        tt σ2 H2 fun b H3 => if b = true then te σ2 H3 fun y H4 => ∃ acc, H4 D = some (.lst acc) ∧ acc.length < sizeLine ∧ Nx (upd H4 D (.lst (acc ++ [y]))) else Nx H3) := by
  refine ⟨fun i m H => m + i = xs.length ∧ Pv i H, ⟨xs.length, by simp, h0⟩, ?_⟩
  rintro i m H ⟨em, p⟩
  rcases Nat.lt_or_ge i xs.length with lt | ge
  · refine .inr ⟨goes i H lt p, Pv (i + 1), fun H' p' => ⟨m - 1, by omega, by omega, p'⟩, fun v H' y => ?_⟩
    obtain ⟨T, x, y', rfl, hx, hy, hT, rfl⟩ := gives i H v H' p y
    exact hs i x y' T H hx hy p hT
  · have e : i = xs.length := by omega
    subst e
    exact .inl ⟨stops H p, hd H p⟩
def spSame (n : Nat) : Sp := fun vs H Q _ => ∃ (x y : V) (m : Nat), vs = [x, y] ∧ n = m + 1 ∧ Alike H m x y ∧ ∀ H', Same H H' → Q (.bl true) H'
section
variable {P : Program} {w : World} {K : PySem.W.Frag} {mg : Str → Option Value} {base : Heap}
structure SameG (mg : Str → Option Value) : Prop where
  isi : mg "isinstance" = none
  list : mg "list" = none
  tuple : mg "tuple" = none
  len : mg "len" = none
  all : mg "all" = none
  zip : mg "zip" = none
  str : mg "str" = none
  int : mg "int" = none
  bool : mg "bool" = none
theorem scSame : FnScope ["_law_found", "_law_due", "_law_one", "_law_two"] ["_law_found", "_law_due"] (defScope sSame) := ⟨rfl, rfl, rfl, by decide +kernel, rfl, by decide +kernel, by decide +kernel⟩
theorem kitB_of {K : PySem.W.Frag} {a b : String} {r : Bool} (h : kitB a b = some r) : PySem.W.kitOne K (.type a) (.type b) = some r := h
theorem kit_lt {K : PySem.W.Frag} {a : String} {p r : Bool} (h1 : kitB a "list" = some p) (h2 : kitB a "tuple" = some r) : PySem.W.kitAny K (.type a) [.type "list", .type "tuple"] = some (p || r) := by
  refine kitAny_cons (kitB_of h1) (fun e => ?_) (fun e => by rw [e]; rfl)
  refine kitAny_cons (kitB_of h2) (fun e2 => by rw [e, e2]; exact kitAny_nil) (fun e2 => by rw [e, e2]; rfl)
theorem ok_same {n : Nat} {f : Addr} {fd : FuncData} (F : Fun K "_law_same" "_law_same" sSame f fd) (b2 : Binds K fd ["_law_found", "_law_due"] []) (mF : mg "_law_same" = some (.ref f)) (G : FnOk P w K mg base CX0 n f fd ["_law_found", "_law_due"] (spSame n)) (M : SameG mg) :
    FnOk P w K mg base CX0 (n + 1) f fd ["_law_found", "_law_due"] (spSame (n + 1)) := by
  refine F.ok scSame (fun vs H Q E h => ?_) (fun cdv A outer s H vs Q E hr h => ?_)
  · obtain ⟨x, y, m, rfl, _⟩ := h
    rfl
  obtain ⟨x, y, m, rfl, em, hA, q⟩ := h
  have em : n = m := by omega
  subst em
  refine ⟨_, pss_cons (ps_if (pt_val (pe_callB (id := "isinstance") call_isiT (by rfl) M.isi (by decide +kernel) (pa_cons (pv 1) (pa_cons (pe_tup (pa_cons (pe_bltn (v := .ty "list") (by rfl) M.list (by decide +kernel) rfl) (pa_cons (pe_bltn (v := .ty "tuple") (by rfl) M.tuple (by decide +kernel) rfl) pa_nil))) pa_nil))))
      (pss_cons (ps_if (PW.pt (pw_or (pt_cmpR op_ne
            (pe_callB (id := "isinstance") call_isi (by rfl) M.isi (by decide +kernel) (pa_cons (pv 0) (pa_cons (pe_bltn (v := .ty "list") (by rfl) M.list (by decide +kernel) rfl) pa_nil)))
            (pe_callB (id := "isinstance") call_isi (by rfl) M.isi (by decide +kernel) (pa_cons (pv 1) (pa_cons (pe_bltn (v := .ty "list") (by rfl) M.list (by decide +kernel) rfl) pa_nil))) (nomark _))
          (pw_or1 (pt_cmpR op_ne
            (pe_callB (id := "isinstance") call_isi (by rfl) M.isi (by decide +kernel) (pa_cons (pv 0) (pa_cons (pe_bltn (v := .ty "tuple") (by rfl) M.tuple (by decide +kernel) rfl) pa_nil)))
            (pe_callB (id := "isinstance") call_isi (by rfl) M.isi (by decide +kernel) (pa_cons (pv 1) (pa_cons (pe_bltn (v := .ty "tuple") (by rfl) M.tuple (by decide +kernel) rfl) pa_nil))) (nomark _))))) (pss_one (ps_ret pe_bl)) pss_nil)
      (pss_cons (ps_if (pt_cmpR op_ne (pe_callB call_len_seq (by rfl) M.len PySem.boot_len (pa_cons (pv 0) pa_nil)) (pe_callB call_len_seq (by rfl) M.len PySem.boot_len (pa_cons (pv 1) pa_nil)) (nomark _)) (pss_one (ps_ret pe_bl)) pss_nil)
      (pss_one (ps_ret (pe_callB (cr_all rfl) (by rfl) M.all (by decide +kernel) (pa_cons (pe_lc (own := [("_law_one", 2), ("_law_two", 3)]) (g := gTup K 2 (gCons (gName 2) (gCons (gName 3) gNil))) (tt := tYes) (te := tCall (spSame n) [] E0 (tCons (tVar 2) (tCons (tVar 3) tNil))) rfl scSame.nd
        (pi_zipA (by rfl) M.zip (pa_cons (pv 0) (pa_cons (pv 1) pa_nil))) (blkOk_by (N := ["_law_found", "_law_due", "_law_one", "_law_two"]) (sc := defScope sSame) (by decide +kernel))
        (fun _ _ _ _ _ => pg_tup (by rfl) (pgs_cons (pg_name (i := 2) scSame.nd rfl (Or.inl rfl)) (pgs_cons (pg_name (i := 3) scSame.nd rfl (Or.inl rfl)) pgs_nil)))
        (fun _ _ _ _ _ => pts_nil) (fun _ _ _ _ _ => pe_call G hr (by rfl) mF F.kp b2 .nil pass0 (pa_cons (pv 2) (pa_cons (pv 3) pa_nil)))) pa_nil)))))) pss_nil)
    (pss_cons (ps_if (PW.pt (pw_or (pt_cmpR op_isN (pv 1) pe_non (nomark _)) (pw_or1 (pt_val (pe_callB (id := "isinstance") call_isi (by rfl) M.isi (by decide +kernel) (pa_cons (pv 1) (pa_cons (pe_bltn (v := .ty "str") (by rfl) M.str (by decide +kernel) rfl) pa_nil)))))))
      (pss_one (ps_ret (pe_and (pe_cmpR op_eq (pv 0) (pv 1) (nomark _)) (pe_one (pe_cmpR op_eq
            (pe_callB (id := "isinstance") call_isi (by rfl) M.isi (by decide +kernel) (pa_cons (pv 0) (pa_cons (pe_bltn (v := .ty "str") (by rfl) M.str (by decide +kernel) rfl) pa_nil)))
            (pe_callB (id := "isinstance") call_isi (by rfl) M.isi (by decide +kernel) (pa_cons (pv 1) (pa_cons (pe_bltn (v := .ty "str") (by rfl) M.str (by decide +kernel) rfl) pa_nil))) (nomark _)))))) pss_nil)
    (pss_one (ps_ret (pe_and (pe_callB (id := "isinstance") call_isi (by rfl) M.isi (by decide +kernel) (pa_cons (pv 0) (pa_cons (pe_bltn (v := .ty "int") (by rfl) M.int (by decide +kernel) rfl) pa_nil)))
      (pe_and (pe_cmpR op_eq
            (pe_callB (id := "isinstance") call_isi (by rfl) M.isi (by decide +kernel) (pa_cons (pv 0) (pa_cons (pe_bltn (v := .ty "bool") (by rfl) M.bool (by decide +kernel) rfl) pa_nil)))
            (pe_callB (id := "isinstance") call_isi (by rfl) M.isi (by decide +kernel) (pa_cons (pv 1) (pa_cons (pe_bltn (v := .ty "bool") (by rfl) M.bool (by decide +kernel) rfl) pa_nil))) (nomark _))
        (pe_one (pe_cmpR op_eq (pv 0) (pv 1) (nomark _)))))))), ?_⟩
  refine ⟨_, rfl, (by show 2 ≤ sizeLine; decide), fun p hp => ?_⟩
  have s1 := same_new hp (.tup [V.ty "list", V.ty "tuple"])
  have plain : Plain x ∧ x = y ∨ ∃ m a b xs ys, n = m + 1 ∧ x = .ref a ∧ y = .ref b ∧ ((H a = some (.lst xs) ∧ H b = some (.lst ys)) ∨ (H a = some (.tup xs) ∧ H b = some (.tup ys))) ∧
      xs.length = ys.length ∧ xs.length ≤ 1000000 ∧ ∀ (i : Nat) (u v : V), xs[i]? = some u → ys[i]? = some v → Alike H m u v := by
    cases n with
    | zero => unfold Alike at hA; exact .inl hA
    | succ m =>
      unfold Alike at hA
      rcases hA with h | ⟨a, b, xs, ys, h⟩
      · exact .inl h
      · exact .inr ⟨m, a, b, xs, ys, rfl, h⟩
  rcases plain with ⟨px, rfl⟩ | ⟨m, a, b, xs, ys, rfl, rfl, rfl, kinds, hl, hz, each⟩
  · cases x with
    | int i =>
      refine ⟨_, p, _, _, [.type "list", .type "tuple"], false, rfl, upd_same, .cons (.ty _) (.cons (.ty _) .nil), .base (.int i), kit_lt (p := false) (r := false) (by decide +kernel) (by decide +kernel), false, rfl, iteF ?_⟩
      refine ⟨_, rfl, rfl, false, congrArg V.bl (decide_eq_false (fun z => nomatch z)), iteF ?_⟩
      refine ⟨_, rfl, _, _, _, _, false, rfl, .ty "str", .base (.int i), kitB_of (by decide +kernel), false, rfl, iteF ?_⟩
      refine ⟨_, rfl, _, _, _, _, true, rfl, .ty "int", .base (.int i), kitB_of (by decide +kernel), true, rfl, iteT ?_⟩
      refine ⟨_, rfl, _, _, _, _, false, rfl, .ty "bool", .base (.int i), kitB_of (by decide +kernel), _, rfl, _, _, _, _, false, rfl, .ty "bool", .base (.int i), kitB_of (by decide +kernel), rfl, true, congrArg V.bl (decide_eq_true rfl), iteT ?_⟩
      refine ⟨_, rfl, _, rfl, rfl, ?_⟩
      have e : decide (V.int i = V.int i) = true := decide_eq_true rfl
      rw [e]
      exact q _ s1
    | bl i =>
      refine ⟨_, p, _, _, [.type "list", .type "tuple"], false, rfl, upd_same, .cons (.ty _) (.cons (.ty _) .nil), .base (.bl i), kit_lt (p := false) (r := false) (by decide +kernel) (by decide +kernel), false, rfl, iteF ?_⟩
      refine ⟨_, rfl, rfl, false, congrArg V.bl (decide_eq_false (fun z => nomatch z)), iteF ?_⟩
      refine ⟨_, rfl, _, _, _, _, false, rfl, .ty "str", .base (.bl i), kitB_of (by decide +kernel), false, rfl, iteF ?_⟩
      refine ⟨_, rfl, _, _, _, _, true, rfl, .ty "int", .base (.bl i), kitB_of (by decide +kernel), true, rfl, iteT ?_⟩
      refine ⟨_, rfl, _, _, _, _, true, rfl, .ty "bool", .base (.bl i), kitB_of (by decide +kernel), _, rfl, _, _, _, _, true, rfl, .ty "bool", .base (.bl i), kitB_of (by decide +kernel), rfl, true, congrArg V.bl (decide_eq_true rfl), iteT ?_⟩
      refine ⟨_, rfl, _, rfl, rfl, ?_⟩
      have e : decide (V.bl i = V.bl i) = true := decide_eq_true rfl
      rw [e]
      exact q _ s1
    | str i =>
      refine ⟨_, p, _, _, [.type "list", .type "tuple"], false, rfl, upd_same, .cons (.ty _) (.cons (.ty _) .nil), .base (.str i), kit_lt (p := false) (r := false) (by decide +kernel) (by decide +kernel), false, rfl, iteF ?_⟩
      refine ⟨_, rfl, rfl, false, congrArg V.bl (decide_eq_false (fun z => nomatch z)), iteF ?_⟩
      refine ⟨_, rfl, _, _, _, _, true, rfl, .ty "str", .base (.str i), kitB_of (by decide +kernel), true, rfl, iteT ?_⟩
      refine ⟨_, rfl, _, rfl, rfl, true, congrArg V.bl (decide_eq_true rfl), iteT ?_⟩
      refine ⟨_, rfl, _, _, _, _, true, rfl, .ty "str", .base (.str i), kitB_of (by decide +kernel), _, rfl, _, _, _, _, true, rfl, .ty "str", .base (.str i), kitB_of (by decide +kernel), rfl, ?_⟩
      have e : decide (V.bl true = V.bl true) = true := decide_eq_true rfl
      rw [e]
      exact q _ s1
    | non =>
      refine ⟨_, p, _, _, [.type "list", .type "tuple"], false, rfl, upd_same, .cons (.ty _) (.cons (.ty _) .nil), .base .non, kit_lt (p := false) (r := false) (by decide +kernel) (by decide +kernel), false, rfl, iteF ?_⟩
      refine ⟨_, rfl, rfl, true, congrArg V.bl (decide_eq_true rfl), iteT ?_⟩
      refine iteT ?_
      refine ⟨_, rfl, _, rfl, rfl, true, congrArg V.bl (decide_eq_true rfl), iteT ?_⟩
      refine ⟨_, rfl, _, _, _, _, false, rfl, .ty "str", .base .non, kitB_of (by decide +kernel), _, rfl, _, _, _, _, false, rfl, .ty "str", .base .non, kitB_of (by decide +kernel), rfl, ?_⟩
      have e : decide (V.bl false = V.bl false) = true := decide_eq_true rfl
      rw [e]
      exact q _ s1
    | _ => exact px.elim
  · rcases kinds with ⟨ha, hb⟩ | ⟨ha, hb⟩
    · have ha1 := s1 _ _ ha
      have hb1 := s1 _ _ hb
      refine ⟨_, p, _, _, [.type "list", .type "tuple"], true, rfl, upd_same, .cons (.ty _) (.cons (.ty _) .nil), .base (.lst hb1), kit_lt (p := true) (r := false) (by decide +kernel) (by decide +kernel), true, rfl, iteT ?_⟩
      refine ⟨_, rfl, _, _, _, _, true, rfl, .ty "list", .base (.lst ha1), kitB_of (by decide +kernel), _, rfl, _, _, _, _, true, rfl, .ty "list", .base (.lst hb1), kitB_of (by decide +kernel), rfl, false, congrArg (fun z => V.bl (!z)) (decide_eq_true rfl), iteF ?_⟩
      refine ⟨_, rfl, _, _, _, _, false, rfl, .ty "tuple", .base (.lst ha1), kitB_of (by decide +kernel), _, rfl, _, _, _, _, false, rfl, .ty "tuple", .base (.lst hb1), kitB_of (by decide +kernel), rfl, false, congrArg (fun z => V.bl (!z)) (decide_eq_true rfl), iteF ?_⟩
      refine ⟨_, rfl, a, _, rfl, .inl (.inl (.inl ha1)), _, rfl, b, _, rfl, .inl (.inl (.inl hb1)), rfl, false, congrArg (fun z => V.bl (!z)) (decide_eq_true (by rw [hl])), iteF ?_⟩
      refine ⟨_, rfl, _, rfl, a, b, xs, ys, rfl, .inl ⟨.inl (.inl ha1), .inl (.inl hb1), fun D hD => ?_⟩⟩
      refine lc_pairs (J := Itz K a b) (xs := xs) (ys := ys) hl (fun i H2 => H2 D = some (.lst (List.replicate i (V.bl true))) ∧ Same _ H2)
        (fun H2 h => ⟨xs, ys, .inl (.inl (h.2 _ _ ha1)), .inl (.inl (h.2 _ _ hb1)), .inl (Nat.le_refl _)⟩)
        (fun i H2 lt h => ⟨xs, ys, xs[i], ys[i]'(by omega), .inl (.inl (h.2 _ _ ha1)), .inl (.inl (h.2 _ _ hb1)), List.getElem?_eq_getElem lt, List.getElem?_eq_getElem (by omega)⟩)
        (fun i H2 v H3 h ⟨T, u, v', e1, hT, e2, f1, f2⟩ => ⟨T, u, v', e1, f1 xs (.inl (.inl (h.2 _ _ ha1))), f2 ys (.inl (.inl (h.2 _ _ hb1))), hT, e2⟩)
        ⟨upd_same, same_new hD _⟩ (fun i u v T H2 hu hv h hT => ?_) (fun H2 h => ⟨D, List.replicate xs.length true, rfl, .inl (.inl (by rw [List.map_replicate]; exact h.1)), ?_⟩)
      · have sT := same_new hT (.tup [u, v])
        refine ⟨T, _, rfl, .inl (.inl upd_same), rfl, _, _, rfl, _, _, rfl, rfl, rfl, ?_⟩
        have lt : i < xs.length := (List.getElem?_eq_some_iff.mp hu).1
        refine ⟨_, rfl, _, rfl, u, v, m, rfl, rfl, Alike.mono (s1.trans (h.2.trans sT)) m (each i u v hu hv), fun H4 s4 => ⟨_, s4 _ _ (sT _ _ h.1), ?_, ?_, ?_⟩⟩
        · rw [List.length_replicate]; exact Nat.lt_of_lt_of_le (by omega : i < 1000000) (by decide)
        · rw [upd_same, List.replicate_succ']
        · intro c o z
          have nD : c ≠ D := fun e => by subst e; rw [hD] at z; cases z
          rw [upd_ne nD]
          exact s4 _ _ (sT _ _ (h.2 _ _ z))
      · have e : (List.replicate xs.length true).all id = true := by rw [List.all_eq_true]; intro x hx; rw [List.eq_of_mem_replicate hx]; rfl
        rw [e]
        exact q _ (s1.trans h.2)
    · have ha1 := s1 _ _ ha
      have hb1 := s1 _ _ hb
      refine ⟨_, p, _, _, [.type "list", .type "tuple"], true, rfl, upd_same, .cons (.ty _) (.cons (.ty _) .nil), .base (.tup hb1), kit_lt (p := false) (r := true) (by decide +kernel) (by decide +kernel), true, rfl, iteT ?_⟩
      refine ⟨_, rfl, _, _, _, _, false, rfl, .ty "list", .base (.tup ha1), kitB_of (by decide +kernel), _, rfl, _, _, _, _, false, rfl, .ty "list", .base (.tup hb1), kitB_of (by decide +kernel), rfl, false, congrArg (fun z => V.bl (!z)) (decide_eq_true rfl), iteF ?_⟩
      refine ⟨_, rfl, _, _, _, _, true, rfl, .ty "tuple", .base (.tup ha1), kitB_of (by decide +kernel), _, rfl, _, _, _, _, true, rfl, .ty "tuple", .base (.tup hb1), kitB_of (by decide +kernel), rfl, false, congrArg (fun z => V.bl (!z)) (decide_eq_true rfl), iteF ?_⟩
      refine ⟨_, rfl, a, _, rfl, .inr (.inl (.inl ha1)), _, rfl, b, _, rfl, .inr (.inl (.inl hb1)), rfl, false, congrArg (fun z => V.bl (!z)) (decide_eq_true (by rw [hl])), iteF ?_⟩
      refine ⟨_, rfl, _, rfl, a, b, xs, ys, rfl, .inr ⟨.inl (.inl ha1), .inl (.inl hb1), fun D hD => ?_⟩⟩
      refine lc_pairs (J := ItzT K a b) (xs := xs) (ys := ys) hl (fun i H2 => H2 D = some (.lst (List.replicate i (V.bl true))) ∧ Same _ H2)
        (fun H2 h => ⟨xs, ys, .inl (.inl (h.2 _ _ ha1)), .inl (.inl (h.2 _ _ hb1)), .inl (Nat.le_refl _)⟩)
        (fun i H2 lt h => ⟨xs, ys, xs[i], ys[i]'(by omega), .inl (.inl (h.2 _ _ ha1)), .inl (.inl (h.2 _ _ hb1)), List.getElem?_eq_getElem lt, List.getElem?_eq_getElem (by omega)⟩)
        (fun i H2 v H3 h ⟨T, u, v', e1, hT, e2, f1, f2⟩ => ⟨T, u, v', e1, f1 xs (.inl (.inl (h.2 _ _ ha1))), f2 ys (.inl (.inl (h.2 _ _ hb1))), hT, e2⟩)
        ⟨upd_same, same_new hD _⟩ (fun i u v T H2 hu hv h hT => ?_) (fun H2 h => ⟨D, List.replicate xs.length true, rfl, .inl (.inl (by rw [List.map_replicate]; exact h.1)), ?_⟩)
      · have sT := same_new hT (.tup [u, v])
        refine ⟨T, _, rfl, .inl (.inl upd_same), rfl, _, _, rfl, _, _, rfl, rfl, rfl, ?_⟩
        have lt : i < xs.length := (List.getElem?_eq_some_iff.mp hu).1
        refine ⟨_, rfl, _, rfl, u, v, m, rfl, rfl, Alike.mono (s1.trans (h.2.trans sT)) m (each i u v hu hv), fun H4 s4 => ⟨_, s4 _ _ (sT _ _ h.1), ?_, ?_, ?_⟩⟩
        · rw [List.length_replicate]; exact Nat.lt_of_lt_of_le (by omega : i < 1000000) (by decide)
        · rw [upd_same, List.replicate_succ']
        · intro c o z
          have nD : c ≠ D := fun e => by subst e; rw [hD] at z; cases z
          rw [upd_ne nD]
          exact s4 _ _ (sT _ _ (h.2 _ _ z))
      · have e : (List.replicate xs.length true).all id = true := by rw [List.all_eq_true]; intro x hx; rw [List.eq_of_mem_replicate hx]; rfl
        rw [e]
        exact q _ (s1.trans h.2)
theorem same_ok {f : Addr} {fd : FuncData} (F : Fun K "_law_same" "_law_same" sSame f fd) (b2 : Binds K fd ["_law_found", "_law_due"] []) (mF : mg "_law_same" = some (.ref f)) (M : SameG mg) :
    ∀ n : Nat, FnOk P w K mg base CX0 n f fd ["_law_found", "_law_due"] (spSame n)
  | 0 => none_left fun vs H Q E h => by
    obtain ⟨x, y, m, _, e, _⟩ := h
    omega
  | n + 1 => ok_same F b2 mF (same_ok F b2 mF M n) M
end
end Rp

/-! Data of any depth: what stands as which, and which data are TERMs. -/
namespace Rp
open PySem L2
/-- a tuple stands at a, plain or not -/
def TupAt (H : Hp) (a : Addr) (xs : List V) : Prop := H a = some (.tup xs) ∨ ∃ o, H a = some (.frz o (.tup xs))
theorem TupAt.same {H H' : Hp} {a : Addr} {xs : List V} (e : Same H H') (h : TupAt H a xs) : TupAt H' a xs := h.imp (fun q => e _ _ q) fun ⟨o, q⟩ => ⟨o, e _ _ q⟩
theorem TupAt.but {H H' : Hp} {b a : Addr} {ys xs : List V} (e : But b H H') (hb : H b = some (.lst ys)) (h : TupAt H a xs) : TupAt H' a xs :=
  h.imp (fun q => e _ _ q (ne_of q hb (by intro z; cases z))) fun ⟨o, q⟩ => ⟨o, e _ _ q (ne_of q hb (by intro z; cases z))⟩
mutual
/-- the value v stands as the data d; its lists are others than the box b -/
def DAt (H : Hp) (b : Addr) : V → PyData → Prop
  | v, .none => v = .non
  | v, .bool c => v = .bl c
  | v, .int i => v = .int i
  | v, .str x => v = .str x
  | v, .list ds => ∃ (a : Addr) (xs : List V), v = .ref a ∧ a ≠ b ∧ H a = some (.lst xs) ∧ DAtAll H b xs ds
  | v, .tuple ds => ∃ (a : Addr) (xs : List V), v = .ref a ∧ TupAt H a xs ∧ DAtAll H b xs ds
  | _, .dict _ => False
def DAtAll (H : Hp) (b : Addr) : List V → List PyData → Prop
  | xs, [] => xs = []
  | xs, d :: ds => ∃ (x : V) (r : List V), xs = x :: r ∧ DAt H b x d ∧ DAtAll H b r ds
end
mutual
theorem DAt.dp {K : PySem.W.Frag} {H : Hp} {b : Addr} : ∀ (d : PyData) {v : V}, DAt H b v d → Dp K H v d
  | .none, _, h => by unfold DAt at h; subst h; exact .non
  | .bool _, _, h => by unfold DAt at h; subst h; exact .bl _
  | .int _, _, h => by unfold DAt at h; subst h; exact .int _
  | .str _, _, h => by unfold DAt at h; subst h; exact .str _
  | .list ds, _, h => by
    unfold DAt at h
    obtain ⟨a, xs, rfl, _, e, q⟩ := h
    exact .lst (.inl (.inl e)) (DAtAll.dp ds q)
  | .tuple ds, _, h => by
    unfold DAt at h
    obtain ⟨a, xs, rfl, e, q⟩ := h
    exact .tup (.inl e) (DAtAll.dp ds q)
  | .dict _, _, h => by unfold DAt at h; exact h.elim
theorem DAtAll.dp {K : PySem.W.Frag} {H : Hp} {b : Addr} : ∀ (ds : List PyData) {xs : List V}, DAtAll H b xs ds → DpAll K H xs ds
  | [], _, h => by unfold DAtAll at h; subst h; exact .nil
  | d :: ds, _, h => by
    unfold DAtAll at h
    obtain ⟨x, r, rfl, q, q'⟩ := h
    exact .cons (DAt.dp d q) (DAtAll.dp ds q')
end
mutual
theorem DAt.mono {H H' : Hp} {b : Addr} (et : ∀ a xs, TupAt H a xs → TupAt H' a xs) (el : ∀ a xs, a ≠ b → H a = some (.lst xs) → H' a = some (.lst xs)) : ∀ (d : PyData) {v : V}, DAt H b v d → DAt H' b v d
  | .none, _, h => by unfold DAt at h ⊢; exact h
  | .bool _, _, h => by unfold DAt at h ⊢; exact h
  | .int _, _, h => by unfold DAt at h ⊢; exact h
  | .str _, _, h => by unfold DAt at h ⊢; exact h
  | .list ds, _, h => by
    unfold DAt at h ⊢
    obtain ⟨a, xs, e, n, q, q'⟩ := h
    exact ⟨a, xs, e, n, el _ _ n q, DAtAll.mono et el ds q'⟩
  | .tuple ds, _, h => by
    unfold DAt at h ⊢
    obtain ⟨a, xs, e, q, q'⟩ := h
    exact ⟨a, xs, e, et _ _ q, DAtAll.mono et el ds q'⟩
  | .dict _, _, h => by unfold DAt at h; exact h.elim
theorem DAtAll.mono {H H' : Hp} {b : Addr} (et : ∀ a xs, TupAt H a xs → TupAt H' a xs) (el : ∀ a xs, a ≠ b → H a = some (.lst xs) → H' a = some (.lst xs)) : ∀ (ds : List PyData) {xs : List V}, DAtAll H b xs ds → DAtAll H' b xs ds
  | [], _, h => by unfold DAtAll at h ⊢; exact h
  | d :: ds, _, h => by
    unfold DAtAll at h ⊢
    obtain ⟨x, r, e, q, q'⟩ := h
    exact ⟨x, r, e, DAt.mono et el d q, DAtAll.mono et el ds q'⟩
end
theorem DAt.same {H H' : Hp} {b : Addr} (e : Same H H') {d : PyData} {v : V} (h : DAt H b v d) : DAt H' b v d := DAt.mono (fun a _ q => q.same e) (fun a _ _ q => e a _ q) d h
theorem DAt.but {H H' : Hp} {b : Addr} {ys : List V} (e : But b H H') (hb : H b = some (.lst ys)) {d : PyData} {v : V} (h : DAt H b v d) : DAt H' b v d :=
  DAt.mono (fun a _ q => q.but e hb) (fun a _ n q => e a _ q n) d h
theorem DAtAll.same {H H' : Hp} {b : Addr} (e : Same H H') {ds : List PyData} {xs : List V} (h : DAtAll H b xs ds) : DAtAll H' b xs ds := DAtAll.mono (fun a _ q => q.same e) (fun a _ _ q => e a _ q) ds h
theorem DAtAll.but {H H' : Hp} {b : Addr} {ys : List V} (e : But b H H') (hb : H b = some (.lst ys)) {ds : List PyData} {xs : List V} (h : DAtAll H b xs ds) : DAtAll H' b xs ds :=
  DAtAll.mono (fun a _ q => q.but e hb) (fun a _ n q => e a _ q n) ds h
theorem DAtAll.nil {H : Hp} {b : Addr} : DAtAll H b [] [] := by unfold DAtAll; rfl
theorem DAtAll.cons {H : Hp} {b : Addr} {x : V} {xs : List V} {d : PyData} {ds : List PyData} (h : DAt H b x d) (h' : DAtAll H b xs ds) : DAtAll H b (x :: xs) (d :: ds) := by unfold DAtAll; exact ⟨x, xs, rfl, h, h'⟩
theorem DAtAll.head {H : Hp} {b : Addr} {x : V} {xs : List V} {ds : List PyData} (h : DAtAll H b (x :: xs) ds) : ∃ d ds', ds = d :: ds' ∧ DAt H b x d ∧ DAtAll H b xs ds' := by
  cases ds with
  | nil => unfold DAtAll at h; cases h
  | cons d ds =>
    unfold DAtAll at h
    obtain ⟨y, r, e, q, q'⟩ := h
    cases e
    exact ⟨d, ds, rfl, q, q'⟩
theorem DAtAll.len {H : Hp} {b : Addr} : ∀ {xs : List V} {ds : List PyData}, DAtAll H b xs ds → xs.length = ds.length
  | xs, [], h => by unfold DAtAll at h; subst h; rfl
  | xs, d :: ds, h => by
    unfold DAtAll at h
    obtain ⟨x, r, rfl, _, q⟩ := h
    rw [List.length_cons, List.length_cons, DAtAll.len q]
theorem DAtAll.append {H : Hp} {b : Addr} : ∀ {xs ys : List V} {ds es : List PyData}, DAtAll H b xs ds → DAtAll H b ys es → DAtAll H b (xs ++ ys) (ds ++ es)
  | xs, ys, [], es, h, h' => by unfold DAtAll at h; subst h; exact h'
  | xs, ys, d :: ds, es, h, h' => by
    unfold DAtAll at h
    obtain ⟨x, r, rfl, q, q'⟩ := h
    exact .cons q (DAtAll.append q' h')
theorem DAtAll.parted {H : Hp} {b : Addr} : ∀ {xs ys : List V} {ds : List PyData}, DAtAll H b (xs ++ ys) ds → ∃ d1 d2, ds = d1 ++ d2 ∧ DAtAll H b xs d1 ∧ DAtAll H b ys d2
  | [], ys, ds, h => ⟨[], ds, rfl, .nil, h⟩
  | x :: xs, ys, ds, h => by
    obtain ⟨d, ds', rfl, q, q'⟩ := DAtAll.head h
    obtain ⟨d1, d2, rfl, h1, h2⟩ := DAtAll.parted q'
    exact ⟨d :: d1, d2, rfl, .cons q h1, h2⟩
theorem DAtAll.take {H : Hp} {b : Addr} : ∀ {xs : List V} {ds : List PyData} (n : Nat), DAtAll H b xs ds → DAtAll H b (xs.take n) (ds.take n)
  | xs, ds, 0, h => by simp; exact .nil
  | [], ds, n + 1, h => by have := h.len; cases ds with | nil => simpa using DAtAll.nil | cons => simp at this
  | x :: xs, ds, n + 1, h => by
    obtain ⟨d, ds', rfl, q, q'⟩ := DAtAll.head h
    exact .cons q (DAtAll.take n q')
theorem DAtAll.drop {H : Hp} {b : Addr} : ∀ {xs : List V} {ds : List PyData} (n : Nat), DAtAll H b xs ds → DAtAll H b (xs.drop n) (ds.drop n)
  | xs, ds, 0, h => by simpa using h
  | [], ds, n + 1, h => by have := h.len; cases ds with | nil => simpa using DAtAll.nil | cons => simp at this
  | x :: xs, ds, n + 1, h => by
    obtain ⟨d, ds', rfl, q, q'⟩ := DAtAll.head h
    simpa using DAtAll.drop n q'
theorem DAtAll.back {H : Hp} {b : Addr} : ∀ {xs : List V} {ds : List PyData}, DAtAll H b xs ds → DAtAll H b xs.reverse ds.reverse
  | [], ds, h => by have := h.len; cases ds with | nil => simpa using DAtAll.nil | cons => simp at this
  | x :: xs, ds, h => by
    obtain ⟨d, ds', rfl, q, q'⟩ := DAtAll.head h
    rw [List.reverse_cons, List.reverse_cons]
    exact (DAtAll.back q').append (.cons q .nil)
theorem DAtAll.get {H : Hp} {b : Addr} : ∀ {xs : List V} {ds : List PyData} {i : Nat} {x : V}, DAtAll H b xs ds → xs[i]? = some x → ∃ d, ds[i]? = some d ∧ DAt H b x d
  | [], ds, i, x, h, e => by simp at e
  | y :: xs, ds, 0, x, h, e => by
    obtain ⟨d, ds', rfl, q, q'⟩ := DAtAll.head h
    simp at e
    subst e
    exact ⟨d, rfl, q⟩
  | y :: xs, ds, i + 1, x, h, e => by
    obtain ⟨d, ds', rfl, q, q'⟩ := DAtAll.head h
    simpa using DAtAll.get q' (by simpa using e)
/-! ### TERMs as data -/
def tmD : Tm → PyData
  | .v n => .int n
  | .z => .tuple [.str "0"]
  | .s t => .tuple [.str "s", tmD t]
  | .f l r => .tuple [.str "f", tmD l, tmD r]
theorem TmAt.dat {H : Hp} {b : Addr} {v : V} {t : Tm} (h : TmAt H v t) : DAt H b v (tmD t) := by
  induction h with
  | v n => unfold tmD DAt; rfl
  | z h => unfold tmD DAt; exact ⟨_, _, rfl, .inl h, .cons (by unfold DAt; rfl) .nil⟩
  | s h _ ih => unfold tmD DAt; exact ⟨_, _, rfl, .inl h, .cons (by unfold DAt; rfl) (.cons ih .nil)⟩
  | f h _ _ ih ih' => unfold tmD DAt; exact ⟨_, _, rfl, .inl h, .cons (by unfold DAt; rfl) (.cons ih (.cons ih' .nil))⟩
theorem DAtAll.nil_of {H : Hp} {b : Addr} {xs : List V} (h : DAtAll H b xs []) : xs = [] := by unfold DAtAll at h; exact h
theorem DAtAll.cons_of {H : Hp} {b : Addr} {xs : List V} {d : PyData} {ds : List PyData} (h : DAtAll H b xs (d :: ds)) : ∃ x r, xs = x :: r ∧ DAt H b x d ∧ DAtAll H b r ds := by unfold DAtAll at h; exact h
theorem DAt.str_of {H : Hp} {b : Addr} {v : V} {x : Str} (h : DAt H b v (.str x)) : v = .str x := by unfold DAt at h; exact h
theorem DAt.int_of {H : Hp} {b : Addr} {v : V} {x : Int} (h : DAt H b v (.int x)) : v = .int x := by unfold DAt at h; exact h
theorem DAt.tup_of {H : Hp} {b : Addr} {v : V} {ds : List PyData} (h : DAt H b v (.tuple ds)) : ∃ (a : Addr) (xs : List V), v = .ref a ∧ TupAt H a xs ∧ DAtAll H b xs ds := by unfold DAt at h; exact h
theorem DAt.lst_of {H : Hp} {b : Addr} {v : V} {ds : List PyData} (h : DAt H b v (.list ds)) : ∃ (a : Addr) (xs : List V), v = .ref a ∧ a ≠ b ∧ H a = some (.lst xs) ∧ DAtAll H b xs ds := by unfold DAt at h; exact h
def IsT (d : PyData) : Prop := ∃ t, d = tmD t ∧ ∀ n ∈ t.nums, 0 ≤ n ∧ n ≤ 99
/-- a sign with as many parts as it takes -/
def Shaped (d : PyData) : Prop := ∃ (x : Str) (ds : List PyData), d = .tuple (.str x :: ds) ∧ ((x = "0" ∧ ds.length = 0) ∨ (x = "s" ∧ ds.length = 1) ∨ (x = "f" ∧ ds.length = 2))
theorem isT_shaped {x : Str} {ds : List PyData} (h : (x = "0" ∧ ds.length = 0) ∨ (x = "s" ∧ ds.length = 1) ∨ (x = "f" ∧ ds.length = 2)) : IsT (.tuple (.str x :: ds)) ↔ ∀ d ∈ ds, IsT d := by
  have s0 : ("0" : Str) ≠ "s" := by decide +kernel
  have s1 : ("0" : Str) ≠ "f" := by decide +kernel
  have s2 : ("s" : Str) ≠ "f" := by decide +kernel
  rcases h with ⟨rfl, h⟩ | ⟨rfl, h⟩ | ⟨rfl, h⟩
  · match ds, h with
    | [], _ => exact ⟨fun _ d hd => by simp at hd, fun _ => ⟨.z, rfl, fun n hn => by simp [Tm.nums] at hn⟩⟩
  · match ds, h with
    | [d], _ =>
      constructor
      · rintro ⟨t, e, g⟩ d' hd
        simp at hd
        subst hd
        cases t with
        | s t => unfold tmD at e; injection e with e; injection e with _ e; injection e with e _; exact ⟨t, e, g⟩
        | v n => cases e
        | z => unfold tmD at e; injection e with e; injection e with e _; injection e with e; exact absurd e.symm s0
        | f l r => unfold tmD at e; injection e with e; injection e with e _; injection e with e; exact absurd e s2
      · intro h
        obtain ⟨t, rfl, g⟩ := h d (by simp)
        exact ⟨.s t, rfl, g⟩
  · match ds, h with
    | [d, d'], _ =>
      constructor
      · rintro ⟨t, e, g⟩ d2 hd
        cases t with
        | f l r =>
          unfold tmD at e
          injection e with e
          injection e with _ e
          injection e with e1 e
          injection e with e2 _
          simp at hd
          rcases hd with rfl | rfl
          · exact ⟨l, e1, fun n hn => g n (by simp [Tm.nums, hn])⟩
          · exact ⟨r, e2, fun n hn => g n (by simp [Tm.nums, hn])⟩
        | v n => cases e
        | z => unfold tmD at e; injection e with e; injection e with e _; injection e with e; exact absurd e.symm s1
        | s t => unfold tmD at e; injection e with e; injection e with e _; injection e with e; exact absurd e.symm s2
      · intro h
        obtain ⟨l, rfl, g1⟩ := h d (by simp)
        obtain ⟨r, rfl, g2⟩ := h d' (by simp)
        refine ⟨.f l r, rfl, fun n hn => ?_⟩
        rcases List.mem_append.mp hn with q | q
        · exact g1 n q
        · exact g2 n q
theorem isT_int {n : Int} : IsT (.int n) ↔ 0 ≤ n ∧ n ≤ 99 := by
  constructor
  · rintro ⟨t, e, g⟩
    cases t with
    | v m => unfold tmD at e; injection e with e; subst e; exact g _ (by simp [Tm.nums])
    | z => cases e
    | s t => cases e
    | f l r => cases e
  · intro h
    exact ⟨.v n, rfl, fun m hm => by simp [Tm.nums] at hm; subst hm; exact h⟩
theorem isT_other {d : PyData} (h : ¬ Shaped d) (h' : ∀ n, d ≠ .int n) : ¬ IsT d := by
  rintro ⟨t, rfl, g⟩
  cases t with
  | v n => exact h' n rfl
  | z => exact h ⟨"0", [], rfl, .inl ⟨rfl, rfl⟩⟩
  | s t => exact h ⟨"s", [_], rfl, .inr (.inl ⟨rfl, rfl⟩)⟩
  | f l r => exact h ⟨"f", [_, _], rfl, .inr (.inr ⟨rfl, rfl⟩)⟩
end Rp

namespace Rp
open PySem PySem.Spec PyProof.Rows L2
def tyD : PyData → String
  | .none => "NoneType" | .bool _ => "bool" | .int _ => "int" | .str _ => "str" | .list _ => "list" | .tuple _ => "tuple" | .dict _ => "dict"
theorem DAt.tyx {K : PySem.W.Frag} {H : Hp} {b : Addr} {v : V} {d : PyData} (h : DAt H b v d) : TyX K H v (.type (tyD d)) := by
  cases d with
  | none => unfold DAt at h; subst h; exact .base .non
  | bool c => unfold DAt at h; subst h; exact .base (.bl c)
  | int i => unfold DAt at h; subst h; exact .base (.int i)
  | str x => unfold DAt at h; subst h; exact .base (.str x)
  | list ds => obtain ⟨a, xs, rfl, _, e, _⟩ := h.lst_of; exact .base (.lst e)
  | tuple ds => obtain ⟨a, xs, rfl, e, _⟩ := h.tup_of; rcases e with e | ⟨o, e⟩; exact .base (.tup e); exact .fTuple e
  | dict ds => unfold DAt at h; exact h.elim
def isI : PyData → Bool | .int _ => true | .bool _ => true | _ => false
def isB : PyData → Bool | .bool _ => true | _ => false
def isS : PyData → Bool | .str _ => true | _ => false
def isU : PyData → Bool | .tuple _ => true | _ => false
def isL : PyData → Bool | .list _ => true | _ => false
def isNum : PyData → Bool | .int _ => true | _ => false
section
variable {K : PySem.W.Frag}
theorem kitI (d : PyData) : PySem.W.kitOne K (.type (tyD d)) (.type "int") = some (isI d) := by cases d <;> exact kit_ty (by simp only [tyD, isI]; decide +kernel)
theorem kitB' (d : PyData) : PySem.W.kitOne K (.type (tyD d)) (.type "bool") = some (isB d) := by cases d <;> exact kit_ty (by simp only [tyD, isB]; decide +kernel)
theorem kitS (d : PyData) : PySem.W.kitOne K (.type (tyD d)) (.type "str") = some (isS d) := by cases d <;> exact kit_ty (by simp only [tyD, isS]; decide +kernel)
theorem kitU (d : PyData) : PySem.W.kitOne K (.type (tyD d)) (.type "tuple") = some (isU d) := by cases d <;> exact kit_ty (by simp only [tyD, isU]; decide +kernel)
theorem kitL (d : PyData) : PySem.W.kitOne K (.type (tyD d)) (.type "list") = some (isL d) := by cases d <;> exact kit_ty (by simp only [tyD, isL]; decide +kernel)
end
def okD (d : PyData) : Prop := d.canLay0 = true ∧ d.depth ≤ 60
theorem okAll {ds : List PyData} (h : PyData.canLayAll0 ds = true) (k : Nat) (hk : PyData.depthAll ds ≤ k) : ∀ d ∈ ds, d.canLay0 = true ∧ d.depth ≤ k := by
  induction ds with
  | nil => intro d hd; simp at hd
  | cons x ds ih =>
    simp only [PyData.canLayAll0, Bool.and_eq_true] at h
    simp only [PyData.depthAll] at hk
    intro d hd
    rcases List.mem_cons.mp hd with rfl | hd
    · exact ⟨h.1, by omega⟩
    · exact ih h.2 (by omega) d hd
theorem okD.tup {ds : List PyData} (h : okD (.tuple ds)) : ∀ d ∈ ds, okD d := fun d hd => by
  have h1 : PyData.canLayAll0 ds = true := by have := h.1; simpa [PyData.canLay0] using this
  have h2 : PyData.depthAll ds + 1 ≤ 60 := by have := h.2; simpa [PyData.depth] using this
  have := okAll h1 59 (by omega) d hd
  exact ⟨this.1, by omega⟩
theorem eqv_str {x : Str} {d : PyData} : PyData.eqv (.str x) d = true ↔ d = .str x := by
  cases d <;> simp [PyData.eqv]
  exact eq_comm
theorem eqv_tup {xs ys : List PyData} : PyData.eqv (.tuple xs) (.tuple ys) = PyData.eqvAll xs ys := by simp only [PyData.eqv]
theorem eqv_int {i j : Int} : PyData.eqv (.int i) (.int j) = (i == j) := by simp only [PyData.eqv]
theorem eqvAll_cons {x y : PyData} {xs ys : List PyData} : PyData.eqvAll (x :: xs) (y :: ys) = (PyData.eqv x y && PyData.eqvAll xs ys) := by simp only [PyData.eqvAll]
theorem eqvAll_nil : PyData.eqvAll [] [] = true := by simp only [PyData.eqvAll]
theorem hu65 {A : Around} {k : Nat} (hr : Room k A) : A.units + 65 < cLine := by have := hr.un; omega
def shapesD : PyData := .tuple [.tuple [.str "0", .int 1], .tuple [.str "s", .int 2], .tuple [.str "f", .int 3]]
def shapesL : List PyData := [.tuple [.str "0", .int 1], .tuple [.str "s", .int 2], .tuple [.str "f", .int 3]]
theorem shapes_any {d0 : PyData} {ds : List PyData} : (shapesL.any fun y => PyData.eqv y (.tuple [d0, .int ((ds.length + 1 : Nat) : Int)])) = true ↔ Shaped (.tuple (d0 :: ds)) := by
  have one : ∀ (x : Str) (n : Int), PyData.eqv (.tuple [.str x, .int n]) (.tuple [d0, .int ((ds.length + 1 : Nat) : Int)]) = true ↔ d0 = .str x ∧ n = ((ds.length + 1 : Nat) : Int) := by
    intro x n
    rw [eqv_tup, eqvAll_cons, eqvAll_cons, eqvAll_nil, eqv_int]
    simp only [Bool.and_true, Bool.and_eq_true, eqv_str, beq_iff_eq]
  simp only [shapesL, List.any_cons, List.any_nil, Bool.or_false, Bool.or_eq_true, one]
  constructor
  · rintro (⟨rfl, e⟩ | ⟨rfl, e⟩ | ⟨rfl, e⟩)
    · exact ⟨"0", ds, rfl, .inl ⟨rfl, by omega⟩⟩
    · exact ⟨"s", ds, rfl, .inr (.inl ⟨rfl, by omega⟩)⟩
    · exact ⟨"f", ds, rfl, .inr (.inr ⟨rfl, by omega⟩)⟩
  · rintro ⟨x, ds', e, h⟩
    injection e with e
    injection e with e1 e2
    subst e1 e2
    rcases h with ⟨rfl, h⟩ | ⟨rfl, h⟩ | ⟨rfl, h⟩
    · exact .inl ⟨rfl, by omega⟩
    · exact .inr (.inl ⟨rfl, by omega⟩)
    · exact .inr (.inr ⟨rfl, by omega⟩)
/-- x in t, t a tuple of data of any depth -/
def rInT (K : PySem.W.Frag) : R2 := fun x y H Q => ∃ (d : PyData) (ds : List PyData), Dp K H x d ∧ Dp K H y (.tuple ds) ∧ SeqAt.shaped d = true ∧ SeqAt.shaped (.tuple ds) = true ∧ Q (.bl (ds.any fun y => PyData.eqv y d)) H
section
variable {X : Cx}
theorem op_inT (hu : X.A.units + 65 < cLine) : OpR X (compareOp .In) (rInT X.K) := by
  intro pins s σ H x y v u Q I rx ry h
  obtain ⟨d, ds, hd, he, sd, se, q⟩ := h
  obtain ⟨as, r1⟩ := Dp.reads I d x v hd rx
  obtain ⟨bs, r2⟩ := Dp.reads I (.tuple ds) y u he ry
  exact SeqAt.in_tuple_reads r2 r1 (SeqAt.canLay_of_shaped se) (SeqAt.canLay_of_shaped sd) (room_in_shaped sd hu) ⟨.bl _, H, I, rfl, q⟩
end
theorem shaped_of {d : PyData} (h : d.canLay0 = true) (h' : d.depth ≤ 64) : SeqAt.shaped d = true := by
  show (d.canLay0 && decide (d.depth ≤ 64)) = true
  rw [h, decide_eq_true h']
  rfl
def spNumber : Sp := fun vs H Q _ => ∃ (b : Addr) (v : V) (d : PyData), vs = [v] ∧ DAt H b v d ∧ Q (.bl (isNum d)) H
def isVar : PyData → Bool | .int n => decide (0 ≤ n) && decide (n ≤ 99) | _ => false
def spVariable : Sp := fun vs H Q _ => ∃ (b : Addr) (v : V) (d : PyData), vs = [v] ∧ DAt H b v d ∧ Q (.bl (isVar d)) H
def spShape : Sp := fun vs H Q _ => ∃ (b : Addr) (v : V) (d : PyData), vs = [v] ∧ DAt H b v d ∧ okD d ∧ ∀ (r : Bool) (H' : Hp), (r = true ↔ Shaped d) → Same H H' → Q (.bl r) H'
section
variable {P : Program} {w : World} {K : PySem.W.Frag} {mg : Str → Option Value} {base : Heap}
theorem scNumber : FnScope ["thing"] ["thing"] (defScope sNumber) := ⟨rfl, rfl, rfl, by decide +kernel, rfl, by decide +kernel, by decide +kernel⟩
theorem ok_number {f : Addr} {fd : FuncData} (F : Fun K "is_number" "is_number" sNumber f fd) (M : SameG mg) : FnOk P w K mg base CX0 1 f fd ["thing"] spNumber := by
  refine F.ok scNumber (fun vs H Q E h => ?_) (fun cdv A outer s H vs Q E hr h => ?_)
  · obtain ⟨b, v, d, rfl, _⟩ := h
    rfl
  obtain ⟨b, v, d, rfl, D, q⟩ := h
  refine ⟨_, pss_one (ps_ret (pe_and (pe_callB (id := "isinstance") call_isi (by rfl) M.isi (by decide +kernel) (pa_cons (pv 0) (pa_cons (pe_bltn (v := .ty "int") (by rfl) M.int (by decide +kernel) rfl) pa_nil)))
    (pe_one (pe_not (pe_callB (id := "isinstance") call_isi (by rfl) M.isi (by decide +kernel) (pa_cons (pv 0) (pa_cons (pe_bltn (v := .ty "bool") (by rfl) M.bool (by decide +kernel) rfl) pa_nil))))))), ?_⟩
  refine ⟨_, rfl, _, _, _, _, isI d, rfl, .ty "int", D.tyx, kitI d, isI d, rfl, ?_⟩
  have second : (fun (σ : L2.St) => isI d = true → isB d = !(isNum d)) [] := by cases d <;> simp [isI, isB, isNum]
  have first : isI d = false → isNum d = false := by cases d <;> simp [isI, isNum]
  cases e : isI d with
  | false => exact iteF (by have z := first e; rw [z] at q; exact q)
  | true =>
    refine iteT ⟨_, rfl, _, _, _, _, isB d, rfl, .ty "bool", D.tyx, kitB' d, isB d, rfl, ?_⟩
    have z := second e
    rw [z]
    simpa using q
theorem scVariable : FnScope ["thing"] ["thing"] (defScope sVariable) := ⟨rfl, rfl, rfl, by decide +kernel, rfl, by decide +kernel, by decide +kernel⟩
theorem ok_variable {f fN : Addr} {fd fdN : FuncData} {tk : Tok} (F : Fun K "is_variable" "is_variable" sVariable f fd) (GN : FnOk P w K mg base CX0 1 fN fdN ["thing"] spNumber) (kN : PySem.W.keepIn K (.ref fN) = true) (bN : Binds K fdN ["thing"] []) (mN : mg "is_number" = some (.ref fN))
    (mLast : mg "LAST_VARIABLE" = some (.int 99 tk)) : FnOk P w K mg base CX0 2 f fd ["thing"] spVariable := by
  refine F.ok scVariable (fun vs H Q E h => ?_) (fun cdv A outer s H vs Q E hr h => ?_)
  · obtain ⟨b, v, d, rfl, _⟩ := h
    rfl
  obtain ⟨b, v, d, rfl, D, q⟩ := h
  refine ⟨_, pss_one (ps_ret (pe_and (pe_call GN hr rfl mN kN bN .nil pass0 (pa_cons (pv 0) pa_nil)) (pe_one (pe_chain op_le op_le pe_int (pv 0) (pe_glob (v := .int 99) rfl mLast ⟨_, rfl⟩))))), ?_⟩
  refine ⟨_, rfl, b, v, d, rfl, D, isNum d, rfl, ?_⟩
  cases d with
  | int n =>
    have ev := D.int_of
    subst ev
    refine iteT ⟨_, rfl, _, _, rfl, rfl, decide (0 ≤ n), rfl, ?_⟩
    cases e : decide (0 ≤ n) with
    | false => exact iteF (by simpa [isVar, e] using q)
    | true => exact iteT ⟨_, _, rfl, rfl, by simpa [isVar, e] using q⟩
  | _ => exact iteF q
theorem scShape : FnScope ["thing"] ["thing"] (defScope sShape) := ⟨rfl, rfl, rfl, by decide +kernel, rfl, by decide +kernel, by decide +kernel⟩
theorem ok_shape {f aS : Addr} {fd : FuncData} (F : Fun K "_has_shape" "_has_shape" sShape f fd) (M : SameG mg) (mS : mg "SHAPES" = some (.ref aS)) (hS : ∀ H, Dp K H (.ref aS) shapesD) : FnOk P w K mg base CX0 1 f fd ["thing"] spShape := by
  refine F.ok scShape (fun vs H Q E h => ?_) (fun cdv A outer s H vs Q E hr h => ?_)
  · obtain ⟨b, v, d, rfl, _⟩ := h
    rfl
  obtain ⟨b, v, d, rfl, D, ok, q⟩ := h
  refine ⟨_, pss_cons (ps_if (PW.pt (pw_or (pt_not (pt_val (pe_callB (id := "isinstance") call_isi (by rfl) M.isi (by decide +kernel) (pa_cons (pv 0) (pa_cons (pe_bltn (v := .ty "tuple") (by rfl) M.tuple (by decide +kernel) rfl) pa_nil)))))
      (pw_or1 (pt_not (pt_truth (pv 0) (by intro _; rfl)))))) (pss_one (ps_ret pe_bl)) pss_nil)
    (pss_one (ps_ret (pe_cmpR (op_inT (hu65 hr)) (pe_tup (pa_cons (pe_ix ix_tup (pv 0) pe_int (fun _ _ => rfl)) (pa_cons (pe_callB call_len_seq (by rfl) M.len PySem.boot_len (pa_cons (pv 0) pa_nil)) pa_nil))) (pe_glob (v := .ref aS) rfl mS rfl) (by rfl)))), ?_⟩
  refine ⟨_, rfl, _, _, _, _, isU d, rfl, .ty "tuple", D.tyx, kitU d, isU d, rfl, ?_⟩
  cases d with
  | tuple ds =>
    obtain ⟨a, xs, rfl, ha, A'⟩ := D.tup_of
    refine iteF ⟨_, rfl, !xs.isEmpty, .inr (.inl ⟨xs, .inl ha, rfl⟩), ?_⟩
    cases xs with
    | nil =>
      refine iteT (q false H ⟨(fun e => nomatch e), ?_⟩ (Same.refl H))
      rintro ⟨x, ds', e, _⟩
      injection e with e
      subst e
      have := A'.len
      simp at this
    | cons x0 xr =>
      obtain ⟨d0, dr, rfl, D0, Dr⟩ := A'.head
      have el := Dr.len
      refine iteF ⟨_, rfl, a, _, _, _, rfl, rfl, .inl ha, at_of (j := 0) rfl rfl, _, rfl, a, _, rfl, .inr (.inl ha), (by show 2 ≤ sizeLine; decide), fun p hp => ?_⟩
      have s1 := same_new hp (.tup [x0, .int (((x0 :: xr).length : Nat) : Int)])
      have o0 := ok.tup d0 (by simp)
      refine ⟨.tuple [d0, .int ((dr.length + 1 : Nat) : Int)], shapesL, .tup (.inl (.inl upd_same)) (.cons (D0.same s1).dp (.cons ?_ .nil)), hS _, ?_, by decide +kernel, ?_⟩
      · rw [List.length_cons, el]; exact .int _
      · refine shaped_of ?_ ?_
        · simp [PyData.canLay0, PyData.canLayAll0, o0.1]
        · have := o0.2
          simp only [PyData.depth, PyData.depthAll]
          omega
      · exact q _ _ shapes_any s1
  | _ => exact iteT (q false H ⟨(fun e => nomatch e), (fun ⟨x, ds', e, _⟩ => nomatch e)⟩ (Same.refl H))
end
end Rp

/-! Data of small ints and a few short texts: how large they are, what is said of them. -/
namespace Rp
open PySem PySem.Spec PyProof.Rows L2
def okText (x : Str) : Prop := x = "" ∨ x = "0" ∨ x = "s" ∨ x = "f" ∨ x = "x" ∨ x = "g" ∨ x = "x0"
mutual
def fine (U : List Int) : PyData → Prop
  | .none => True | .bool _ => True | .int i => i ∈ U | .str x => okText x | .list ds => fineAll U ds | .tuple ds => fineAll U ds | .dict _ => False
def fineAll (U : List Int) : List PyData → Prop
  | [] => True
  | d :: ds => fine U d ∧ fineAll U ds
end
mutual
def nd : PyData → Nat
  | .list ds => ndAll ds + 1 | .tuple ds => ndAll ds + 1 | _ => 1
def ndAll : List PyData → Nat
  | [] => 0
  | d :: ds => nd d + ndAll ds
end
theorem nd_pos (d : PyData) : 1 ≤ nd d := by cases d <;> simp [nd]
theorem ndAll_append : ∀ a b : List PyData, ndAll (a ++ b) = ndAll a + ndAll b
  | [], b => by simp [ndAll]
  | x :: a, b => by simp only [List.cons_append, ndAll, ndAll_append a b]; omega
theorem ndAll_mem : ∀ {ds : List PyData} {d : PyData}, d ∈ ds → nd d ≤ ndAll ds
  | x :: ds, d, h => by
    simp only [ndAll]
    rcases List.mem_cons.mp h with rfl | h
    · omega
    · have := ndAll_mem h; omega
theorem ndAll_len : ∀ ds : List PyData, ds.length ≤ ndAll ds
  | [] => Nat.le_refl _
  | d :: ds => by have := ndAll_len ds; have := nd_pos d; simp only [ndAll, List.length_cons]; omega
theorem fineAll_iff {U : List Int} : ∀ {ds : List PyData}, fineAll U ds ↔ ∀ d ∈ ds, fine U d
  | [] => by simp [fineAll]
  | d :: ds => by simp only [fineAll, fineAll_iff (ds := ds), List.forall_mem_cons]
theorem depthAll_iff {k : Nat} : ∀ {ds : List PyData}, PyData.depthAll ds ≤ k ↔ ∀ d ∈ ds, d.depth ≤ k
  | [] => by simp [PyData.depthAll]
  | d :: ds => by simp only [PyData.depthAll, List.forall_mem_cons, ← depthAll_iff (ds := ds)]; omega
theorem okText_lay {x : Str} (h : okText x) : PyData.canLay0 (.str x) = true ∧ x.cps.size ≤ 2 := by
  rcases h with rfl | rfl | rfl | rfl | rfl | rfl | rfl <;> exact ⟨by decide +kernel, by decide +kernel⟩
/-- the few ints of a row of data -/
structure Few (U : List Int) : Prop where
  le : ∀ i ∈ U, -1 ≤ i ∧ i ≤ 100
  len : U.length ≤ 20
mutual
theorem fine_lay {U : List Int} (hU : Few U) : ∀ d : PyData, fine U d → d.canLay0 = true ∧ d.showable = true ∧ d.intsShort 13 = true ∧ d.hasDict = false ∧ d.weight + 1 ≤ 110 * nd d
  | .none, _ => ⟨rfl, rfl, rfl, rfl, by decide⟩
  | .bool b, _ => ⟨rfl, rfl, rfl, rfl, by simp [PyData.weight, nd]⟩
  | .int i, h => by
    have h : -1 ≤ i ∧ i ≤ 100 := hU.le i h
    have a : i.natAbs ≤ 100 := by omega
    have b := Nat.log2_le_self i.natAbs
    refine ⟨rfl, ?_, ?_, rfl, ?_⟩
    · simp only [PyData.showable, decide_eq_true_eq]; omega
    · simp only [PyData.intsShort, decide_eq_true_eq]; exact PyData.shown_int_le (by omega)
    · simp only [PyData.weight, nd]; split <;> omega
  | .str x, h => by
    have z := okText_lay h
    refine ⟨z.1, rfl, rfl, rfl, ?_⟩
    simp only [PyData.weight, nd]
    omega
  | .list ds, h => by
    have z := fine_layAll hU ds h
    simp only [PyData.canLay0, PyData.showable, PyData.intsShort, PyData.hasDict, PyData.weight, nd]
    refine ⟨z.1, z.2.1, z.2.2.1, z.2.2.2.1, by omega⟩
  | .tuple ds, h => by
    have z := fine_layAll hU ds h
    simp only [PyData.canLay0, PyData.showable, PyData.intsShort, PyData.hasDict, PyData.weight, nd]
    refine ⟨z.1, z.2.1, z.2.2.1, z.2.2.2.1, by omega⟩
  | .dict _, h => h.elim
theorem fine_layAll {U : List Int} (hU : Few U) : ∀ ds : List PyData, fineAll U ds → PyData.canLayAll0 ds = true ∧ PyData.showableAll ds = true ∧ PyData.intsShortAll 13 ds = true ∧ PyData.hasDictAll ds = false ∧ PyData.weightAll ds ≤ 110 * ndAll ds
  | [], _ => ⟨rfl, rfl, rfl, rfl, by decide⟩
  | d :: ds, h => by
    have h : fine U d ∧ fineAll U ds := h
    have a := fine_lay hU d h.1
    have b := fine_layAll hU ds h.2
    simp only [PyData.canLayAll0, PyData.showableAll, PyData.intsShortAll, PyData.hasDictAll, PyData.weightAll, ndAll, Bool.and_eq_true, Bool.or_eq_false_iff]
    exact ⟨⟨a.1, b.1⟩, ⟨a.2.1, b.2.1⟩, ⟨a.2.2.1, b.2.2.1⟩, ⟨a.2.2.2.1, b.2.2.2.1⟩, by omega⟩
end
/-- fine, of at most n nodes, at most k deep -/
structure Good (U : List Int) (n k : Nat) (d : PyData) : Prop where
  fine : fine U d
  nd : nd d ≤ n
  dp : d.depth ≤ k
theorem Good.more {U : List Int} {n k n' k' : Nat} {d : PyData} (h : Good U n k d) (hn : n ≤ n') (hk : k ≤ k') : Good U n' k' d := ⟨h.fine, by have := h.nd; omega, by have := h.dp; omega⟩
theorem Good.ok {U : List Int} (hU : Few U) {n k : Nat} {d : PyData} (h : Good U n k d) (hk : k ≤ 60) : okD d := ⟨(fine_lay hU d h.fine).1, by have := h.dp; omega⟩
theorem Good.shown {U : List Int} (hU : Few U) {n k : Nat} {d : PyData} (h : Good U n k d) (hn : n ≤ 9000) (hk : k ≤ 60) : d.showable = true ∧ d.hasDict = false ∧ d.depth ≤ 64 ∧ d.shown.length ≤ 15728653 := by
  obtain ⟨h1, h2, h3, h4, h5⟩ := fine_lay hU d h.fine
  have n1 := h.nd
  have k1 := h.dp
  refine ⟨h2, h4, by omega, shown_le13 ?_ h3⟩
  unfold PyData.layable0
  rw [h1, decide_eq_true (by omega : d.depth ≤ 64), decide_eq_true (by omega : d.weight ≤ 2 ^ 20)]
  rfl
theorem Good.tup {U : List Int} {n k : Nat} {ds : List PyData} (h : Good U n k (.tuple ds)) : (∀ d ∈ ds, Rp.fine U d) ∧ ndAll ds + 1 ≤ n ∧ ∀ d ∈ ds, d.depth + 1 ≤ k := by
  refine ⟨fineAll_iff.mp h.fine, by simpa [Rp.nd] using h.nd, fun d hd => ?_⟩
  have k1 : PyData.depthAll ds + 1 ≤ k := by simpa [PyData.depth] using h.dp
  have := depthAll_iff.mp (Nat.le_refl (PyData.depthAll ds)) d hd
  omega
theorem Good.lst {U : List Int} {n k : Nat} {ds : List PyData} (h : Good U n k (.list ds)) : (∀ d ∈ ds, Rp.fine U d) ∧ ndAll ds + 1 ≤ n ∧ ∀ d ∈ ds, d.depth + 1 ≤ k := by
  refine ⟨fineAll_iff.mp h.fine, by simpa [Rp.nd] using h.nd, fun d hd => ?_⟩
  have k1 : PyData.depthAll ds + 1 ≤ k := by simpa [PyData.depth] using h.dp
  have := depthAll_iff.mp (Nat.le_refl (PyData.depthAll ds)) d hd
  omega
theorem good_lst {U : List Int} {n k : Nat} {ds : List PyData} (h : ∀ d ∈ ds, fine U d) (hn : ndAll ds + 1 ≤ n) (hk : ∀ d ∈ ds, d.depth + 1 ≤ k) (k1 : 1 ≤ k) : Good U n k (.list ds) := by
  refine ⟨fineAll_iff.mpr h, by simpa [Rp.nd] using hn, ?_⟩
  have : PyData.depthAll ds ≤ k - 1 := depthAll_iff.mpr fun d hd => by have := hk d hd; omega
  simp only [PyData.depth]
  omega
theorem good_tup {U : List Int} {n k : Nat} {ds : List PyData} (h : ∀ d ∈ ds, fine U d) (hn : ndAll ds + 1 ≤ n) (hk : ∀ d ∈ ds, d.depth + 1 ≤ k) (k1 : 1 ≤ k) : Good U n k (.tuple ds) := by
  refine ⟨fineAll_iff.mpr h, by simpa [Rp.nd] using hn, ?_⟩
  have : PyData.depthAll ds ≤ k - 1 := depthAll_iff.mpr fun d hd => by have := hk d hd; omega
  simp only [PyData.depth]
  omega
/-- a TERM's data are good -/
theorem tm_good {U : List Int} : ∀ t : Tm, (∀ n ∈ t.nums, n ∈ U) → Good U (2 * t.size) (t.deep + 1) (tmD t)
  | .v n, h => ⟨h n (by simp [Tm.nums]), by simp [tmD, Rp.nd, Tm.size], by simp [tmD, PyData.depth]⟩
  | .z, _ => ⟨⟨.inr (.inl rfl), trivial⟩, by simp [tmD, Rp.nd, ndAll, Tm.size], by simp [tmD, PyData.depth, PyData.depthAll]⟩
  | .s t, h => by
    have g := tm_good t h
    have h1 := g.nd
    have h2 := g.dp
    unfold tmD
    refine good_tup (fun d hd => ?_) ?_ (fun d hd => ?_) (by omega)
    · simp at hd; rcases hd with rfl | rfl
      · exact .inr (.inr (.inl rfl))
      · exact g.fine
    · simp only [ndAll, Rp.nd, Tm.size]; omega
    · simp at hd; rcases hd with rfl | rfl
      · simp [PyData.depth, Tm.deep]
      · simp only [Tm.deep]; omega
  | .f l r, h => by
    have g := tm_good l fun n hn => h n (by simp [Tm.nums, hn])
    have g' := tm_good r fun n hn => h n (by simp [Tm.nums, hn])
    have h1 := g.nd
    have h2 := g.dp
    have h3 := g'.nd
    have h4 := g'.dp
    unfold tmD
    refine good_tup (fun d hd => ?_) ?_ (fun d hd => ?_) (by omega)
    · simp at hd; rcases hd with rfl | rfl | rfl
      · exact .inr (.inr (.inr (.inl rfl)))
      · exact g.fine
      · exact g'.fine
    · simp only [ndAll, Rp.nd, Tm.size]; omega
    · simp at hd; rcases hd with rfl | rfl | rfl
      · simp [PyData.depth, Tm.deep]
      · simp only [Tm.deep]; omega
      · simp only [Tm.deep]; omega
/-- ints of a TERM among the data's -/
theorem tm_fine {U : List Int} : ∀ t : Tm, fine U (tmD t) → ∀ n ∈ t.nums, n ∈ U
  | .v n, h, m, hm => by simp [Tm.nums] at hm; subst hm; exact h
  | .z, h, m, hm => by simp [Tm.nums] at hm
  | .s t, h, m, hm => tm_fine t h.2.1 m hm
  | .f l r, h, m, hm => by
    rcases List.mem_append.mp hm with q | q
    · exact tm_fine l h.2.1 m q
    · exact tm_fine r h.2.2.1 m q
theorem nodup_le : ∀ {L U : List Int}, L.Nodup → (∀ k ∈ L, k ∈ U) → L.length ≤ U.length
  | [], U, _, _ => Nat.zero_le _
  | x :: L, U, h, hs => by
    rw [List.nodup_cons] at h
    have hx := hs x (by simp)
    have := nodup_le (L := L) (U := U.erase x) h.2 fun k hk => (List.mem_erase_of_ne (fun e => h.1 (by rw [← e]; exact hk))).mpr (hs k (by simp [hk]))
    rw [List.length_erase_of_mem hx] at this
    have := List.length_pos_of_mem hx
    rw [List.length_cons]
    omega
/-- the other way: a TERM's data tell its size -/
theorem tm_size : ∀ t : Tm, t.size ≤ nd (tmD t) ∧ t.deep ≤ (tmD t).depth
  | .v n => ⟨by simp [tmD, nd, Tm.size], by simp [Tm.deep]⟩
  | .z => ⟨by simp [tmD, nd, Tm.size], by simp [Tm.deep]⟩
  | .s t => by
    have := tm_size t
    simp only [tmD, nd, ndAll, Tm.size, Tm.deep, PyData.depth, PyData.depthAll]
    omega
  | .f l r => by
    have := tm_size l
    have := tm_size r
    simp only [tmD, nd, ndAll, Tm.size, Tm.deep, PyData.depth, PyData.depthAll]
    omega
end Rp

namespace Rp
open PySem PySem.Spec PyProof.Rows L2
def spTerm : Sp := fun vs H Q _ => ∃ (b : Addr) (v : V) (d : PyData), vs = [v] ∧ DAt H b v d ∧ okD d ∧ nd d ≤ 100000 ∧ ∀ (r : Bool) (H' : Hp), (r = true ↔ IsT d) → Same H H' → Q (.bl r) H'
def spVarsU : Sp := fun vs H Q _ => ∃ (v : V) (t : Tm) (U : List Int), vs = [v] ∧ TmAt H v t ∧ t.size ≤ 1000 ∧ (∀ n ∈ t.nums, n ∈ U) ∧ U.length ≤ 60 ∧
  ∀ (p : Addr) (ns : List Int) (H' : Hp), H p = none → H' p = some (.lst (ns.map V.int)) → ns.Pairwise (· < ·) → (∀ k, k ∈ ns ↔ k ∈ t.nums) → Same H H' → Q (.ref p) H'
def spClosed : Sp := fun vs H Q _ => ∃ (b : Addr) (v : V) (d : PyData) (U : List Int), vs = [v] ∧ DAt H b v d ∧ Few U ∧ Good U 1000 60 d ∧ ∀ (r : Bool) (H' : Hp), (r = true ↔ ∃ t, d = tmD t ∧ t.nums = []) → Same H H' → Q (.bl r) H'
theorem isVar_iff {d : PyData} (h : ¬ Shaped d) : isVar d = true ↔ IsT d := by
  cases d with
  | int n => rw [isT_int]; simp [isVar]
  | _ => exact ⟨fun e => by simp [isVar] at e, fun e => absurd e (isT_other h fun n z => by cases z)⟩
section
variable {P : Program} {w : World} {K : PySem.W.Frag} {mg : Str → Option Value} {base : Heap}
theorem scTerm : FnScope ["thing", "todo", "part"] ["thing"] (defScope sTerm) := ⟨rfl, rfl, rfl, by decide +kernel, rfl, by decide +kernel, by decide +kernel⟩
theorem ok_term {f fS fV : Addr} {fd dS dV : FuncData} (F : Fun K "is_term" "is_term" sTerm f fd)
    (GS : FnOk P w K mg base CX0 1 fS dS ["thing"] spShape) (kS : PySem.W.keepIn K (.ref fS) = true) (bS : Binds K dS ["thing"] []) (mS : mg "_has_shape" = some (.ref fS))
    (GV : FnOk P w K mg base CX0 2 fV dV ["thing"] spVariable) (kV : PySem.W.keepIn K (.ref fV) = true) (bV : Binds K dV ["thing"] []) (mV : mg "is_variable" = some (.ref fV)) :
    FnOk P w K mg base CX0 3 f fd ["thing"] spTerm := by
  refine F.ok scTerm (fun vs H Q E h => ?_) (fun cdv A outer s H vs Q E hr h => ?_)
  · obtain ⟨b, v, d, rfl, _⟩ := h
    rfl
  obtain ⟨b, v, d, rfl, D, ok, hn, q⟩ := h
  have r1 : Room 1 _ := hr.mono (by decide)
  refine ⟨_, pss_cons (ps_set (i := 1) scTerm.nd rfl (Or.inl rfl) (pe_lst (pa_cons (pv 0) pa_nil)))
    (pss_cons (ps_while PassesOwn.never (pt_truth (pv 1) (by intro _; rfl))
      (pss_cons (ps_set (i := 2) scTerm.nd rfl (Or.inl rfl) (pe_bm0 PySem.F.plainAttrs_list PySem.F.slot_list_pop PySem.F.type_list_pop mt_pop (pv 1)))
      (pss_one (ps_if (pt_val (pe_call GS r1 rfl mS kS bS .nil pass0 (pa_cons (pv 2) pa_nil)))
        (pss_one (ps_expr (pe_bm PySem.F.plainAttrs_list PySem.F.slot_list_extend PySem.F.type_list_extend mt_extendT (pv 1) (pa_cons (pe_slice sl_tup (pv 2) (po_some pe_int) po_none) pa_nil))))
        (pss_one (ps_if (pt_not (pt_val (pe_call GV hr rfl mV kV bV .nil pass0 (pa_cons (pv 2) pa_nil)))) (pss_one (ps_ret pe_bl)) pss_nil))))))
    (pss_one (ps_ret pe_bl))), ?_⟩
  refine ⟨_, rfl, (by show 1 ≤ sizeLine; decide), fun p hp => ?_⟩
  have s1 := same_new hp (.lst [v])
  dsimp only [gName, tSeq]
  refine ⟨fun m σ H2 => ∃ (txs : List V) (ds : List PyData) (x : Option V), σ = [some v, some (.ref p), x] ∧ H2 p = some (.lst txs) ∧ DAtAll H b txs ds ∧ (IsT d ↔ ∀ e ∈ ds, IsT e) ∧ (∀ e ∈ ds, okD e) ∧ ndAll ds ≤ 100000 ∧ m = ndAll ds ∧ Same H H2,
    ⟨nd d, [v], [d], none, rfl, upd_same, .cons D .nil, by simp, by simpa using ok, by simp [ndAll]; exact hn, by simp [ndAll], s1⟩, ?_⟩
  rintro m σ H2 ⟨txs, ds, x, rfl, h2, A1, iff, oks, few, rfl, sH⟩
  refine ⟨_, rfl, !txs.isEmpty, .inl ⟨txs, .inl (.inl h2), rfl⟩, ?_⟩
  rcases List.eq_nil_or_concat txs with e | ⟨M, y, e⟩
  · subst e
    refine iteF ?_
    have e2 : ds = [] := by have := A1.len; cases ds with | nil => rfl | cons => simp at this
    subst e2
    exact q true H2 ⟨fun _ => iff.mpr (by simp), fun _ => rfl⟩ sH
  · rw [List.concat_eq_append] at e
    subst e
    have ne : (!(M ++ [y]).isEmpty) = true := by simp
    rw [ne]
    refine iteT ⟨_, fun _ _ h => h, ?_⟩
    obtain ⟨L, k', e2, AM, Ay⟩ := A1.parted
    subst e2
    obtain ⟨k, rest, rfl, Dk, Ar⟩ := Ay.head
    obtain rfl : rest = [] := by have := Ar.len; cases rest with | nil => rfl | cons => simp at this
    have okk : okD k := oks k (by simp)
    have ilast : IsT d ↔ (∀ e ∈ L, IsT e) ∧ IsT k := by
      rw [iff]
      constructor
      · intro h; exact ⟨fun e he => h e (by simp [he]), h k (by simp)⟩
      · intro h e he
        rcases List.mem_append.mp he with he | he
        · exact h.1 e he
        · simp at he; subst he; exact h.2
    rw [ndAll_append] at few
    -- part = todo.pop()
    refine ⟨_, rfl, .inl ⟨rfl, _, .inl (.inl h2)⟩, p, _, y, rfl, rfl, h2, by simp, ?_⟩
    rw [List.dropLast_concat]
    have pn : H p = none := hp
    have s3 : Same H (upd H2 p (.lst M)) := fun c o z => by rw [upd_ne (ne_of_none z pn)]; exact sH c o z
    have nk : ndAll [k] = nd k := by simp [ndAll]
    refine ⟨_, rfl, b, y, k, rfl, Dk.same s3, okk, fun r H4 hr4 s4 => ?_⟩
    have h4 := s4 _ _ (upd_same : (upd H2 p (.lst M)) p = some (.lst M))
    have sH4 : Same H H4 := s3.trans s4
    cases r with
    | true =>
      refine ⟨true, rfl, iteT ?_⟩
      obtain ⟨sg, ds', rfl, sh⟩ := hr4.mp rfl
      obtain ⟨a, xs, rfl, ha, Ak⟩ := Dk.tup_of
      obtain ⟨x0, ks, rfl, D0, Dks⟩ := Ak.cons_of
      have nks : nd (PyData.tuple (.str sg :: ds')) = ndAll ds' + 2 := by simp [nd, ndAll]; omega
      refine ⟨_, rfl, .inl ⟨rfl, M, .inl (.inl h4)⟩, _, rfl, 1, rfl, a, _, rfl, .inl (ha.same sH4), cut_part _ _, fun g hg => ?_⟩
      rw [cut_tail]
      have s5 := same_new hg (.tup ks)
      have lim : M.length + ks.length ≤ sizeLine := by
        have a1 := AM.len
        have a2 := Dks.len
        have a3 := ndAll_len L
        have a4 := ndAll_len ds'
        have a5 : (100000 : Nat) + 100000 ≤ sizeLine := by decide
        omega
      refine ⟨p, g, M, ks, rfl, rfl, s5 _ _ h4, .inl (.inl upd_same), lim, ?_⟩
      refine ⟨ndAll (L ++ ds'), ?_, M ++ ks, L ++ ds', _, rfl, upd_same, AM.append Dks, ?_, ?_, ?_, rfl, ?_⟩
      · rw [ndAll_append, ndAll_append]; omega
      · rw [ilast, isT_shaped sh]
        constructor
        · rintro ⟨h1, h2⟩ e he
          rcases List.mem_append.mp he with he | he
          · exact h1 e he
          · exact h2 e he
        · intro h
          exact ⟨fun e he => h e (by simp [he]), fun e he => h e (by simp [he])⟩
      · intro e he
        rcases List.mem_append.mp he with he | he
        · exact oks e (by simp [he])
        · exact okk.tup e (by simp [he])
      · rw [ndAll_append]; omega
      · intro c o z
        rw [upd_ne (ne_of_none z pn)]
        exact s5 _ _ (sH4 _ _ z)
    | false =>
      refine ⟨false, rfl, iteF ?_⟩
      have ns : ¬ Shaped k := fun z => by have := hr4.mpr z; cases this
      refine ⟨_, rfl, b, y, k, rfl, Dk.same sH4, isVar k, rfl, ?_⟩
      cases ev : isVar k with
      | false =>
        refine iteT (q false H4 ⟨(fun e => nomatch e), fun z => ?_⟩ sH4)
        have := (isVar_iff ns).mpr (ilast.mp z).2
        rw [ev] at this
        cases this
      | true =>
        refine iteF ?_
        have tk := (isVar_iff ns).mp ev
        refine ⟨ndAll L, ?_, M, L, _, rfl, h4, AM, ?_, fun e he => oks e (by simp [he]), by omega, rfl, sH4⟩
        · rw [ndAll_append, nk]; have := nd_pos k; omega
        · rw [ilast]; exact ⟨fun h => h.1, fun h => ⟨h, tk⟩⟩
end
end Rp

/-! xs[a:] = ys, ys another list: what the layer has no statement of. -/
namespace Rp
open PySem PySem.Spec PyProof.Rows L2
theorem tail_bounds {k n : Nat} (h : k ≤ n) : sliceBounds (some (k : Int)) none none n = ((k : Int), (n : Int), 1) := by
  simp only [sliceBounds, Option.getD_none, show ¬ ((k : Int) < 0) by omega, if_false, show (1 : Int) > 0 by decide, if_true]
  congr 1
  · omega
theorem tail_items (old fresh : List Value) (k : Nat) : old.toArray.extract 0 k ++ fresh.toArray ++ old.toArray.extract old.toArray.size old.toArray.size = (old.take k ++ fresh).toArray := by
  apply Array.toList_inj.mp
  simp
section
variable {prog : Program} {w : World} {A : Around} {E : Value → Shared → Prop} {s : Shared}
theorem store_tail {at_ src cut : Addr} {old fresh : Array Value} {n1 n2 : Nat} {vlo : Value} {k : Nat} {Q : Unit → Shared → Prop} (oe : s.heap.get? at_ = some { cls := .type "list", data := .seq old n1 })
    (fe : s.heap.get? src = some { cls := .type "list", data := .seq fresh n2 }) (apart : at_ ≠ src) (isCut : s.heap.IsSliceOf cut vlo .none .none) (pLo : IsPart vlo (some (k : Int))) (hk : k ≤ old.size) (room : old.size + fresh.size ≤ sizeLine)
    (go : Q () { s with heap := s.heap.update at_ (Obj.mapSeq fun xs => xs.extract 0 k ++ fresh ++ xs.extract old.size xs.size) }) : wpAny (model prog w) A (setItem (.ref at_) (.ref cut) (.ref src)) Q E s := by
  have lstIs : s.heap.IsList at_ old := PySem.IsL.isList oe
  have srcIs : s.heap.IsList src fresh := PySem.IsL.isList fe
  obtain ⟨oc, hoc, hcc, hdc⟩ := id isCut
  have cutIs : s.TypeIs (.ref cut) "slice" := ⟨oc, hoc, hcc⟩
  have noStep : ¬ ((rawPart none == rawInt 0) = true) := Bool.false_ne_true
  have other : Builtin.List.listSameRef (.ref at_) (.ref src) = false := by unfold Builtin.List.listSameRef; exact beq_eq_false_iff_ne.mpr apart
  have bound : ((fun xs : Array Value => xs.extract 0 k ++ fresh ++ xs.extract old.size xs.size) old).size ≤ sizeLine + 1 := by simp only [Array.size_append, Array.size_extract]; omega
  unfold setItem; try with_reducible refine wpAny_holding ?_
  first | refine wpAny_bind (wpAny_pure ?_) | skip
  refine wpAny_bind (wpAny_sequenceKey lstIs.typeIs (by decide) (wpAny_bind (wpAny_callSpecial?_slot (name := Str.ofString "__setitem__") lstIs.typeIs slot_list_setitem (wpAny_call_entry slot_list_setitem lstIs.typeIs entry_list_setitem ?_ (args_list_setitem _ _ _)))))
  show wpAny _ _ (Builtin.List.listSubscript? (.ref cut) >>= _) _ _ s
  refine wpAny_bind ?_; unfold Builtin.List.listSubscript?
  refine wpAny_bind (wpAny_specialOf cutIs slice_no_index ?_); simp only [Option.isNone_none, if_true]
  refine wpAny_pure ?_; show wpAny _ _ (typeOf (.ref cut) >>= _) _ _ s
  refine wpAny_bind (wpAny_typeOf cutIs ?_)
  first | rw [if_neg (by decide)] | refine PySem.W.KFB.if_not (by decide) ?_
  rw [listSliceParts_eq]; refine wpAny_bind (wpAny_bind (wpAny_field hoc hdc (x := .none) rfl (wpAny_bind (wpAny_listPart .none ?_))))
  rw [if_neg noStep]; refine wpAny_bind (wpAny_field hoc hdc (x := vlo) rfl (wpAny_bind (wpAny_listPart pLo ?_)))
  refine wpAny_bind (wpAny_field hoc hdc (x := .none) rfl (wpAny_bind (wpAny_listPart .none (wpAny_pure ?_))))
  first | simp only [other, Bool.false_eq_true, if_false] | refine PySem.W.KFB.if_not other ?_ | (dsimp only; rw [if_neg (by rw [other]; exact Bool.false_ne_true)])
  refine wpAny_bind (m := Builtin.List.listAllItems (.ref src) "must assign iterable to extended slice") ?_; unfold Builtin.List.listAllItems
  refine wpAny_bind (wpAny_typeOf srcIs.typeIs ?_)
  first | refine PySem.W.KFB.if_so (by decide) ?_ | rw [if_pos (by decide)] | simp only [beq_self_eq_true, Bool.true_or, if_true]
  unfold Builtin.List.listItems; refine wpAny_bind (wpAny_seqItems fe rfl (wpAny_pure ?_))
  refine wpAny_bind (wpAny_bind (wpAny_seqItems oe rfl (wpAny_pure ?_)))
  refine wpAny_bind (wpAny_of_eq ((sliceIndices_raw (some (k : Int)) none none old.size (by simp)).trans (congrArg (pure : Int × Int × Int → Sem (Int × Int × Int)) (tail_bounds hk))) ?_)
  show wpAny _ _ (if ((1 : Int) == 1) = true then _ else _) _ _ s; rw [if_pos (by decide)]
  refine wpAny_bind (wpAny_rule ?_); have small := notLongL room
  first | simp only [small, Bool.false_eq_true, if_false] | refine PySem.W.KFB.if_not small ?_
  first | refine wpAny_bind (wpAny_pure ?_) | skip
  show wpAny _ _ (updateSeq at_ (fun xs => xs.extract 0 ((k : Int)).toNat ++ fresh ++ xs.extract (max (k : Int) (old.size : Int)).toNat xs.size) >>= _) _ _ s
  rw [show (max (k : Int) (old.size : Int)).toNat = old.size by omega, Int.toNat_natCast]
  refine wpAny_bind (wpAny_updateSeq (hz := Nat.le_trans (Nat.le_add_right _ _) room) (_hz' := bound) oe rfl (wpAny_bind (wpAny_letGo ?_)))
  first | exact wpAny_bind (wpAny_pure (wpAny_pure ⟨.none, rfl, wpAny_pure go⟩)) | exact wpAny_pure ⟨.none, rfl, wpAny_pure go⟩
end
/-- xs[a:] = ys -/
def tTail (to : TE) (ta : TO) (tv : TE) : TS := fun D σ H => tv σ H fun y H1 => to σ H1 fun x H2 => ta σ H2 fun i H3 => ∃ (l b : Addr) (xs ys : List V) (k : Nat), y = .ref b ∧ x = .ref l ∧ i = some (k : Int) ∧ H3 l = some (.lst xs) ∧ H3 b = some (.lst ys) ∧ l ≠ b ∧ k ≤ xs.length ∧ xs.length + ys.length ≤ sizeLine ∧
  D.nx σ (upd H3 l (.lst (xs.take k ++ ys)))
section
variable {X : Cx} {o e value : Expr} {pos pos' p2 : Pos} {td tv : TE} {ta : TO}
theorem ps_tail (ho : PE X o td) (hi : PO X (some e) ta) (hv : PE X value tv) (hs : swapsWith value (some (.Subscript o (.Slice (some e) none none p2) pos')) pos.line X.env = pure false := by rfl) :
    PS X (.Assign [.Subscript o (.Slice (some e) none none p2) pos'] value pos) (tTail td ta tv) := by
  refine ⟨fun pins s σ H D I h => wpAny_Assign_Subscript (thn (hv.run pins s σ H _ I h) fun r s1 ⟨v, H1, I1, rv, q1⟩ => thn (ho.run pins s1 σ H1 _ I1 q1) fun u s2 ⟨x, H2, I2, rx, q2⟩ => ?_) hs⟩
  refine wpAny_Slice (thn (hi.run pins s2 σ H2 _ I2 q2) fun vl s3 ⟨i, H3, I3, pl, q3⟩ => ?_)
  obtain ⟨l, b, xs, ys, k, rfl, rfl, rfl, hl, hb, ne, hk, room, go⟩ := q3
  rw [evalPart_none]
  refine wpAny_pure (wpAny_pure ?_)
  cases rv
  cases rx
  have I4 : Inv X pins σ H3 { s3 with heap := s3.heap.push { cls := .type "slice", data := .fields #[vl, .none, .none] } } := I3.kept (t' := s3.toks) fun c ob w => Heap.get?_push_of_some _ w
  obtain ⟨_, old, n1, ro, lo, oe⟩ := I4.lstM hl
  obtain ⟨_, fresh, n2, rf, lf, fe⟩ := I4.lstM hb
  refine store_tail (k := k) oe fe ne (Heap.IsSliceOf.new ..) pl (by rw [List.size_toArray]; omega) (by rw [List.size_toArray, List.size_toArray]; omega) ?_
  refine ⟨σ, _, I4.lset (its' := old.take k ++ fresh) (t' := s3.toks) hl oe ?_ (Vals.append (ro.take _) rf) ?_, go⟩
  · exact tail_items old fresh k
  · rw [List.length_append, List.length_take]; omega
end
end Rp

set_option maxHeartbeats 8000000
/-! is_binding over data of any kind. -/
namespace Rp
open PySem PySem.Spec PyProof.Rows L2 TL RZ
/-- [.. for a, b in zip(xs, ys)], n turns -/
theorem lc_pairsN {J : It} {n : Nat} {xs ys : List V} {g : TG} {tt : TT} {te : TE} {vs : List Nat} {σ : L2.St} {H1 : Hp} {D : Addr} {Qd : Hp → Prop} (Pv : Nat → Hp → Prop)
    (stops : ∀ H, Pv n H → J.stop n H) (goes : ∀ i H, i < n → Pv i H → J.go i H)
    (gives : ∀ i H v H', i < n → Pv i H → J.yld i H v H' → ∃ T x y, v = .ref T ∧ xs[i]? = some x ∧ ys[i]? = some y ∧ H T = none ∧ H' = upd H T (.tup [x, y]))
    (h0 : Pv 0 (upd H1 D (.lst [])))
    (hs : ∀ (i : Nat) (x y : V) (T : Addr) (H : Hp), i < n → xs[i]? = some x → ys[i]? = some y → Pv i H → H T = none → g (.ref T) (wipe σ vs) (upd H T (.tup [x, y])) fun σ2 H2 => wipe σ2 vs = wipe σ vs ∧
      tt σ2 H2 fun b H3 => if b = true then te σ2 H3 fun y H4 => ∃ acc, H4 D = some (.lst acc) ∧ acc.length < sizeLine ∧ Pv (i + 1) (upd H4 D (.lst (acc ++ [y]))) else Pv (i + 1) H3)
    (hd : ∀ H, Pv n H → Qd H) :
    ∃ W : Nat → Nat → Hp → Prop, (∃ m, W 0 m (upd H1 D (.lst []))) ∧ ∀ i m H, W i m H → (J.stop i H ∧ Qd H) ∨
      (J.go i H ∧ ∃ Nx : Hp → Prop, (∀ H', Nx H' → ∃ m', m' < m ∧ W (i + 1) m' H') ∧ ∀ x H', J.yld i H x H' → g x (wipe σ vs) H' fun σ2 H2 => wipe σ2 vs = wipe σ vs ∧
        tt σ2 H2 fun b H3 => if b = true then te σ2 H3 fun y H4 => ∃ acc, H4 D = some (.lst acc) ∧ acc.length < sizeLine ∧ Nx (upd H4 D (.lst (acc ++ [y]))) else Nx H3) := by
  refine ⟨fun i m H => m + i = n ∧ Pv i H, ⟨n, by simp, h0⟩, ?_⟩
  rintro i m H ⟨em, p⟩
  rcases Nat.lt_or_ge i n with lt | ge
  · refine .inr ⟨goes i H lt p, Pv (i + 1), fun H' p' => ⟨m - 1, by omega, by omega, p'⟩, fun v H' y => ?_⟩
    obtain ⟨T, x, y', rfl, hx, hy, hT, rfl⟩ := gives i H v H' lt p y
    exact hs i x y' T H lt hx hy p hT
  · have e : i = n := by omega
    subst e
    exact .inl ⟨stops H p, hd H p⟩
def IsPr (d : PyData) : Prop := ∃ (n : Int) (e : PyData), d = .tuple [.int n, e] ∧ 0 ≤ n ∧ n ≤ 99 ∧ IsT e
def keyD : PyData → Int
  | .tuple (.int n :: _) => n
  | _ => 0
def adjB (ks : List Int) : Bool := (List.range (ks.length - 1)).all fun j => decide (ks.getD j 0 < ks.getD (j + 1) 0)
def IsBdD (d : PyData) : Prop := ∃ ds : List PyData, d = .tuple ds ∧ (∀ e ∈ ds, IsPr e) ∧ adjB (ds.map keyD) = true
def spIsPr : Sp := fun vs H Q _ => ∃ (b : Addr) (v : V) (d : PyData), vs = [v] ∧ DAt H b v d ∧ okD d ∧ nd d ≤ 100000 ∧ ∀ (r : Bool) (H' : Hp), (r = true ↔ IsPr d) → Same H H' → Q (.bl r) H'
def spIsBd : Sp := fun vs H Q _ => ∃ (b : Addr) (v : V) (d : PyData), vs = [v] ∧ DAt H b v d ∧ okD d ∧ nd d ≤ 100000 ∧ ∀ (r : Bool) (H' : Hp), (r = true ↔ IsBdD d) → Same H H' → Q (.bl r) H'
theorem nd_mem {ds : List PyData} {e : PyData} (h : e ∈ ds) : nd e ≤ nd (.tuple ds) := by
  have := ndAll_mem h
  simp only [nd]; omega
theorem isPr_two {ds : List PyData} (h : ds.length ≠ 2) : ¬ IsPr (.tuple ds) := fun ⟨n, e, z, _⟩ => by
  injection z with z
  subst z
  exact h rfl
theorem isVar_num {d : PyData} : isVar d = true ↔ ∃ n : Int, d = .int n ∧ 0 ≤ n ∧ n ≤ 99 := by
  cases d <;> simp [isVar]
section
variable {P : Program} {w : World} {K : PySem.W.Frag} {mg : Str → Option Value} {base : Heap}
theorem scIsPair : FnScope ["thing"] ["thing"] (defScope sIsPair) := ⟨rfl, rfl, rfl, by decide +kernel, rfl, by decide +kernel, by decide +kernel⟩
theorem ok_ispr {f fV fT : Addr} {fd dV dT : FuncData} (F : Fun K "_is_pair" "_is_pair" sIsPair f fd)
    (GV : FnOk P w K mg base CX0 2 fV dV ["thing"] spVariable) (kV : PySem.W.keepIn K (.ref fV) = true) (bV : Binds K dV ["thing"] []) (mV : mg "is_variable" = some (.ref fV))
    (GT : FnOk P w K mg base CX0 3 fT dT ["thing"] spTerm) (kT : PySem.W.keepIn K (.ref fT) = true) (bT : Binds K dT ["thing"] []) (mT : mg "is_term" = some (.ref fT)) (M : SameG mg) : FnOk P w K mg base CX0 4 f fd ["thing"] spIsPr := by
  refine F.ok scIsPair (fun vs H Q E h => ?_) (fun cdv A outer s H vs Q E hr h => ?_)
  · obtain ⟨b, v, d, rfl, _⟩ := h
    rfl
  obtain ⟨b, v, d, rfl, D, ok, sz, q⟩ := h
  have r2 : Room 2 _ := hr.mono (by decide)
  refine ⟨_, pss_one (ps_ret (pe_and (pe_callB (id := "isinstance") call_isi (by rfl) M.isi (by decide +kernel) (pa_cons (pv 0) (pa_cons (pe_bltn (v := .ty "tuple") (by rfl) M.tuple (by decide +kernel) rfl) pa_nil)))
    (pe_and (pe_cmpR op_eq (pe_callB call_len_seq (by rfl) M.len PySem.boot_len (pa_cons (pv 0) pa_nil)) pe_int (nomark _))
    (pe_and (pe_call GV r2 rfl mV kV bV .nil pass0 (pa_cons (pe_ix ix_tup (pv 0) pe_int (fun _ _ => rfl)) pa_nil))
    (pe_one (pe_call GT hr rfl mT kT bT .nil pass0 (pa_cons (pe_ix ix_tup (pv 0) pe_int (fun _ _ => rfl)) pa_nil))))))), ?_⟩
  have no : ¬ IsPr d → Q (.bl false) H := fun h => q false H ⟨(fun e => nomatch e), fun z => absurd z h⟩ (Same.refl H)
  refine ⟨_, rfl, _, _, _, _, isU d, rfl, .ty "tuple", D.tyx, kitU d, isU d, rfl, ?_⟩
  cases d with
  | tuple ds =>
    obtain ⟨a, xs, rfl, ha, A'⟩ := D.tup_of
    have el := A'.len
    refine iteT ?_
    refine ⟨_, rfl, a, _, rfl, .inr (.inl ha), rfl, decide (V.int ((xs.length : Nat) : Int) = V.int 2), rfl, ?_⟩
    by_cases h2 : xs.length = 2
    · rw [decide_eq_true (by rw [h2]; rfl)]
      refine iteT ?_
      match ds, xs, A', h2 with
      | [d0, d1], [x0, x1], A', _ =>
        obtain ⟨_, _, e, D0, A1⟩ := A'.head
        injection e with e1 e2
        subst e1 e2
        obtain ⟨_, _, e, D1, _⟩ := A1.head
        injection e with e1 e2
        subst e1
        refine ⟨_, rfl, a, _, _, _, rfl, rfl, .inl ha, at_of (j := 0) rfl rfl, b, x0, d0, rfl, D0, isVar d0, rfl, ?_⟩
        cases ev : isVar d0 with
        | false =>
          refine iteF (no fun ⟨n, e, z, n0, n9, _⟩ => ?_)
          injection z with z
          injection z with z1 z2
          rw [isVar_num.mpr ⟨n, z1, n0, n9⟩] at ev
          cases ev
        | true =>
          obtain ⟨n, rfl, n0, n9⟩ := isVar_num.mp ev
          refine iteT ⟨_, rfl, a, _, _, _, rfl, rfl, .inl ha, at_of (j := 1) rfl rfl, b, x1, d1, rfl, D1, ok.tup d1 (by simp), Nat.le_trans (nd_mem (by simp)) sz, fun r H1 hr1 s1 => q r H1 ?_ s1⟩
          rw [hr1]
          refine ⟨fun h => ⟨n, d1, rfl, n0, n9, h⟩, fun ⟨_, _, z, _, _, h⟩ => ?_⟩
          injection z with z
          injection z with _ z
          injection z with z _
          rw [z]; exact h
    · rw [decide_eq_false (fun z => h2 (by injection z with z; omega))]
      exact iteF (no (isPr_two (by omega)))
  | _ => exact iteF (no fun ⟨_, _, z, _⟩ => nomatch z)
end
end Rp

set_option maxHeartbeats 8000000
namespace Rp
open PySem PySem.Spec PyProof.Rows L2 TL RZ
def stepK (ks : List Int) (j : Nat) : Bool := decide (ks.getD j 0 < ks.getD (j + 1) 0)
theorem adj_all {ks : List Int} {n : Nat} (h : n = ks.length) : ((List.range (n - 1)).map (stepK ks)).all id = adjB ks := by
  subst h
  unfold adjB
  rw [List.all_map]
  rfl
theorem drop_one_len {xs : List V} : (xs.drop 1).length = xs.length - 1 := List.length_drop
/-- a pair among data -/
theorem pr_at {H : Hp} {b : Addr} {x : V} {e : PyData} (D : DAt H b x e) (h : IsPr e) : ∃ (p : Addr) (y : V), x = .ref p ∧ TupAt H p [.int (keyD e), y] := by
  obtain ⟨n, e1, rfl, _⟩ := h
  obtain ⟨a, xs, rfl, ha, A⟩ := D.tup_of
  obtain ⟨x0, r, rfl, D0, A1⟩ := A.cons_of
  obtain ⟨x1, r1, rfl, D1, A2⟩ := A1.cons_of
  obtain rfl := A2.nil_of
  cases D0.int_of
  exact ⟨a, x1, rfl, ha⟩
theorem cut_rest {xs : List V} : cutV xs (some 1) none = xs.drop 1 := by
  cases xs with
  | nil => rfl
  | cons x ks => rw [cut_tail]; rfl
theorem whole_nil {xs : List V} (hw : HT.sIx xs.length 0 (some 1) = 0 ∧ HT.sIx xs.length xs.length none = xs.length) : xs = [] := by
  have := hw.1
  rw [show (some 1 : Option Int) = some ((1 : Nat) : Int) from rfl, HT.sIx_nat] at this
  rcases xs with _ | ⟨x, r⟩
  · rfl
  · simp at this
section
variable {P : Program} {w : World} {K : PySem.W.Frag} {mg : Str → Option Value} {base : Heap}
def teLess : TE := tOp (rI0 fun i j => .bl (decide (i < j))) (tOp (rIxT K) (tVar 2) (tC (.int 0))) (tOp (rIxT K) (tVar 3) (tC (.int 0)))
abbrev NBi : List Str := ["thing", "pair", "left", "right"]
theorem scIsBi : FnScope NBi ["thing"] (defScope sIsBinding) := ⟨rfl, rfl, rfl, by decide +kernel, rfl, by decide +kernel, by decide +kernel⟩
/-- all([l[0] < r[0] for l, r in zip(t, t[1:])]), t a tuple of pairs in slot 0; l and r in slots 2 and 3 -/
def tAdj (K : PySem.W.Frag) : TE := tCB (rAll K) (tCons (tLc (iZipA K (tCons (tVar 0) (tCons (tSl (rSlA K) (tVar 0) (tPart (tC (.int 1))) tNoPart) tNil))) (gTup K 2 (gCons (gName 2) (gCons (gName 3) gNil))) tYes
  (tOp (rI0 fun i j => .bl (decide (i < j))) (tOp (rIxT K) (tVar 2) (tC (.int 0))) (tOp (rIxT K) (tVar 3) (tC (.int 0)))) [2, 3]) tNil)
theorem adj_ok {c1 c2 c3 : Option V} {a b : Addr} {xs : List V} {ds : List PyData} {H : Hp} {Kc : V → Hp → Prop}
    (ha : TupAt H a xs) (A : DAtAll H b xs ds) (pr : ∀ e ∈ ds, IsPr e) (few : xs.length ≤ 100000)
    (go : ∀ H', Same H H' → Kc (.bl (adjB (ds.map keyD))) H') : tAdj K [some (.ref a), c1, c2, c3] H Kc := by
  have len := A.len
  have big : (2000000 : Nat) ≤ sizeLine := by decide
  refine ⟨_, rfl, _, rfl, 1, rfl, a, xs, rfl, .inl ha, fun hw => ?_, fun hw g hg => ?_⟩
  · have e0 := whole_nil hw
    subst e0
    have e1 : ds = [] := by cases ds with | nil => rfl | cons => simp at len
    subst e1
    refine ⟨a, a, [], [], rfl, .inr ⟨.inl ha, .inl ha, fun D2 hD2 => ?_⟩⟩
    refine lc_pairsN (J := ItzT K a a) (n := 0) (xs := []) (ys := []) (fun i H4 => i = 0 ∧ H4 D2 = some (.lst []) ∧ Same H H4)
      (fun H4 h => ⟨[], [], .inl (ha.same h.2.2), .inl (ha.same h.2.2), .inl (Nat.le_refl _)⟩) (fun i H4 lt => absurd lt (by omega)) (fun i H4 v H5 lt => absurd lt (by omega))
      ⟨rfl, upd_same, same_new hD2 _⟩ (fun i _ _ _ _ lt => absurd lt (by omega)) (fun H4 h => ⟨D2, [], rfl, .inl (.inl h.2.1), go _ h.2.2⟩)
  · rw [cut_rest]
    have s3 := same_new hg (.tup (xs.drop 1))
    have ha3 := ha.same s3
    have hg3 : TupAt (upd H g (.tup (xs.drop 1))) g (xs.drop 1) := .inl upd_same
    generalize upd H g (.tup (xs.drop 1)) = H3 at s3 ha3 hg3
    refine ⟨a, g, xs, xs.drop 1, rfl, .inr ⟨.inl ha3, .inl hg3, fun D2 hD2 => ?_⟩⟩
    refine lc_pairsN (J := ItzT K a g) (n := xs.length - 1) (xs := xs) (ys := xs.drop 1) (fun i H4 => H4 D2 = some (.lst (((List.range i).map (stepK (ds.map keyD))).map V.bl)) ∧ Same H3 H4)
      (fun H4 h => ⟨xs, xs.drop 1, .inl (ha3.same h.2), .inl (hg3.same h.2), .inr (by rw [List.length_drop]; exact Nat.le_refl _)⟩)
      (fun i H4 lt h => ⟨xs, xs.drop 1, xs[i]'(by omega), (xs.drop 1)[i]'(by rw [List.length_drop]; exact lt), .inl (ha3.same h.2), .inl (hg3.same h.2), List.getElem?_eq_getElem _, List.getElem?_eq_getElem _⟩)
      (fun i H4 v H5 lt h ⟨T, u, v', e1, hT, e2, f1, f2⟩ => ⟨T, u, v', e1, f1 xs (.inl (ha3.same h.2)), f2 (xs.drop 1) (.inl (hg3.same h.2)), hT, e2⟩)
      ⟨upd_same, same_new hD2 _⟩ (fun i u v T H4 lt hu hv h hT => ?_) (fun H4 h => ⟨D2, (List.range (xs.length - 1)).map (stepK (ds.map keyD)), rfl, .inl (.inl h.1), ?_⟩)
    · have sT := same_new hT (.tup [u, v])
      rw [List.getElem?_drop] at hv
      have sAll : Same H (upd H4 T (.tup [u, v])) := s3.trans (h.2.trans sT)
      obtain ⟨e, he, De⟩ := A.get hu
      obtain ⟨e', he', De'⟩ := A.get hv
      obtain ⟨p, y, rfl, hp⟩ := pr_at De (pr e (List.mem_of_getElem? he))
      obtain ⟨p', y', rfl, hp'⟩ := pr_at De' (pr e' (List.mem_of_getElem? he'))
      have k1 : (ds.map keyD).getD i 0 = keyD e := by rw [List.getD_eq_getElem?_getD, List.getElem?_map, he]; rfl
      have k2 : (ds.map keyD).getD (i + 1) 0 = keyD e' := by rw [List.getD_eq_getElem?_getD, List.getElem?_map, Nat.add_comm, he']; rfl
      refine ⟨T, _, rfl, .inl (.inl upd_same), rfl, _, _, rfl, _, _, rfl, rfl, rfl, ?_⟩
      refine ⟨_, rfl, p, _, _, _, rfl, rfl, .inl (hp.same sAll), at_of (j := 0) rfl rfl, _, rfl, p', _, _, _, rfl, rfl, .inl (hp'.same sAll), at_of (j := 0) rfl rfl, _, _, rfl, rfl, _, sT _ _ h.1, ?_, ?_, ?_⟩
      · rw [List.length_map, List.length_map, List.length_range]; omega
      · dsimp only
        rw [upd_same, List.range_succ, List.map_append, List.map_append]
        have : stepK (ds.map keyD) i = decide (keyD e < keyD e') := by unfold stepK; rw [k1, k2]
        simp only [List.map_cons, List.map_nil, this]
      · intro c o z
        rw [upd_ne (ne_of_none z hD2)]
        exact sT _ _ (h.2 _ _ z)
    · rw [adj_all (by rw [List.length_map, len])]
      exact go H4 (s3.trans h.2)
end
end Rp

set_option maxHeartbeats 8000000
/-! is_binding; the law's own look at BINDINGs. -/
namespace Rp
open PySem PySem.Spec PyProof.Rows L2 TL RZ
theorem ndAll_le {ds : List PyData} : ds.length ≤ nd (.tuple ds) := by have := ndAll_len ds; simp only [nd]; omega
theorem isBd_no {d : PyData} (h : ∀ ds, d ≠ .tuple ds) : ¬ IsBdD d := fun ⟨ds, e, _⟩ => h ds e
theorem isBd_tup {ds : List PyData} : IsBdD (.tuple ds) ↔ (∀ e ∈ ds, IsPr e) ∧ adjB (ds.map keyD) = true := ⟨fun ⟨es, e, h⟩ => by injection e with e; subst e; exact h, fun h => ⟨ds, rfl, h⟩⟩
section
variable {P : Program} {w : World} {K : PySem.W.Frag} {mg : Str → Option Value} {base : Heap}
theorem ok_isbd {f fP : Addr} {fd dP : FuncData} (F : Fun K "is_binding" "is_binding" sIsBinding f fd)
    (GP : FnOk P w K mg base CX0 4 fP dP ["thing"] spIsPr) (kP : PySem.W.keepIn K (.ref fP) = true) (bP : Binds K dP ["thing"] []) (mP : mg "_is_pair" = some (.ref fP)) (M : SameG mg) : FnOk P w K mg base CX0 5 f fd ["thing"] spIsBd := by
  refine F.ok scIsBi (fun vs H Q E h => ?_) (fun cdv A outer s H vs Q E hr h => ?_)
  · obtain ⟨b, v, d, rfl, _⟩ := h
    rfl
  obtain ⟨b, v, d, rfl, D, ok, sz, q⟩ := h
  refine ⟨_, (pss_cons (ps_if (PW.pt (pw_or (pt_not (pt_val (pe_callB (id := "isinstance") call_isi (by rfl) M.isi (by decide +kernel) (pa_cons (pv 0) (pa_cons (pe_bltn (v := .ty "tuple") (by rfl) M.tuple (by decide +kernel) rfl) pa_nil))))) (pw_or1 (pt_not (pt_val (pe_callB (cr_all rfl) (by rfl) M.all (by decide +kernel) (pa_cons (pe_lc (own := [("pair", 1)]) (g := gName 1) (tt := tYes) (te := tCall spIsPr [] E0 (tCons (tVar 1) tNil)) rfl scIsBi.nd (pi_tup (pv 0)) (blkOk_by (N := NBi) (sc := defScope sIsBinding) (by decide +kernel)) (fun _ _ _ _ _ => (pg_name (i := 1) scIsBi.nd rfl (Or.inl rfl))) (fun _ _ _ _ _ => pts_nil) (fun _ _ _ _ _ => (pe_call GP hr (by rfl) mP kP bP .nil pass0 (pa_cons (pv 1) pa_nil)))) pa_nil))))))) (pss_one (ps_ret pe_bl)) pss_nil)
    (pss_one (ps_ret (pe_callB (cr_all rfl) (by rfl) M.all (by decide +kernel) (pa_cons (pe_lc (own := [("left", 2), ("right", 3)]) (g := gTup K 2 (gCons (gName 2) (gCons (gName 3) gNil))) (tt := tYes) (te := tOp (rI0 fun i j => .bl (decide (i < j))) (tOp (rIxT K) (tVar 2) (tC (.int 0))) (tOp (rIxT K) (tVar 3) (tC (.int 0)))) rfl scIsBi.nd (pi_zipA (by rfl) M.zip (pa_cons (pv 0) (pa_cons (pe_slice sl_tupA (pv 0) (po_some pe_int) po_none) pa_nil))) (blkOk_by (N := NBi) (sc := defScope sIsBinding) (by decide +kernel)) (fun _ _ _ _ _ => (pg_tup (by rfl) (pgs_cons (pg_name (i := 2) scIsBi.nd rfl (Or.inl rfl)) (pgs_cons (pg_name (i := 3) scIsBi.nd rfl (Or.inl rfl)) pgs_nil)))) (fun _ _ _ _ _ => pts_nil) (fun _ _ _ _ _ => (pe_cmpR op_lt (pe_ix ix_tup (pv 2) pe_int (fun _ _ => rfl)) (pe_ix ix_tup (pv 3) pe_int (fun _ _ => rfl)) (nomark _)))) pa_nil))))), ?_⟩
  have big : (2000000 : Nat) ≤ sizeLine := by decide
  refine ⟨_, rfl, _, _, _, _, isU d, rfl, .ty "tuple", D.tyx, kitU d, isU d, rfl, ?_⟩
  cases d with
  | tuple ds =>
    obtain ⟨a, xs, rfl, ha, A'⟩ := D.tup_of
    have el := A'.len
    have few : ds.length ≤ 100000 := Nat.le_trans ndAll_le sz
    refine iteF ?_
    refine ⟨_, rfl, a, rfl, ⟨_, .inl ha⟩, fun D1 hD => lc_tup (K := K) (a := a) (xs := xs) (fun i H2 => ∃ bs : List Bool, H2 D1 = some (.lst (bs.map V.bl)) ∧ bs.length = i ∧ (∀ (j : Nat) (r : Bool) (e : PyData), bs[j]? = some r → ds[j]? = some e → (r = true ↔ IsPr e)) ∧ Same H H2)
      ⟨[], upd_same, rfl, fun j r e z => by simp at z, same_new hD _⟩ (fun i H2 _ ⟨_, _, _, _, s⟩ => .inl (ha.same s)) ?_ ?_⟩
    · rintro i x H2 hi ⟨bs, h2, lb, each, s2⟩
      obtain ⟨e, he, De⟩ := A'.get hi
      have em := List.mem_of_getElem? he
      have li : i < ds.length := (List.getElem?_eq_some_iff.mp he).1
      refine ⟨rfl, ?_⟩
      refine ⟨_, rfl, b, x, e, rfl, De.same s2, ok.tup e em, Nat.le_trans (nd_mem em) sz, fun r H3 hr3 s3 => ?_⟩
      refine ⟨_, s3 _ _ h2, by rw [List.length_map]; omega, bs ++ [r], by rw [upd_same, List.map_append]; rfl, by rw [List.length_append, lb]; rfl, fun j r' e' h1 h3 => ?_, fun c o z => by rw [upd_ne (ne_of_none z hD)]; exact s3 _ _ (s2 _ _ z)⟩
      rcases Nat.lt_or_ge j bs.length with h | h
      · rw [List.getElem?_append_left h] at h1; exact each j r' e' h1 h3
      · rw [List.getElem?_append_right h] at h1
        have jl : j = i := by
          have := (List.getElem?_eq_some_iff.mp h1).1
          simp at this; omega
        subst jl
        rw [lb, Nat.sub_self] at h1
        simp at h1
        rw [he] at h3
        cases h3
        rw [← h1]; exact hr3
    · rintro H2 ⟨bs, h2, lb, each, s2⟩
      have alls : bs.all id = true ↔ ∀ e ∈ ds, IsPr e := by
        rw [List.all_eq_true]
        constructor
        · intro h e he
          obtain ⟨j, hj⟩ := List.mem_iff_getElem?.mp he
          have lj : j < bs.length := by have := (List.getElem?_eq_some_iff.mp hj).1; omega
          exact (each j bs[j] e (List.getElem?_eq_getElem lj) hj).mp (h _ (List.getElem_mem lj))
        · intro h r hr
          obtain ⟨j, hj⟩ := List.mem_iff_getElem?.mp hr
          have lj : j < ds.length := by have := (List.getElem?_eq_some_iff.mp hj).1; omega
          exact (each j r ds[j] hj (List.getElem?_eq_getElem lj)).mpr (h _ (List.getElem_mem lj))
      refine ⟨D1, bs, rfl, .inl (.inl h2), bs.all id, rfl, ?_⟩
      cases hb : bs.all id with
      | false =>
        refine iteT (q false H2 ⟨(fun e => nomatch e), fun z => ?_⟩ s2)
        have := alls.mpr (isBd_tup.mp z).1
        rw [hb] at this; cases this
      | true =>
        have pr := alls.mp hb
        refine iteF ?_
        refine adj_ok (ha.same s2) (A'.same s2) pr (by omega) fun H3 s3 => q _ H3 ?_ (s2.trans s3)
        rw [isBd_tup]
        exact ⟨fun h => ⟨pr, h⟩, fun h => h.2⟩
  | _ => exact iteT (q false H ⟨(fun e => nomatch e), fun z => absurd z (isBd_no (fun ds e => nomatch e))⟩ (Same.refl H))
end
end Rp

set_option maxHeartbeats 8000000
/-! NAMEs over data of any kind. -/
namespace Rp
open PySem PySem.Spec PyProof.Rows L2 TL RZ
def letters : Str := "abcdefghijklmnopqrstuvwxyz"
structure NameOk (x : Str) : Prop where
  pos : 1 ≤ x.length
  few : x.length ≤ 6
  low : ∀ c ∈ tl x, 97 ≤ c ∧ c ≤ 122
  nif : x ≠ "if"
theorem letters_iff {c : Nat} : c ∈ letters.cps.toList ↔ 97 ≤ c ∧ c ≤ 122 := by
  have e : letters.cps.toList = (List.range 26).map (· + 97) := by decide +kernel
  rw [e, List.mem_map]
  constructor
  · rintro ⟨k, hk, rfl⟩
    have := List.mem_range.mp hk
    omega
  · intro h
    exact ⟨c - 97, List.mem_range.mpr (by omega), by omega⟩
def lowB (x : Str) : Bool := (tl x).all fun c => decide (c ∈ letters.cps.toList)
theorem lowB_iff {x : Str} : lowB x = true ↔ ∀ c ∈ tl x, 97 ≤ c ∧ c ≤ 122 := by
  unfold lowB
  rw [List.all_eq_true]
  exact ⟨fun h c hc => letters_iff.mp (of_decide_eq_true (h c hc)), fun h c hc => decide_eq_true (letters_iff.mpr (h c hc))⟩
def IsNm (d : PyData) : Prop := ∃ x, d = .str x ∧ NameOk x
theorem isNm_str {x : Str} : IsNm (.str x) ↔ NameOk x := ⟨fun ⟨y, e, h⟩ => by injection e with e; subst e; exact h, fun h => ⟨x, rfl, h⟩⟩
def spIsNm : Sp := fun vs H Q _ => ∃ (b : Addr) (v : V) (d : PyData), vs = [v] ∧ DAt H b v d ∧ (∀ x, d = .str x → x.length ≤ 1000) ∧ ∀ (r : Bool) (H' : Hp), (r = true ↔ IsNm d) → Same H H' → Q (.bl r) H'
section
variable {P : Program} {w : World} {K : PySem.W.Frag} {mg : Str → Option Value} {base : Heap}
theorem scIsName : FnScope ["thing", "sign"] ["thing"] (defScope sIsName) := ⟨rfl, rfl, rfl, by decide +kernel, rfl, by decide +kernel, by decide +kernel⟩
theorem ok_isnm {f : Addr} {fd : FuncData} {t1 t2 : Tok} (F : Fun K "is_name" "is_name" sIsName f fd) (M : SameG mg) (mL : mg "LETTERS" = some (.str letters t1)) (mM : mg "MOST_LETTERS" = some (.int 6 t2)) : FnOk P w K mg base CX0 1 f fd ["thing"] spIsNm := by
  refine F.ok scIsName (fun vs H Q E h => ?_) (fun cdv A outer s H vs Q E hr h => ?_)
  · obtain ⟨b, v, d, rfl, _⟩ := h
    rfl
  obtain ⟨b, v, d, rfl, D, sz, q⟩ := h
  refine ⟨_, pss_cons (ps_if (PW.pt (pw_or (pt_not (pt_val (pe_callB (id := "isinstance") call_isi (by rfl) M.isi (by decide +kernel) (pa_cons (pv 0) (pa_cons (pe_bltn (v := .ty "str") (by rfl) M.str (by decide +kernel) rfl) pa_nil)))))
      (pw_or1 (pt_not (pt_chain op_le op_le pe_int (pe_callB call_len_str (by rfl) M.len PySem.boot_len (pa_cons (pv 0) pa_nil)) (pe_glob (v := .int 6) rfl mM ⟨_, rfl⟩)))))) (pss_one (ps_ret pe_bl)) pss_nil)
    (pss_one (ps_ret (pe_and (pe_cmpR op_ne (pv 0) pe_str (nomark _)) (pe_one (pe_callB (cr_all rfl) (by rfl) M.all (by decide +kernel) (pa_cons (pe_lc (own := [("sign", 1)]) (g := gName 1) (tt := tYes) (te := tOp rInS (tVar 1) (tC (.str letters))) rfl scIsName.nd
        (pi_str (pv 0)) (blkOk_by (N := ["thing", "sign"]) (sc := defScope sIsName) (by decide +kernel)) (fun _ _ _ _ _ => pg_name (i := 1) scIsName.nd rfl (Or.inl rfl))
        (fun _ _ _ _ _ => pts_nil) (fun _ _ _ _ _ => pe_cmpR op_inS (pv 1) (pe_glob (v := .str letters) (by rfl) mL ⟨_, rfl⟩) (by rfl))) pa_nil)))))), ?_⟩
  have big : (2000000 : Nat) ≤ sizeLine := by decide
  have no : ∀ {H' : Hp}, Same H H' → ¬ IsNm d → Q (.bl false) H' := fun s h => q false _ ⟨(fun e => nomatch e), fun z => absurd z h⟩ s
  refine ⟨_, rfl, _, _, _, _, isS d, rfl, .ty "str", D.tyx, kitS d, isS d, rfl, ?_⟩
  cases d with
  | str x =>
    cases D.str_of
    have z1 := sz x rfl
    refine iteF ?_
    refine ⟨_, rfl, x, rfl, by omega, _, _, rfl, rfl, decide ((1 : Int) ≤ (x.length : Nat)), rfl, ?_⟩
    by_cases h1 : (1 : Int) ≤ (x.length : Nat)
    · rw [decide_eq_true h1]
      refine iteT ⟨_, _, rfl, rfl, decide (((x.length : Nat) : Int) ≤ 6), rfl, ?_⟩
      by_cases h6 : ((x.length : Nat) : Int) ≤ 6
      · rw [decide_eq_true h6]
        refine iteF ⟨_, rfl, rfl, !decide (V.str x = V.str "if"), rfl, ?_⟩
        by_cases hif : x = "if"
        · rw [decide_eq_true (by rw [hif])]
          exact iteF (no (Same.refl H) fun z => (isNm_str.mp z).nif hif)
        · rw [decide_eq_false (fun z => hif (by injection z))]
          refine iteT ?_
          refine ⟨_, rfl, x, rfl, fun D hD => lc_it (walk_str (z := x)) (fun i H2 => H2 D = some (.lst ((((tl x).take i).map fun c => decide (c ∈ letters.cps.toList)).map V.bl)) ∧ Same H H2) ⟨upd_same, same_new hD _⟩ (fun _ _ _ _ => trivial) ?_ ?_⟩
          · rintro i y H2 H3 hi ⟨h2, s2⟩ ⟨rfl, c, hc, rfl⟩
            have li : x.cps.size = x.length := rfl
            have hc' : (tl x)[i]? = some c := by show x.cps.toList[i]? = some c; rw [Array.getElem?_toList]; exact hc
            have tk : (tl x).take (i + 1) = (tl x).take i ++ [c] := by rw [List.take_add_one, hc']; rfl
            refine ⟨rfl, ?_⟩
            refine ⟨_, rfl, c, letters, rfl, rfl, _, h2, ?_, ?_, ?_⟩
            · rw [List.length_map, List.length_map, List.length_take]; omega
            · rw [upd_same, tk, List.map_append, List.map_append]; rfl
            · intro a o z
              rw [upd_ne (ne_of_none z hD)]
              exact s2 _ _ z
          · rintro H2 ⟨h2, s2⟩
            have full : (tl x).take x.cps.size = tl x := List.take_of_length_le (by show x.cps.toList.length ≤ _; simp)
            rw [full] at h2
            refine ⟨D, (tl x).map fun c => decide (c ∈ letters.cps.toList), rfl, .inl (.inl h2), ?_⟩
            refine q _ H2 ?_ s2
            have e : ((tl x).map fun c => decide (c ∈ letters.cps.toList)).all id = lowB x := by unfold lowB; rw [List.all_map]; rfl
            rw [e, isNm_str, lowB_iff]
            exact ⟨fun h => ⟨by omega, by omega, h, hif⟩, fun h => h.low⟩
      · rw [decide_eq_false h6]
        exact iteT (no (Same.refl H) fun z => by have := (isNm_str.mp z).few; omega)
    · rw [decide_eq_false h1]
      exact iteF ⟨false, rfl, iteT (no (Same.refl H) fun z => by have := (isNm_str.mp z).pos; omega)⟩
  | _ => exact iteT (no (Same.refl H) fun ⟨_, z, _⟩ => nomatch z)
end
end Rp

set_option maxHeartbeats 8000000
/-! all([pred(x) for x in tuple]) over data; ATOMs over data of any kind. -/
namespace Rp
open PySem PySem.Spec PyProof.Rows L2 TL RZ
theorem wipe_one {σ : L2.St} {n : Nat} {x : Option V} : wipe ((wipe σ [n]).set n x) [n] = wipe σ [n] := by
  show ((σ.set n none).set n x).set n none = σ.set n none
  rw [List.set_set, List.set_set]
theorem lc_pred {K : PySem.W.Frag} {a b D : Addr} {xs : List V} {ds : List PyData} {Pd : PyData → Prop} {sp : Sp} {n : Nat} {σ : L2.St} {H1 : Hp} {Qd : Hp → Prop} (hn : n < σ.length) (hD : H1 D = none) (ha : TupAt H1 a xs) (A : DAtAll H1 b xs ds) (few : xs.length ≤ 1000)
    (call : ∀ (x : V) (e : PyData) (H2 : Hp) (Q : VK), e ∈ ds → DAt H2 b x e → Same H1 H2 → (∀ (r : Bool) (H3 : Hp), (r = true ↔ Pd e) → Same H2 H3 → Q (.bl r) H3) → sp [x] H2 Q E0)
    (go : ∀ (bs : List Bool) (H2 : Hp), H2 D = some (.lst (bs.map V.bl)) → (bs.all id = true ↔ ∀ e ∈ ds, Pd e) → Same H1 H2 → Qd H2) :
    ∃ W : Nat → Nat → Hp → Prop, (∃ m, W 0 m (upd H1 D (.lst []))) ∧ ∀ i m H, W i m H →
      ((Itt K a).stop i H ∧ Qd H) ∨ ((Itt K a).go i H ∧ ∃ Nx : Hp → Prop, (∀ H', Nx H' → ∃ m', m' < m ∧ W (i + 1) m' H') ∧ ∀ x H', (Itt K a).yld i H x H' → gName n x (wipe σ [n]) H' fun σ2 H2 => wipe σ2 [n] = wipe σ [n] ∧ tYes σ2 H2 fun b H3 =>
        if b = true then tCall sp [] E0 (tCons (tVar n) tNil) σ2 H3 fun y H4 => ∃ acc, H4 D = some (.lst acc) ∧ acc.length < sizeLine ∧ Nx (upd H4 D (.lst (acc ++ [y]))) else Nx H3) := by
  have big : (2000000 : Nat) ≤ sizeLine := by decide
  have el := A.len
  refine lc_tup (K := K) (a := a) (xs := xs) (fun i H2 => ∃ bs : List Bool, H2 D = some (.lst (bs.map V.bl)) ∧ bs.length = i ∧ (∀ (j : Nat) (r : Bool) (e : PyData), bs[j]? = some r → ds[j]? = some e → (r = true ↔ Pd e)) ∧ Same H1 H2)
    ⟨[], upd_same, rfl, fun j r e z => by simp at z, same_new hD _⟩ (fun i H2 _ ⟨_, _, _, _, s⟩ => .inl (ha.same s)) ?_ ?_
  · rintro i x H2 hi ⟨bs, h2, lb, each, s2⟩
    obtain ⟨e, he, De⟩ := A.get hi
    have em := List.mem_of_getElem? he
    have li : i < ds.length := (List.getElem?_eq_some_iff.mp he).1
    refine ⟨wipe_one, ?_⟩
    refine ⟨x, ?_, call x e H2 _ em (De.same s2) s2 fun r H3 hr3 s3 => ?_⟩
    · rw [List.getElem?_set_self (by rw [wipe_length]; exact hn)]
    refine ⟨_, s3 _ _ h2, by rw [List.length_map]; omega, bs ++ [r], by rw [upd_same, List.map_append]; rfl, by rw [List.length_append, lb]; rfl, fun j r' e' h1 h3 => ?_, fun c o z => by rw [upd_ne (ne_of_none z hD)]; exact s3 _ _ (s2 _ _ z)⟩
    rcases Nat.lt_or_ge j bs.length with h | h
    · rw [List.getElem?_append_left h] at h1; exact each j r' e' h1 h3
    · rw [List.getElem?_append_right h] at h1
      have jl : j = i := by
        have := (List.getElem?_eq_some_iff.mp h1).1
        simp at this; omega
      subst jl
      rw [lb, Nat.sub_self] at h1
      simp at h1
      rw [he] at h3
      cases h3
      rw [← h1]; exact hr3
  · rintro H2 ⟨bs, h2, lb, each, s2⟩
    refine go bs H2 h2 ?_ s2
    rw [List.all_eq_true]
    constructor
    · intro h e he
      obtain ⟨j, hj⟩ := List.mem_iff_getElem?.mp he
      have lj : j < bs.length := by have := (List.getElem?_eq_some_iff.mp hj).1; omega
      exact (each j bs[j] e (List.getElem?_eq_getElem lj) hj).mp (h _ (List.getElem_mem lj))
    · intro h r hr
      obtain ⟨j, hj⟩ := List.mem_iff_getElem?.mp hr
      have lj : j < ds.length := by have := (List.getElem?_eq_some_iff.mp hj).1; omega
      exact (each j r ds[j] hj (List.getElem?_eq_getElem lj)).mpr (h _ (List.getElem_mem lj))
def IsAm (d : PyData) : Prop := ∃ (x : Str) (es : List PyData), d = .tuple (.str x :: es) ∧ NameOk x ∧ 1 ≤ es.length ∧ es.length ≤ 2 ∧ ∀ e ∈ es, IsT e
theorem isAm_cons {d0 : PyData} {es : List PyData} : IsAm (.tuple (d0 :: es)) ↔ IsNm d0 ∧ 1 ≤ es.length ∧ es.length ≤ 2 ∧ ∀ e ∈ es, IsT e :=
  ⟨fun ⟨x, fs, e, h1, h⟩ => by injection e with e; injection e with e1 e2; subst e1 e2; exact ⟨⟨x, rfl, h1⟩, h⟩, fun ⟨⟨x, e, h1⟩, h⟩ => ⟨x, es, by rw [e], h1, h⟩⟩
theorem isAm_len {ds : List PyData} (h : ¬ (2 ≤ ds.length ∧ ds.length ≤ 3)) : ¬ IsAm (.tuple ds) := fun ⟨x, fs, e, _, h1, h2, _⟩ => by
  injection e with e
  subst e
  rw [List.length_cons] at h
  omega
/-- texts among data are not too long -/
def okS (d : PyData) : Prop := okD d ∧ nd d ≤ 100000
def spIsAm : Sp := fun vs H Q _ => ∃ (b : Addr) (v : V) (d : PyData), vs = [v] ∧ DAt H b v d ∧ okD d ∧ nd d ≤ 100000 ∧ (∀ x ds, d = .tuple (.str x :: ds) → x.length ≤ 1000) ∧ ∀ (r : Bool) (H' : Hp), (r = true ↔ IsAm d) → Same H H' → Q (.bl r) H'
section
variable {P : Program} {w : World} {K : PySem.W.Frag} {mg : Str → Option Value} {base : Heap}
theorem scIsAtom : FnScope ["thing", "term"] ["thing"] (defScope sIsAtom) := ⟨rfl, rfl, rfl, by decide +kernel, rfl, by decide +kernel, by decide +kernel⟩
theorem ok_isam {f fN fT : Addr} {fd dN dT : FuncData} (F : Fun K "is_atom" "is_atom" sIsAtom f fd)
    (GN : FnOk P w K mg base CX0 1 fN dN ["thing"] spIsNm) (kN : PySem.W.keepIn K (.ref fN) = true) (bN : Binds K dN ["thing"] []) (mN : mg "is_name" = some (.ref fN))
    (GT : FnOk P w K mg base CX0 3 fT dT ["thing"] spTerm) (kT : PySem.W.keepIn K (.ref fT) = true) (bT : Binds K dT ["thing"] []) (mT : mg "is_term" = some (.ref fT)) (M : SameG mg) : FnOk P w K mg base CX0 4 f fd ["thing"] spIsAm := by
  refine F.ok scIsAtom (fun vs H Q E h => ?_) (fun cdv A outer s H vs Q E hr h => ?_)
  · obtain ⟨b, v, d, rfl, _⟩ := h
    rfl
  obtain ⟨b, v, d, rfl, D, ok, sz, tx, q⟩ := h
  have r1 : Room 1 _ := hr.mono (by decide)
  refine ⟨_, pss_cons (ps_if (PW.pt (pw_or (pt_not (pt_val (pe_callB (id := "isinstance") call_isi (by rfl) M.isi (by decide +kernel) (pa_cons (pv 0) (pa_cons (pe_bltn (v := .ty "tuple") (by rfl) M.tuple (by decide +kernel) rfl) pa_nil)))))
      (pw_or1 (pt_not (pt_chain op_le op_le pe_int (pe_callB call_len_seq (by rfl) M.len PySem.boot_len (pa_cons (pv 0) pa_nil)) pe_int))))) (pss_one (ps_ret pe_bl)) pss_nil)
    (pss_one (ps_ret (pe_and (pe_call GN r1 rfl mN kN bN .nil pass0 (pa_cons (pe_ix ix_tup (pv 0) pe_int (fun _ _ => rfl)) pa_nil)) (pe_one (pe_callB (cr_all rfl) (by rfl) M.all (by decide +kernel) (pa_cons (pe_lc (own := [("term", 1)]) (g := gName 1) (tt := tYes) (te := tCall spTerm [] E0 (tCons (tVar 1) tNil)) rfl scIsAtom.nd
        (pi_tup (pe_slice sl_tup (pv 0) (po_some pe_int) po_none)) (blkOk_by (N := ["thing", "term"]) (sc := defScope sIsAtom) (by decide +kernel)) (fun _ _ _ _ _ => pg_name (i := 1) scIsAtom.nd rfl (Or.inl rfl))
        (fun _ _ _ _ _ => pts_nil) (fun _ _ _ _ _ => pe_call GT hr (by rfl) mT kT bT .nil pass0 (pa_cons (pv 1) pa_nil))) pa_nil)))))), ?_⟩
  have no : ∀ {H' : Hp}, Same H H' → ¬ IsAm d → Q (.bl false) H' := fun s h => q false _ ⟨(fun e => nomatch e), fun z => absurd z h⟩ s
  refine ⟨_, rfl, _, _, _, _, isU d, rfl, .ty "tuple", D.tyx, kitU d, isU d, rfl, ?_⟩
  cases d with
  | tuple ds =>
    obtain ⟨a, xs, rfl, ha, Ax⟩ := D.tup_of
    have xl := Ax.len
    refine iteF ?_
    refine ⟨_, rfl, a, _, rfl, .inr (.inl ha), _, _, rfl, rfl, decide ((2 : Int) ≤ (xs.length : Nat)), rfl, ?_⟩
    by_cases h2 : (2 : Int) ≤ (xs.length : Nat)
    · rw [decide_eq_true h2]
      refine iteT ⟨_, _, rfl, rfl, decide (((xs.length : Nat) : Int) ≤ 3), rfl, ?_⟩
      by_cases h3 : ((xs.length : Nat) : Int) ≤ 3
      · rw [decide_eq_true h3]
        refine iteF ?_
        match ds, xs, Ax, xl, h2, h3 with
        | [], [], _, _, h2, _ => exact absurd h2 (by decide)
        | d0 :: es, x0 :: ys, Ax, xl, h2, h3 =>
          obtain ⟨_, _, e', D0, A1⟩ := Ax.head
          injection e' with e1 e2
          subst e1 e2
          have yl := A1.len
          rw [List.length_cons] at h2 h3
          refine ⟨_, rfl, a, _, _, _, rfl, rfl, .inl ha, at_of (j := 0) rfl rfl, b, x0, d0, rfl, D0, fun x e => tx x es (by rw [e]), fun r H1 hr1 s1 => ⟨r, rfl, ?_⟩⟩
          cases r with
          | false =>
            refine iteF (no s1 fun z => ?_)
            have := hr1.mpr (isAm_cons.mp z).1
            cases this
          | true =>
            refine iteT ?_
            refine ⟨_, rfl, 1, rfl, a, _, rfl, .inl (ha.same s1), cut_part _ _, fun g hg => ?_⟩
            rw [cut_tail]
            have s2 := same_new hg (.tup ys)
            refine ⟨g, rfl, ⟨_, .inl (.inl upd_same)⟩, fun D1 hD => lc_pred (K := K) (b := b) (ds := es) (Pd := IsT) (Nat.lt_succ_self 1) hD (.inl upd_same) ((A1.same s1).same s2) (by omega)
              (fun x e H2 Q' he De _ k => ⟨b, x, e, rfl, De, ok.tup e (by simp [he]), Nat.le_trans (nd_mem (List.mem_cons_of_mem _ he)) sz, k⟩) fun bs H2 hb2 all2 s3 => ?_⟩
            refine ⟨D1, bs, rfl, .inl (.inl hb2), q _ H2 ?_ ((s1.trans s2).trans s3)⟩
            rw [all2, isAm_cons]
            exact ⟨fun h => ⟨hr1.mp rfl, by omega, by omega, h⟩, fun h => h.2.2.2⟩
      · rw [decide_eq_false h3]
        exact iteT (no (Same.refl H) (isAm_len (by omega)))
    · rw [decide_eq_false h2]
      exact iteF ⟨false, rfl, iteT (no (Same.refl H) (isAm_len (by omega)))⟩
  | _ => exact iteT (no (Same.refl H) fun ⟨_, _, z, _⟩ => nomatch z)
end
end Rp

set_option maxHeartbeats 8000000
/-! ATOMs as a type; unlike and SAYINGs over data of any kind. -/
namespace Rp
open PySem PySem.Spec PyProof.Rows L2 TL RZ
def Tm.small (t : Tm) : Prop := ∀ n ∈ t.nums, 0 ≤ n ∧ n ≤ 99
structure At where
  nm : Str
  ts : List Tm
  deriving DecidableEq
structure AtOk (z : Nat) (a : At) : Prop where
  nm : NameOk a.nm
  one : 1 ≤ a.ts.length
  two : a.ts.length ≤ 2
  sm : ∀ t ∈ a.ts, t.small ∧ t.size ≤ z
def AtAt (H : Hp) (v : V) (a : At) : Prop := ∃ (p : Addr) (xs : List V), v = .ref p ∧ H p = some (.tup (.str a.nm :: xs)) ∧ AllAt H xs a.ts
def atD (a : At) : PyData := .tuple (.str a.nm :: a.ts.map tmD)
structure AmOk (a : At) : Prop where
  nm : NameOk a.nm
  one : 1 ≤ a.ts.length
  two : a.ts.length ≤ 2
  sm : ∀ t ∈ a.ts, t.small
theorem tms_of : ∀ {es : List PyData}, (∀ e ∈ es, IsT e) → ∃ ts : List Tm, es = ts.map tmD ∧ ∀ t ∈ ts, t.small
  | [], _ => ⟨[], rfl, by simp⟩
  | e :: es, h => by
    obtain ⟨t, rfl, h1⟩ := h e (by simp)
    obtain ⟨ts, rfl, h2⟩ := tms_of (es := es) fun x hx => h x (by simp [hx])
    exact ⟨t :: ts, rfl, fun u hu => by rcases List.mem_cons.mp hu with rfl | hu; exact h1; exact h2 u hu⟩
theorem isAm_at {d : PyData} : IsAm d ↔ ∃ a, d = atD a ∧ AmOk a := by
  constructor
  · rintro ⟨x, es, rfl, h1, h2, h3, h4⟩
    obtain ⟨ts, rfl, h5⟩ := tms_of h4
    rw [List.length_map] at h2 h3
    exact ⟨⟨x, ts⟩, rfl, ⟨h1, h2, h3, h5⟩⟩
  · rintro ⟨a, rfl, h⟩
    refine ⟨a.nm, _, rfl, h.nm, by rw [List.length_map]; exact h.one, by rw [List.length_map]; exact h.two, fun e he => ?_⟩
    obtain ⟨t, ht, rfl⟩ := List.mem_map.mp he
    exact ⟨t, rfl, h.sm t ht⟩
theorem ats_of : ∀ {ds : List PyData}, (∀ d ∈ ds, IsAm d) → ∃ as : List At, ds = as.map atD ∧ ∀ a ∈ as, AmOk a
  | [], _ => ⟨[], rfl, by simp⟩
  | d :: ds, h => by
    obtain ⟨a, rfl, h1⟩ := isAm_at.mp (h d (by simp))
    obtain ⟨as, rfl, h2⟩ := ats_of (ds := ds) fun x hx => h x (by simp [hx])
    exact ⟨a :: as, rfl, fun u hu => by rcases List.mem_cons.mp hu with rfl | hu; exact h1; exact h2 u hu⟩
theorem eqv_tm : ∀ {a b : Tm}, PyData.eqv (tmD a) (tmD b) = true ↔ a = b := by
  have n0s : ("0" : Str) ≠ "s" := by decide +kernel
  have n0f : ("0" : Str) ≠ "f" := by decide +kernel
  have nsf : ("s" : Str) ≠ "f" := by decide +kernel
  intro a
  induction a with
  | v n => intro b; cases b <;> simp [tmD, PyData.eqv]
  | z => intro b; cases b <;> simp [tmD, PyData.eqv, PyData.eqvAll]
  | s t ih =>
    intro b
    cases b with
    | s t' => simp only [tmD]; rw [eqv_tup, eqvAll_cons, eqvAll_cons, eqvAll_nil]; simp [PyData.eqv, ih]
    | _ => simp [tmD, PyData.eqv, PyData.eqvAll]
  | f l r ih1 ih2 =>
    intro b
    cases b with
    | f l' r' => simp only [tmD]; rw [eqv_tup, eqvAll_cons, eqvAll_cons, eqvAll_cons, eqvAll_nil]; simp [PyData.eqv, ih1, ih2]
    | _ => simp [tmD, PyData.eqv, PyData.eqvAll]
theorem eqv_tms : ∀ {ts us : List Tm}, PyData.eqvAll (ts.map tmD) (us.map tmD) = true ↔ ts = us
  | [], [] => by simp [PyData.eqvAll]
  | [], _ :: _ => by simp [PyData.eqvAll]
  | _ :: _, [] => by simp [PyData.eqvAll]
  | t :: ts, u :: us => by rw [List.map_cons, List.map_cons, eqvAll_cons, Bool.and_eq_true, eqv_tm, eqv_tms]; simp
theorem eqv_at {a b : At} : PyData.eqv (atD a) (atD b) = true ↔ a = b := by
  unfold atD
  rw [eqv_tup, eqvAll_cons, Bool.and_eq_true, eqv_tms]
  cases a; cases b
  simp [PyData.eqv]
theorem in_ats {as : List At} {a : At} : (as.map atD).any (fun z => PyData.eqv z (atD a)) = decide (a ∈ as) := by
  rw [Bool.eq_iff_iff, List.any_eq_true, decide_eq_true_iff]
  constructor
  · rintro ⟨d, hd, e⟩
    obtain ⟨b, hb, rfl⟩ := List.mem_map.mp hd
    rw [eqv_at] at e
    rw [← e]; exact hb
  · intro h
    exact ⟨_, List.mem_map.mpr ⟨a, h, rfl⟩, eqv_at.mpr rfl⟩
/-- of alike ones the first kept -/
def unlG (acc : List At) (as : List At) : List At := as.foldl (fun acc a => if a ∈ acc then acc else acc ++ [a]) acc
def unl (as : List At) : List At := unlG [] as
theorem unlG_le : ∀ {as acc : List At}, (unlG acc as).length ≤ acc.length + as.length
  | [], acc => Nat.le_refl _
  | a :: as, acc => by
    have h := unlG_le (as := as) (acc := if a ∈ acc then acc else acc ++ [a])
    have e : unlG acc (a :: as) = unlG (if a ∈ acc then acc else acc ++ [a]) as := rfl
    rw [e]
    split at h <;> simp at h ⊢ <;> simp [*] <;> omega
theorem unlG_len : ∀ {as acc : List At}, (unlG acc as).length = acc.length + as.length ↔ (∀ a ∈ as, a ∉ acc) ∧ as.Nodup
  | [], acc => by simp [unlG]
  | a :: as, acc => by
    have e : unlG acc (a :: as) = unlG (if a ∈ acc then acc else acc ++ [a]) as := rfl
    rw [e]
    by_cases h : a ∈ acc
    · have l := unlG_le (as := as) (acc := acc)
      rw [if_pos h]
      constructor
      · intro z; simp at z; omega
      · intro z; exact absurd h (z.1 a (by simp))
    · rw [if_neg h]
      have ih := unlG_len (as := as) (acc := acc ++ [a])
      rw [List.length_append, List.length_singleton] at ih
      rw [List.length_cons, show acc.length + (as.length + 1) = acc.length + 1 + as.length by omega, ih, List.nodup_cons]
      constructor
      · intro z
        refine ⟨fun x hx => ?_, fun hm => ?_, z.2⟩
        · rcases List.mem_cons.mp hx with rfl | hx
          · exact h
          · exact fun hm => z.1 x hx (by simp [hm])
        · exact z.1 a hm (by simp)
      · rintro ⟨z1, z2, z3⟩
        refine ⟨fun x hx hm => ?_, z3⟩
        rcases List.mem_append.mp hm with hm | hm
        · exact z1 x (by simp [hx]) hm
        · obtain rfl : x = a := by simpa using hm
          exact z2 hx
theorem unl_len {as : List At} : (unl as).length = as.length ↔ as.Nodup := by
  have := unlG_len (as := as) (acc := [])
  simp at this
  exact this
theorem unl_le {as : List At} : (unl as).length ≤ as.length := by
  have := unlG_le (as := as) (acc := [])
  simp at this
  exact this
theorem unl_snoc {as : List At} {a : At} : unl (as ++ [a]) = if a ∈ unl as then unl as else unl as ++ [a] := by
  unfold unl unlG
  rw [List.foldl_append]
  rfl
theorem mem_unlG : ∀ {as acc : List At} {x : At}, x ∈ unlG acc as → x ∈ acc ∨ x ∈ as
  | [], acc, x, h => .inl h
  | a :: as, acc, x, h => by
    have e : unlG acc (a :: as) = unlG (if a ∈ acc then acc else acc ++ [a]) as := rfl
    rw [e] at h
    rcases mem_unlG h with h | h
    · split at h
      · exact .inl h
      · rcases List.mem_append.mp h with h | h
        · exact .inl h
        · exact .inr (by simp at h; simp [h])
    · exact .inr (by simp [h])
theorem mem_unl {as : List At} {x : At} (h : x ∈ unl as) : x ∈ as := by
  rcases mem_unlG h with h | h
  · simp at h
  · exact h
/-- all of some data that may be laid -/
theorem lay_all {k : Nat} : ∀ {ds : List PyData}, (∀ d ∈ ds, d.canLay0 = true ∧ d.depth ≤ k) → PyData.canLayAll0 ds = true ∧ PyData.depthAll ds ≤ k
  | [], _ => ⟨rfl, Nat.zero_le _⟩
  | d :: ds, h => by
    have ih := lay_all (ds := ds) fun x hx => h x (by simp [hx])
    have z := h d (by simp)
    simp only [PyData.canLayAll0, PyData.depthAll, z.1, ih.1]
    exact ⟨rfl, by omega⟩
theorem lay_list {ds : List PyData} (h : ∀ d ∈ ds, okD d) : SeqAt.shaped (.list ds) = true := by
  have z := lay_all h
  refine shaped_of ?_ ?_
  · show PyData.canLayAll0 _ = true
    exact z.1
  · show PyData.depthAll _ + 1 ≤ 64
    omega
def spUnl : Sp := fun vs H Q _ => ∃ (b q : Addr) (xs : List V) (as : List At), vs = [.ref q] ∧ TupAt H q xs ∧ DAtAll H b xs (as.map atD) ∧ (∀ a ∈ as, okD (atD a)) ∧ as.length ≤ 1000 ∧ ∀ (p : Addr) (ys : List V) (H' : Hp), H' p = some (.tup ys) → DAtAll H' b ys ((unl as).map atD) → Same H H' → Q (.ref p) H'
section
variable {P : Program} {w : World} {K : PySem.W.Frag} {mg : Str → Option Value} {base : Heap}
theorem scUnlike : FnScope ["atoms", "found", "atom"] ["atoms"] (defScope sUnlike) := ⟨rfl, rfl, rfl, by decide +kernel, rfl, by decide +kernel, by decide +kernel⟩
theorem ok_unl {f : Addr} {fd : FuncData} (F : Fun K "unlike" "unlike" sUnlike f fd) (mTuple : mg "tuple" = none) : FnOk P w K mg base CX0 1 f fd ["atoms"] spUnl := by
  refine F.ok scUnlike (fun vs H Q E h => ?_) (fun cdv A outer s H vs Q E hr h => ?_)
  · obtain ⟨b, q, xs, as, rfl, _⟩ := h
    rfl
  obtain ⟨b, q, xs, as, rfl, hq, A1, ok, few, fin⟩ := h
  refine ⟨_, pss_cons (ps_set (i := 1) scUnlike.nd rfl (Or.inl rfl) (pe_lst pa_nil))
    (pss_cons (ps_for PassesOwn.never rfl (pi_tup (pv 0)) (pg_name (i := 2) scUnlike.nd rfl (Or.inl rfl))
      (pss_one (ps_if (pt_cmpR (op_notInD (hu65 hr)) (pv 2) (pv 1) (by rfl)) (pss_one (ps_expr (pe_bm PySem.F.plainAttrs_list PySem.F.slot_list_append PySem.F.type_list_append mt_append (pv 1) (pa_cons (pv 2) pa_nil)))) pss_nil)))
    (pss_one (ps_ret (pe_callTy call_tuple_of (by rfl) mTuple (by decide +kernel) (pa_cons (pv 1) pa_nil))))), ?_⟩
  have big : (2000000 : Nat) ≤ sizeLine := by decide
  have xl := A1.len
  rw [List.length_map] at xl
  refine ⟨(by show 0 ≤ sizeLine; decide), fun l hl => ?_⟩
  have s1 := same_new hl (.lst ([] : List V))
  have hq1 := hq.same s1
  refine ⟨_, rfl, q, rfl, ⟨_, .inl hq1⟩, for_tup (K := K) (a := q) (xs := xs) (fun i σ H2 => ∃ (x2 : Option V) (ys : List V), σ = [some (.ref q), some (.ref l), x2] ∧ H2 l = some (.lst ys) ∧ DAtAll H b ys ((unl (as.take i)).map atD) ∧ Same H H2)
    ⟨none, [], rfl, upd_same, DAtAll.nil, s1⟩ (fun i σ H2 _ ⟨_, _, _, _, _, h⟩ => .inl (hq.same h)) ?_ ?_⟩
  · rintro i x σ H2 hi ⟨x2, ys, rfl, h2, Y2, s2⟩
    obtain ⟨d, hd, T⟩ := A1.get hi
    rw [List.getElem?_map] at hd
    obtain ⟨a, ha, rfl⟩ := Option.map_eq_some_iff.mp hd
    have am := List.mem_of_getElem? ha
    have li : i < as.length := (List.getElem?_eq_some_iff.mp ha).1
    have yl := Y2.len
    rw [List.length_map] at yl
    have ul := unl_le (as := as.take i)
    rw [List.length_take] at ul
    have tk : unl (as.take (i + 1)) = if a ∈ unl (as.take i) then unl (as.take i) else unl (as.take i) ++ [a] := by rw [List.take_add_one, ha]; exact unl_snoc
    refine ⟨_, rfl, _, rfl, atD a, (unl (as.take i)).map atD, (T.same s2).dp, .lst (.inl (.inl h2)) (Y2.same s2).dp, shaped_of (ok a am).1 (by have := (ok a am).2; omega), lay_list fun e he => ?_, !decide (a ∈ unl (as.take i)), by rw [in_ats], ?_⟩
    · obtain ⟨c, hc, rfl⟩ := List.mem_map.mp he
      exact ok c (List.mem_of_mem_take (mem_unl hc))
    by_cases hm : a ∈ unl (as.take i)
    · rw [decide_eq_true hm]
      rw [if_pos hm] at tk
      exact iteF ⟨_, ys, rfl, h2, by rw [tk]; exact Y2, s2⟩
    · rw [decide_eq_false hm]
      rw [if_neg hm] at tk
      refine iteT ?_
      refine ⟨_, rfl, .inl ⟨rfl, _, .inl (.inl h2)⟩, _, rfl, l, _, _, rfl, rfl, h2, by omega, ?_⟩
      have s3 : Same H (upd H2 l (.lst (ys ++ [x]))) := fun c o z => by rw [upd_ne (ne_of_none z hl)]; exact s2 _ _ z
      refine ⟨_, ys ++ [x], rfl, upd_same, ?_, s3⟩
      rw [tk, List.map_append]
      exact Y2.append (.cons T .nil)
  · rintro σ H2 ⟨x2, ys, rfl, h2, Y2, s2⟩
    rw [List.take_of_length_le (by omega)] at Y2
    exact ⟨_, rfl, l, _, rfl, .inl ⟨.inl (.inl h2), fun p hp => fin p _ _ upd_same (Y2.same (s2.trans (same_new hp _))) (s2.trans (same_new hp _))⟩⟩
end
end Rp

/-! a, *b = xs, a list of one item at least. -/
namespace Rp
open PySem PySem.Spec PySem.Calls PyProof.Rows L2 PySem.W
section
variable {prog : Program} {w : World} {A : Around} {E : Value → Shared → Prop} {s : Shared}
theorem unpack_star {l : Addr} {items : Array Value} {n i : Nat} {Q : List Value → Shared → Prop} (isL : s.heap.IsList l items) (calm : A.handled = none) (hi : i < n) (hn : n ≤ items.size + 1) (few : items.size ≤ 16384)
    (go : ∀ (h' : Heap) (tk : Nat), (∀ b o, s.heap.get? b = some o → h'.get? b = some o) → Q (items.toList.take i ++ [.ref h'.objs.size] ++ (items.toList.drop i).drop (items.size + 1 - n))
      { s with heap := h'.push (seqObj "list" ((items.toList.drop i).take (items.size + 1 - n)).toArray 0), toks := tk }) : wpAny (model prog w) A (unpackItems (.ref l) n (some i)) Q E s := by
  have apart : l ≠ s.heap.objs.size := by obtain ⟨o, ho, _⟩ := isL; exact Nat.ne_of_lt (Heap.lt_size ho)
  unfold unpackItems; refine wpAny_bind ?_; unfold notIterableAtAll
  refine wpAny_bind (wpAny_specialOf isL.typeIs slot_list_iter.lookup (wpAny_pure ?_)); simp only [Bool.false_eq_true, if_false]
  refine wpAny_bind (wpAny_holding (wpAny_pyIter_list isL (wpAny_bind (wpAny_holding (kun_draw apart i 0 _ _ ⟨_, Heap.get?_push_size _ rfl, rfl, rfl⟩ (isL.push _) (by omega) fun h₁ it1 sb1 => ?_)))))
  have isL1 : h₁.IsList l items := (isL.push _).extBut sb1.extBut apart
  rw [Nat.zero_add] at it1
  obtain ⟨oi, hoi, _⟩ := id it1
  obtain ⟨ol, hol, _⟩ := id isL1
  rw [List.drop_zero, if_neg (show ¬ ((items.toList.take i).length < i) by rw [List.length_take, Array.length_toList]; omega)]
  refine wpAny_bind (wpAny_holding (kun_collect (s := { s with heap := h₁ }) (T := "list_iterator") (.inr (.inr (.inl rfl))) (Walks.list (A := A.in1) calm s.heap.objs.size l apart items) (fun j u st => st.1.typeIs) (k := i) (by omega) ⟨it1, isL1⟩
    (Heap.lt_size hoi) (Heap.lt_size hol) (fun h₂ tk old => ?_) (by rw [sizeLine_eq]; omega)))
  have rest : (items.toList.drop i).length = items.size - i := by rw [List.length_drop, Array.length_toList]
  show wpAny _ _ (if (items.toList.drop i).length < n - 1 - i then _ else _) _ _ _; rw [if_neg (by rw [rest]; omega)]
  show wpAny _ _ (newList ((items.toList.drop i).take ((items.toList.drop i).length - (n - 1 - i))) >>= fun d => pure (items.toList.take i ++ [d] ++ (items.toList.drop i).drop ((items.toList.drop i).length - (n - 1 - i)))) _ _ _
  rw [show (items.toList.drop i).length - (n - 1 - i) = items.size + 1 - n by rw [rest]; omega]
  refine wpAny_bind (wpAny_newList (wpAny_pure (go h₂ tk fun b o z => old b o (Nat.ne_of_lt (Heap.lt_size z)) (sb1.extBut b o (Nat.ne_of_lt (Heap.lt_size z)) (Heap.get?_push_of_some _ z)))) (by rw [List.length_take, rest, sizeLine_eq]; omega))
end
section
variable {X : Cx} {pos : Pos}
/-- (a, *b) = a list: the first item, a new list of the others -/
def gStar (K : PySem.W.Frag) (t : TGs) : TG := fun v σ H Q => ∃ (a : Addr) (x : V) (xs : List V), v = .ref a ∧ SqL K H a (x :: xs) ∧ xs.length ≤ 16000 ∧ ∀ p, H p = none → t [x, .ref p] σ (upd H p (.lst xs)) Q
theorem pg_star {es : List Expr} {k : Nat} {t : TGs} (calm : X.calm = true) (h : PGs X es t) (hn : (assignEach es X.env).length = 2 := by rfl) (hst : (assignEach es X.env).findIdx? (·.1) = some 1 := by rfl) : PG X (.Tuple es k pos) (gStar X.K t) := by
  refine ⟨fun pins s σ H v u Q I r hw => ?_⟩
  obtain ⟨a, x, xs, rfl, sq, few, go⟩ := hw
  cases r
  obtain ⟨its, rv, isL, _⟩ := I.list sq
  have len := rv.length
  cases rv with
  | @cons _ v0 _ vs r0 rr =>
    have lv := rr.length
    rw [assign_Tuple]
    refine wpAny_bind (wpAny_standAt ?_)
    unfold unpack
    rw [hn, hst]
    refine wpAny_bind (wpAny_holding (unpack_star isL.isList (I.ok.hd calm) (by decide) (by simp) (by simp; omega) fun h' tk old => ?_))
    have J : Inv X pins σ H { s with heap := h', toks := tk } := I.kept old
    have big : (20000 : Nat) ≤ sizeLine := by decide
    have K1 : Inv X pins σ (upd H h'.objs.size (.lst xs)) { s with heap := h'.push (seqObj "list" vs.toArray 0), toks := tk } :=
      J.laid (t' := tk) (fun b o z => Heap.get?_push_of_some _ z) (Nat.le_refl _) ⟨by omega, vs, 0, rr, Heap.get?_push_size _ rfl⟩
    have e1 : ((v0 :: vs).toArray.toList.drop 1).take ((v0 :: vs).toArray.size + 1 - 2) = vs := by simp
    have e2 : (v0 :: vs).toArray.toList.take 1 ++ [Value.ref h'.objs.size] ++ ((v0 :: vs).toArray.toList.drop 1).drop ((v0 :: vs).toArray.size + 1 - 2) = [v0, .ref h'.objs.size] := by simp
    rw [e1, e2]
    exact h.run pins _ σ _ [x, .ref h'.objs.size] _ Q K1 (.cons r0 (.cons rfl .nil)) (go _ (J.hok.fresh (Nat.le_refl _)))
end
end Rp

set_option maxHeartbeats 8000000
/-! is_saying over data of any kind. -/
namespace Rp
open PySem PySem.Spec PyProof.Rows L2 TL RZ StX
mutual
/-- the texts among data are short, its lists and tuples not wide -/
def shS : PyData → Prop
  | .str x => x.length ≤ 1000 | .list ds => ds.length ≤ 60 ∧ shAll ds | .tuple ds => ds.length ≤ 60 ∧ shAll ds | _ => True
def shAll : List PyData → Prop
  | [] => True
  | d :: ds => shS d ∧ shAll ds
end
theorem shAll_iff : ∀ {ds : List PyData}, shAll ds ↔ ∀ d ∈ ds, shS d
  | [] => by simp [shAll]
  | d :: ds => by simp only [shAll, shAll_iff (ds := ds), List.mem_cons, forall_eq_or_imp]
theorem shS.tup {ds : List PyData} (h : shS (.tuple ds)) : ∀ d ∈ ds, shS d := shAll_iff.mp (by unfold shS at h; exact h.2)
theorem shS.wide {ds : List PyData} (h : shS (.tuple ds)) : ds.length ≤ 60 := by unfold shS at h; exact h.1
theorem shS.str {x : Str} (h : shS (.str x)) : x.length ≤ 1000 := by unfold shS at h; exact h
theorem shS.am {d : PyData} (h : shS d) : ∀ x ds, d = .tuple (.str x :: ds) → x.length ≤ 1000 := fun x ds e => by
  subst e
  exact (h.tup _ (by simp)).str
/-- what may be asked of data: not too deep, not too large, with short texts -/
structure DOk (d : PyData) : Prop where
  ok : okD d
  sz : nd d ≤ 100000
  sh : shS d
theorem DOk.tup {ds : List PyData} (h : DOk (.tuple ds)) : ∀ d ∈ ds, DOk d := fun d hd => ⟨h.ok.tup d hd, Nat.le_trans (nd_mem hd) h.sz, h.sh.tup d hd⟩
theorem DOk.few {ds : List PyData} (h : DOk (.tuple ds)) : ds.length ≤ 100000 := Nat.le_trans ndAll_le h.sz
structure SyD (hs : List PyData) (g : PyData) : Prop where
  few : hs.length ≤ 6
  am : ∀ h ∈ hs, IsAm h
  g : IsAm g
  nd : hs.Nodup
def IsSy (d : PyData) : Prop := ∃ hs g, d = .tuple [.tuple hs, g] ∧ SyD hs g
theorem isSy_two {hs : List PyData} {g : PyData} : IsSy (.tuple [.tuple hs, g]) ↔ SyD hs g :=
  ⟨fun ⟨hs', g', e, h⟩ => by injection e with e; injection e with e1 e2; injection e1 with e1; injection e2 with e2; subst e1 e2; exact h, fun h => ⟨hs, g, rfl, h⟩⟩
theorem isSy_len {ds : List PyData} (h : ds.length ≠ 2) : ¬ IsSy (.tuple ds) := fun ⟨hs, g, e, _⟩ => by
  injection e with e
  subst e
  exact h rfl
theorem atD_inj {a b : At} (h : atD a = atD b) : a = b := eqv_at.mp (by rw [h]; exact eqv_at.mpr rfl)
theorem nodup_atD {as : List At} : (as.map atD).Nodup ↔ as.Nodup := by
  induction as with
  | nil => simp
  | cons a as ih =>
    rw [List.map_cons, List.nodup_cons, List.nodup_cons, ih]
    constructor
    · rintro ⟨h1, h2⟩
      exact ⟨fun h => h1 (List.mem_map.mpr ⟨a, h, rfl⟩), h2⟩
    · rintro ⟨h1, h2⟩
      exact ⟨fun h => by obtain ⟨b, hb, e⟩ := List.mem_map.mp h; rw [atD_inj e] at hb; exact h1 hb, h2⟩
def spIsSy : Sp := fun vs H Q _ => ∃ (b : Addr) (v : V) (d : PyData), vs = [v] ∧ DAt H b v d ∧ DOk d ∧ ∀ (r : Bool) (H' : Hp), (r = true ↔ IsSy d) → Same H H' → Q (.bl r) H'
section
variable {P : Program} {w : World} {K : PySem.W.Frag} {mg : Str → Option Value} {base : Heap}
theorem scIsSaying : FnScope ["thing", "hyps", "goal", "atom"] ["thing"] (defScope sIsSaying) := ⟨rfl, rfl, rfl, by decide +kernel, rfl, by decide +kernel, by decide +kernel⟩
theorem ok_issy {f fA fU : Addr} {fd dA dU : FuncData} {t3 : Tok} (F : Fun K "is_saying" "is_saying" sIsSaying f fd)
    (GA : FnOk P w K mg base CX0 4 fA dA ["thing"] spIsAm) (kA : PySem.W.keepIn K (.ref fA) = true) (bA : Binds K dA ["thing"] []) (mA : mg "is_atom" = some (.ref fA))
    (GU : FnOk P w K mg base CX0 1 fU dU ["atoms"] spUnl) (kU : PySem.W.keepIn K (.ref fU) = true) (bU : Binds K dU ["atoms"] []) (mU : mg "unlike" = some (.ref fU))
    (mH : mg "MOST_HYPS" = some (.int 6 t3)) (M : SameG mg) : FnOk P w K mg base CX0 5 f fd ["thing"] spIsSy := by
  refine F.ok scIsSaying (fun vs H Q E h => ?_) (fun cdv A outer s H vs Q E hr h => ?_)
  · obtain ⟨b, v, d, rfl, _⟩ := h
    rfl
  obtain ⟨b, v, d, rfl, D, ok, q⟩ := h
  have r1 : Room 1 _ := hr.mono (by decide)
  refine ⟨_, pss_cons (ps_if (PW.pt (pw_or (pt_not (pt_val (pe_callB (id := "isinstance") call_isi (by rfl) M.isi (by decide +kernel) (pa_cons (pv 0) (pa_cons (pe_bltn (v := .ty "tuple") (by rfl) M.tuple (by decide +kernel) rfl) pa_nil)))))
      (pw_or1 (pt_cmpR op_ne (pe_callB call_len_seq (by rfl) M.len PySem.boot_len (pa_cons (pv 0) pa_nil)) pe_int (nomark _))))) (pss_one (ps_ret pe_bl)) pss_nil)
    (pss_cons (ps_asg (pv 0) (pg_tup (by rfl) (pgs_cons (pg_name (i := 1) scIsSaying.nd rfl (Or.inl rfl)) (pgs_cons (pg_name (i := 2) scIsSaying.nd rfl (Or.inl rfl)) pgs_nil))))
    (pss_cons (ps_if (PW.pt (pw_or (pt_not (pt_val (pe_callB (id := "isinstance") call_isi (by rfl) M.isi (by decide +kernel) (pa_cons (pv 1) (pa_cons (pe_bltn (v := .ty "tuple") (by rfl) M.tuple (by decide +kernel) rfl) pa_nil)))))
      (pw_or1 (pt_cmpR op_gt (pe_callB call_len_seq (by rfl) M.len PySem.boot_len (pa_cons (pv 1) pa_nil)) (pe_glob (v := .int 6) (by rfl) mH ⟨_, rfl⟩) (nomark _))))) (pss_one (ps_ret pe_bl)) pss_nil)
    (pss_one (ps_ret (pe_and (pe_callB (cr_all rfl) (by rfl) M.all (by decide +kernel) (pa_cons (pe_lc (own := [("atom", 3)]) (g := gName 3) (tt := tYes) (te := tCall spIsAm [] E0 (tCons (tVar 3) tNil)) rfl scIsSaying.nd
        (pi_tup (pe_tup (pa_star (pv 1) (pa_cons (pv 2) pa_nil)))) (blkOk_by (N := ["thing", "hyps", "goal", "atom"]) (sc := defScope sIsSaying) (by decide +kernel)) (fun _ _ _ _ _ => pg_name (i := 3) scIsSaying.nd rfl (Or.inl rfl))
        (fun _ _ _ _ _ => pts_nil) (fun _ _ _ _ _ => pe_call GA hr (by rfl) mA kA bA .nil pass0 (pa_cons (pv 3) pa_nil))) pa_nil))
      (pe_one (pe_cmpR op_eq (pe_callB call_len_seq (by rfl) M.len PySem.boot_len (pa_cons (pe_call GU r1 (by rfl) mU kU bU .nil pass0 (pa_cons (pv 1) pa_nil)) pa_nil)) (pe_callB call_len_seq (by rfl) M.len PySem.boot_len (pa_cons (pv 1) pa_nil)) (nomark _)))))))), ?_⟩
  have no : ∀ {H' : Hp}, Same H H' → ¬ IsSy d → Q (.bl false) H' := fun s h => q false _ ⟨(fun e => nomatch e), fun z => absurd z h⟩ s
  refine ⟨_, rfl, _, _, _, _, isU d, rfl, .ty "tuple", D.tyx, kitU d, isU d, rfl, ?_⟩
  cases d with
  | tuple ds =>
    obtain ⟨p, xs, rfl, hp, A'⟩ := D.tup_of
    have el := A'.len
    refine iteF ?_
    refine ⟨_, rfl, p, _, rfl, .inr (.inl hp), rfl, !decide (V.int ((xs.length : Nat) : Int) = V.int 2), rfl, ?_⟩
    by_cases h2 : xs.length = 2
    · rw [decide_eq_true (by rw [h2]; rfl)]
      refine iteF ?_
      match ds, xs, A', h2 with
      | [dh, dg], [x0, x1], A', _ =>
        obtain ⟨_, _, e', D0, A1⟩ := A'.head
        injection e' with e1 e2
        subst e1 e2
        obtain ⟨_, _, e', D1, _⟩ := A1.head
        injection e' with e1 e2
        subst e1
        have ok0 := ok.tup dh (by simp)
        have ok1 := ok.tup dg (by simp)
        refine ⟨_, rfl, p, _, rfl, .inl hp, rfl, _, _, rfl, _, _, rfl, rfl, ?_⟩
        refine ⟨_, rfl, _, _, _, _, isU dh, rfl, .ty "tuple", D0.tyx, kitU dh, isU dh, rfl, ?_⟩
        cases dh with
        | tuple hs =>
          obtain ⟨u, ys, rfl, hu, Y⟩ := D0.tup_of
          have yl := Y.len
          refine iteF ?_
          refine ⟨_, rfl, u, _, rfl, .inr (.inl hu), _, _, rfl, rfl, decide ((6 : Int) < (ys.length : Nat)), rfl, ?_⟩
          by_cases h6 : (6 : Int) < (ys.length : Nat)
          · rw [decide_eq_true h6]
            exact iteT (no (Same.refl H) fun z => by have := (isSy_two.mp z).few; omega)
          · rw [decide_eq_false h6]
            refine iteF ?_
            have big : (2000000 : Nat) ≤ sizeLine := by decide
            refine ⟨_, rfl, u, ys, rfl, .inl (.inl hu), _, rfl, by simp; omega, fun g hg => ?_⟩
            have s1 := same_new hg (.tup (ys ++ [x1]))
            have A2 : DAtAll H b (ys ++ [x1]) (hs ++ [dg]) := Y.append (.cons D1 .nil)
            refine ⟨g, rfl, ⟨_, .inl (.inl upd_same)⟩, fun DD hD => lc_pred (K := K) (b := b) (ds := hs ++ [dg]) (Pd := IsAm) (by show 3 < 4; decide) hD (.inl upd_same) (A2.same s1) (by rw [List.length_append, List.length_singleton]; omega)
              (fun x e H2 Q' he De _ k => ?_) fun bs H2 hb2 all2 s3 => ?_⟩
            · have oke : DOk e := by
                rcases List.mem_append.mp he with he | he
                · exact ok0.tup e he
                · obtain rfl : e = dg := by simpa using he
                  exact ok1
              exact ⟨b, x, e, rfl, De, oke.ok, oke.sz, oke.sh.am, k⟩
            · refine ⟨DD, bs, rfl, .inl (.inl hb2), ?_⟩
              have s13 := s1.trans s3
              by_cases ha : bs.all id = true
              · rw [ha]
                refine ⟨true, rfl, iteT ?_⟩
                have each := all2.mp ha
                obtain ⟨as, rfl, aok⟩ := ats_of (ds := hs) fun d hd => each d (by simp [hd])
                have ag := each dg (by simp)
                rw [List.length_map] at yl
                refine ⟨_, rfl, b, u, ys, as, rfl, hu.same s13, Y.same s13, fun a ha => (ok0.tup _ (List.mem_map.mpr ⟨a, ha, rfl⟩)).ok, by omega, fun o zs H3 ho Z s4 => ?_⟩
                have zl := Z.len
                rw [List.length_map] at zl
                refine ⟨o, _, rfl, .inr (.inl (.inl ho)), _, rfl, u, _, rfl, .inr (.inl ((hu.same s13).same s4)), rfl, ?_⟩
                refine q _ H3 ?_ (s13.trans s4)
                rw [isSy_two, decide_eq_true_iff]
                constructor
                · intro e
                  have e' : zs.length = ys.length := by injection e with e; omega
                  refine ⟨by rw [List.length_map]; omega, fun h hh => each h (by simp at hh ⊢; exact .inl hh), ag, nodup_atD.mpr (unl_len.mp (by omega))⟩
                · intro h
                  have := unl_len.mpr (nodup_atD.mp h.nd)
                  rw [show zs.length = ys.length by omega]
              · rw [Bool.not_eq_true] at ha
                rw [ha]
                refine ⟨false, rfl, iteF (no s13 fun z => ?_)⟩
                have z := isSy_two.mp z
                have := all2.mpr fun e he => by
                  rcases List.mem_append.mp he with he | he
                  · exact z.am e he
                  · obtain rfl : e = dg := by simpa using he
                    exact z.g
                rw [ha] at this
                cases this
        | _ => exact iteT (no (Same.refl H) fun ⟨_, _, z, _⟩ => nomatch z)
    · rw [decide_eq_false (by intro e; injection e with e; omega)]
      exact iteT (no (Same.refl H) (isSy_len (by omega)))
  | _ => exact iteT (no (Same.refl H) fun ⟨_, _, z, _⟩ => nomatch z)
end
end Rp

/-! a, *b = t, a tuple of one item at least. -/
namespace Rp
open PySem PySem.Spec PySem.Calls PyProof.Rows L2 PySem.W
section
variable {prog : Program} {w : World} {A : Around} {E : Value → Shared → Prop} {s : Shared}
theorem unpack_starT {l : Addr} {items : Array Value} {n i : Nat} {Q : List Value → Shared → Prop} (isT : IsTup s.heap l items) (calm : A.handled = none) (hi : i < n) (hn : n ≤ items.size + 1) (few : items.size ≤ 16384)
    (go : ∀ (h' : Heap) (tk : Nat), (∀ b o, s.heap.get? b = some o → h'.get? b = some o) → Q (items.toList.take i ++ [.ref h'.objs.size] ++ (items.toList.drop i).drop (items.size + 1 - n))
      { s with heap := h'.push (seqObj "list" ((items.toList.drop i).take (items.size + 1 - n)).toArray 0), toks := tk }) : wpAny (model prog w) A (unpackItems (.ref l) n (some i)) Q E s := by
  have apart : l ≠ s.heap.objs.size := by obtain ⟨o, ho, _⟩ := isT; exact Nat.ne_of_lt (Heap.lt_size ho)
  unfold unpackItems; refine wpAny_bind ?_; unfold notIterableAtAll
  refine wpAny_bind (wpAny_specialOf isT.typeIs slot_tuple_iter.lookup (wpAny_pure ?_)); simp only [Bool.false_eq_true, if_false]
  refine wpAny_bind (wpAny_holding (iter_tuple isT (wpAny_bind (wpAny_holding (draw_tuple apart i 0 _ _ ⟨_, Heap.get?_push_size _ rfl, rfl, rfl⟩ (isT.push _) (by omega) fun h₁ it1 sb1 => ?_)))))
  have isT1 : IsTup h₁ l items := (isT.push _).extBut sb1.extBut apart
  rw [Nat.zero_add] at it1
  obtain ⟨oi, hoi, _⟩ := id it1
  obtain ⟨ol, hol, _⟩ := id isT1
  rw [List.drop_zero, if_neg (show ¬ ((items.toList.take i).length < i) by rw [List.length_take, Array.length_toList]; omega)]
  refine wpAny_bind (wpAny_holding (kun_collect (s := { s with heap := h₁ }) (T := "tuple_iterator") (.inr (.inr (.inr rfl))) (Walks.tuple (A := A.in1) calm s.heap.objs.size l apart items) (fun j u st => st.1.typeIs) (k := i) (by omega) ⟨it1, isT1⟩
    (Heap.lt_size hoi) (Heap.lt_size hol) (fun h₂ tk old => ?_) (by rw [sizeLine_eq]; omega)))
  have rest : (items.toList.drop i).length = items.size - i := by rw [List.length_drop, Array.length_toList]
  show wpAny _ _ (if (items.toList.drop i).length < n - 1 - i then _ else _) _ _ _; rw [if_neg (by rw [rest]; omega)]
  show wpAny _ _ (newList ((items.toList.drop i).take ((items.toList.drop i).length - (n - 1 - i))) >>= fun d => pure (items.toList.take i ++ [d] ++ (items.toList.drop i).drop ((items.toList.drop i).length - (n - 1 - i)))) _ _ _
  rw [show (items.toList.drop i).length - (n - 1 - i) = items.size + 1 - n by rw [rest]; omega]
  refine wpAny_bind (wpAny_newList (wpAny_pure (go h₂ tk fun b o z => old b o (Nat.ne_of_lt (Heap.lt_size z)) (sb1.extBut b o (Nat.ne_of_lt (Heap.lt_size z)) (Heap.get?_push_of_some _ z)))) (by rw [List.length_take, rest, sizeLine_eq]; omega))
end
section
variable {X : Cx} {pos : Pos}
/-- (a, *b) = a tuple: the first item, a new list of the others -/
def gStarT (K : PySem.W.Frag) (t : TGs) : TG := fun v σ H Q => ∃ (a : Addr) (x : V) (xs : List V), v = .ref a ∧ SqT K H a (x :: xs) ∧ xs.length ≤ 16000 ∧ ∀ p, H p = none → t [x, .ref p] σ (upd H p (.lst xs)) Q
theorem pg_starT {es : List Expr} {k : Nat} {t : TGs} (calm : X.calm = true) (h : PGs X es t) (hn : (assignEach es X.env).length = 2 := by rfl) (hst : (assignEach es X.env).findIdx? (·.1) = some 1 := by rfl) : PG X (.Tuple es k pos) (gStarT X.K t) := by
  refine ⟨fun pins s σ H v u Q I r hw => ?_⟩
  obtain ⟨a, x, xs, rfl, sq, few, go⟩ := hw
  cases r
  obtain ⟨its, rv, isT, _⟩ := I.tuple sq
  cases rv with
  | @cons _ v0 _ vs r0 rr =>
    have lv := rr.length
    rw [assign_Tuple]
    refine wpAny_bind (wpAny_standAt ?_)
    unfold unpack
    rw [hn, hst]
    refine wpAny_bind (wpAny_holding (unpack_starT isT (I.ok.hd calm) (by decide) (by simp) (by simp; omega) fun h' tk old => ?_))
    have J : Inv X pins σ H { s with heap := h', toks := tk } := I.kept old
    have big : (20000 : Nat) ≤ sizeLine := by decide
    have K1 : Inv X pins σ (upd H h'.objs.size (.lst xs)) { s with heap := h'.push (seqObj "list" vs.toArray 0), toks := tk } :=
      J.laid (t' := tk) (fun b o z => Heap.get?_push_of_some _ z) (Nat.le_refl _) ⟨by omega, vs, 0, rr, Heap.get?_push_size _ rfl⟩
    have e1 : ((v0 :: vs).toArray.toList.drop 1).take ((v0 :: vs).toArray.size + 1 - 2) = vs := by simp
    have e2 : (v0 :: vs).toArray.toList.take 1 ++ [Value.ref h'.objs.size] ++ ((v0 :: vs).toArray.toList.drop 1).drop ((v0 :: vs).toArray.size + 1 - 2) = [v0, .ref h'.objs.size] := by simp
    rw [e1, e2]
    exact h.run pins _ σ _ [x, .ref h'.objs.size] _ Q K1 (.cons r0 (.cons rfl .nil)) (go _ (J.hok.fresh (Nat.le_refl _)))
end
end Rp

set_option maxHeartbeats 8000000
/-! is_place, is_step over data of any kind. -/
namespace Rp
open PySem PySem.Spec PyProof.Rows L2 TL RZ StX
theorem pgs_star {X : Cx} {e : Expr} {es : List Expr} {p : Pos} {t : TG} {u : TGs} (h1 : PG X e t) (h2 : PGs X es u) (hs : (assignEach (.Starred e p :: es) X.env).map (·.2) = assign e X.env :: (assignEach es X.env).map (·.2) := by rfl) : PGs X (.Starred e p :: es) (gCons t u) := by
  refine ⟨fun pins s σ H vs us Q I rel told => ?_⟩
  obtain ⟨v, rest, rfl, told⟩ := told
  cases rel with
  | cons r rr =>
    rw [hs]
    exact assignInOrder_cons (thn (h1.run pins s σ H _ _ _ I r told) fun _ s1 ⟨σ1, H1, J, go⟩ => h2.run pins s1 σ1 H1 _ _ Q J rr go)
def IsPl (d : PyData) : Prop := ∃ n : Int, d = .int n ∧ 0 ≤ n
def IsSt : PyData → Prop
  | .tuple [x] => x = .str "by"
  | .tuple [x, e] => (x = .str "cut" ∧ IsAm e) ∨ ((x = .str "split" ∨ x = .str "use") ∧ IsPl e)
  | .tuple [x, e, f] => (x = .str "back" ∧ IsPl e ∧ IsBdD f) ∨ (x = .str "as" ∧ IsSy e ∧ IsBdD f) ∨ (x = .str "lean" ∧ IsNm e ∧ IsBdD f)
  | _ => False
theorem isSt_len {ds : List PyData} (h : ¬ (1 ≤ ds.length ∧ ds.length ≤ 3)) : ¬ IsSt (.tuple ds) := by
  match ds, h with
  | [], _ => exact fun z => z
  | [_], h => exact absurd (by simp) h
  | [_, _], h => exact absurd (by simp) h
  | [_, _, _], h => exact absurd (by simp) h
  | _ :: _ :: _ :: _ :: _, _ => exact fun z => z
theorem eqv_strR {x : Str} {d : PyData} : PyData.eqv d (.str x) = true ↔ d = .str x := by
  cases d <;> simp [PyData.eqv]
def spPl : Sp := fun vs H Q _ => ∃ (b : Addr) (v : V) (d : PyData), vs = [v] ∧ DAt H b v d ∧ ∀ r : Bool, (r = true ↔ IsPl d) → Q (.bl r) H
def spIsSt : Sp := fun vs H Q _ => ∃ (b : Addr) (v : V) (d : PyData), vs = [v] ∧ DAt H b v d ∧ DOk d ∧ ∀ (r : Bool) (H' : Hp), (r = true ↔ IsSt d) → Same H H' → Q (.bl r) H'
section
variable {P : Program} {w : World} {K : PySem.W.Frag} {mg : Str → Option Value} {base : Heap}
theorem scPlace : FnScope ["thing"] ["thing"] (defScope sPlace) := ⟨rfl, rfl, rfl, by decide +kernel, rfl, by decide +kernel, by decide +kernel⟩
theorem ok_pl {f fN : Addr} {fd dN : FuncData} (F : Fun K "is_place" "is_place" sPlace f fd)
    (GN : FnOk P w K mg base CX0 1 fN dN ["thing"] spNumber) (kN : PySem.W.keepIn K (.ref fN) = true) (bN : Binds K dN ["thing"] []) (mN : mg "is_number" = some (.ref fN)) : FnOk P w K mg base CX0 2 f fd ["thing"] spPl := by
  refine F.ok scPlace (fun vs H Q E h => ?_) (fun cdv A outer s H vs Q E hr h => ?_)
  · obtain ⟨b, v, d, rfl, _⟩ := h
    rfl
  obtain ⟨b, v, d, rfl, D, q⟩ := h
  refine ⟨_, pss_one (ps_ret (pe_and (pe_call GN hr rfl mN kN bN .nil pass0 (pa_cons (pv 0) pa_nil)) (pe_one (pe_cmpR op_ge (pv 0) pe_int (nomark _))))), ?_⟩
  refine ⟨_, rfl, b, v, d, rfl, D, isNum d, rfl, ?_⟩
  cases d with
  | int n =>
    have ev := D.int_of
    subst ev
    refine iteT ⟨_, rfl, _, _, rfl, rfl, ?_⟩
    exact q (decide ((0 : Int) ≤ n)) (by rw [decide_eq_true_iff]; exact ⟨fun h => ⟨n, rfl, h⟩, fun ⟨m, e, h⟩ => by injection e with e; subst e; exact h⟩)
  | _ => exact iteF (q false ⟨(fun e => nomatch e), fun ⟨_, z, _⟩ => nomatch z⟩)
abbrev NIS : List Str := ["thing", "word", "parts", "first", "binding"]
theorem scIsStep : FnScope NIS ["thing"] (defScope sIsStep) := ⟨rfl, rfl, rfl, by decide +kernel, rfl, by decide +kernel, by decide +kernel⟩
theorem ok_isst {f fA fP fB fS fN : Addr} {fd dA dP dB dS dN : FuncData} (F : Fun K "is_step" "is_step" sIsStep f fd)
    (GA : FnOk P w K mg base CX0 4 fA dA ["thing"] spIsAm) (kA : PySem.W.keepIn K (.ref fA) = true) (bA : Binds K dA ["thing"] []) (mA : mg "is_atom" = some (.ref fA))
    (GP : FnOk P w K mg base CX0 2 fP dP ["thing"] spPl) (kP : PySem.W.keepIn K (.ref fP) = true) (bP : Binds K dP ["thing"] []) (mP : mg "is_place" = some (.ref fP))
    (GB : FnOk P w K mg base CX0 5 fB dB ["thing"] spIsBd) (kB : PySem.W.keepIn K (.ref fB) = true) (bB : Binds K dB ["thing"] []) (mB : mg "is_binding" = some (.ref fB))
    (GS : FnOk P w K mg base CX0 5 fS dS ["thing"] spIsSy) (kS : PySem.W.keepIn K (.ref fS) = true) (bS : Binds K dS ["thing"] []) (mS : mg "is_saying" = some (.ref fS))
    (GN : FnOk P w K mg base CX0 1 fN dN ["thing"] spIsNm) (kN : PySem.W.keepIn K (.ref fN) = true) (bN : Binds K dN ["thing"] []) (mN : mg "is_name" = some (.ref fN)) (M : SameG mg) : FnOk P w K mg base CX0 6 f fd ["thing"] spIsSt := by
  refine F.ok scIsStep (fun vs H Q E h => ?_) (fun cdv A outer s H vs Q E hr h => ?_)
  · obtain ⟨b, v, d, rfl, _⟩ := h
    rfl
  obtain ⟨b, v, d, rfl, D, ok, q⟩ := h
  have r1 : Room 1 _ := hr.mono (by decide)
  have r2 : Room 2 _ := hr.mono (by decide)
  have r4 : Room 4 _ := hr.mono (by decide)
  have sS : ∀ x : Str, (PyData.str x).canLay0 = true → SeqAt.shaped (.str x) = true := fun x h => shaped_of h (by show 0 ≤ 64; omega)
  refine ⟨_, pss_cons (ps_if (PW.pt (pw_or (pt_not (pt_val (pe_callB (id := "isinstance") call_isi (by rfl) M.isi (by decide +kernel) (pa_cons (pv 0) (pa_cons (pe_bltn (v := .ty "tuple") (by rfl) M.tuple (by decide +kernel) rfl) pa_nil)))))
      (pw_or1 (pt_not (pt_chain op_le op_le pe_int (pe_callB call_len_seq (by rfl) M.len PySem.boot_len (pa_cons (pv 0) pa_nil)) pe_int))))) (pss_one (ps_ret pe_bl)) pss_nil)
    (pss_cons (ps_asg (pv 0) (pg_starT rfl (pgs_cons (pg_name (i := 1) scIsStep.nd rfl (Or.inl rfl)) (pgs_star (pg_name (i := 2) scIsStep.nd rfl (Or.inl rfl)) pgs_nil))))
    (pss_cons (ps_if (pt_cmpR op_eq (pe_callB call_len_seq (by rfl) M.len PySem.boot_len (pa_cons (pv 2) pa_nil)) pe_int (nomark _)) (pss_one (ps_ret (pe_cmpR (op_eqD hr.units) (pv 1) pe_str (nomark _)))) pss_nil)
    (pss_cons (ps_if (pt_cmpR op_eq (pe_callB call_len_seq (by rfl) M.len PySem.boot_len (pa_cons (pv 2) pa_nil)) pe_int (nomark _)) (pss_one (ps_ret (pe_ifExp (pt_cmpR (op_eqD hr.units) (pv 1) pe_str (nomark _))
        (pe_call GA r4 rfl mA kA bA .nil pass0 (pa_cons (pe_ix ix_list (pv 2) pe_int (fun _ _ => rfl)) pa_nil))
        (pe_and (pe_cmpR (op_inT (hu65 hr)) (pv 1) (pe_tup (pa_cons pe_str (pa_cons pe_str pa_nil))) (by rfl)) (pe_one (pe_call GP r2 rfl mP kP bP .nil pass0 (pa_cons (pe_ix ix_list (pv 2) pe_int (fun _ _ => rfl)) pa_nil))))))) pss_nil)
    (pss_cons (ps_asg (pv 2) (pg_unl rfl (pgs_cons (pg_name (i := 3) scIsStep.nd rfl (Or.inl rfl)) (pgs_cons (pg_name (i := 4) scIsStep.nd rfl (Or.inl rfl)) pgs_nil))))
    (pss_cons (ps_if (pt_cmpR (op_eqD hr.units) (pv 1) pe_str (nomark _)) (pss_one (ps_ret (pe_and (pe_call GP r2 rfl mP kP bP .nil pass0 (pa_cons (pv 3) pa_nil)) (pe_one (pe_call GB hr rfl mB kB bB .nil pass0 (pa_cons (pv 4) pa_nil)))))) pss_nil)
    (pss_cons (ps_if (pt_cmpR (op_eqD hr.units) (pv 1) pe_str (nomark _)) (pss_one (ps_ret (pe_and (pe_call GS hr rfl mS kS bS .nil pass0 (pa_cons (pv 3) pa_nil)) (pe_one (pe_call GB hr rfl mB kB bB .nil pass0 (pa_cons (pv 4) pa_nil)))))) pss_nil)
    (pss_one (ps_ret (pe_and (pe_cmpR (op_eqD hr.units) (pv 1) pe_str (nomark _)) (pe_and (pe_call GN r1 rfl mN kN bN .nil pass0 (pa_cons (pv 3) pa_nil)) (pe_one (pe_call GB hr rfl mB kB bB .nil pass0 (pa_cons (pv 4) pa_nil))))))))))))), ?_⟩
  have big : (2000000 : Nat) ≤ sizeLine := by decide
  have no : ∀ {H' : Hp}, Same H H' → ¬ IsSt d → Q (.bl false) H' := fun s h => q false _ ⟨(fun e => nomatch e), fun z => absurd z h⟩ s
  refine ⟨_, rfl, _, _, _, _, isU d, rfl, .ty "tuple", D.tyx, kitU d, isU d, rfl, ?_⟩
  cases d with
  | tuple ds =>
    obtain ⟨p, xs, rfl, hp, Ax⟩ := D.tup_of
    have xl := Ax.len
    refine iteF ?_
    refine ⟨_, rfl, p, _, rfl, .inr (.inl hp), _, _, rfl, rfl, decide ((1 : Int) ≤ (xs.length : Nat)), rfl, ?_⟩
    by_cases h1 : (1 : Int) ≤ (xs.length : Nat)
    · rw [decide_eq_true h1]
      refine iteT ⟨_, _, rfl, rfl, decide (((xs.length : Nat) : Int) ≤ 3), rfl, ?_⟩
      by_cases h3 : ((xs.length : Nat) : Int) ≤ 3
      · rw [decide_eq_true h3]
        refine iteF ?_
        match ds, xs, Ax, xl, h1, h3 with
        | [], [], _, _, h1, _ => exact absurd h1 (by decide)
        | d0 :: es, x0 :: ys, Ax, xl, h1, h3 =>
          obtain ⟨_, _, e', D0, A1⟩ := Ax.head
          injection e' with e1 e2
          subst e1 e2
          have yl := A1.len
          rw [List.length_cons] at h1 h3
          have ok0 := ok.tup d0 (by simp)
          have sh0 : SeqAt.shaped d0 = true := shaped_of ok0.ok.1 (by have := ok0.ok.2; omega)
          refine ⟨_, rfl, p, x0, ys, rfl, .inl hp, by omega, fun l hl => ⟨_, _, rfl, _, _, rfl, rfl, ?_⟩⟩
          have s1 := same_new hl (.lst ys)
          have hl1 : (upd H l (.lst ys)) l = some (.lst ys) := upd_same
          generalize upd H l (.lst ys) = H1 at s1 hl1 ⊢
          have fin1 : ∀ (r : Bool) (H' : Hp), (r = true ↔ IsSt (.tuple (d0 :: es))) → Same H1 H' → Q (.bl r) H' := fun r H' h s => q r H' h (s1.trans s)
          have hl' : SqL K H1 l ys := .inl (.inl hl1)
          have E0 := D0.same s1
          have B1 := A1.same s1
          clear q hp D0 A1 no
          refine ⟨_, rfl, l, _, rfl, .inl hl', rfl, ?_⟩
          match es, ys, B1, yl, h3 with
          | [], [], _, _, _ =>
            refine ⟨true, rfl, iteT ⟨_, rfl, d0, .str "by", E0.dp, .str _, sh0, sS _ (by decide +kernel), fin1 _ _ ?_ (Same.refl _)⟩⟩
            exact eqv_strR
          | [e], [y], B1, _, _ =>
            obtain ⟨_, _, e', E1, _⟩ := B1.head
            injection e' with e1 e2
            subst e1 e2
            have ok1 := ok.tup e (by simp)
            refine ⟨false, rfl, iteF ⟨_, rfl, l, _, rfl, .inl hl', rfl, true, rfl, iteT ⟨_, rfl, d0, .str "cut", E0.dp, .str _, sh0, sS _ (by decide +kernel), PyData.eqv d0 (.str "cut"), rfl, ?_⟩⟩⟩
            by_cases hc : PyData.eqv d0 (.str "cut") = true
            · rw [hc]
              have hc' := eqv_strR.mp hc
              subst hc'
              refine iteT ⟨_, rfl, l, _, _, _, rfl, rfl, .inl (.inl hl1), at_of (j := 0) rfl rfl, b, y, e, rfl, E1, ok1.ok, ok1.sz, ok1.sh.am, fun r H2 hr2 s2 => fin1 r H2 ?_ s2⟩
              rw [hr2]
              exact ⟨fun h => .inl ⟨rfl, h⟩, fun h => by
                rcases h with ⟨_, h⟩ | ⟨h | h, _⟩
                · exact h
                · injection h with h; exact absurd h (by decide +kernel)
                · injection h with h; exact absurd h (by decide +kernel)⟩
            · rw [Bool.not_eq_true] at hc
              rw [hc]
              refine iteF ?_
              refine ⟨_, rfl, (by show 2 ≤ sizeLine; decide), fun g hg => ?_⟩
              have s2 := same_new hg (.tup [V.str "split", V.str "use"])
              refine ⟨d0, [.str "split", .str "use"], (E0.same s2).dp, .tup (.inl (.inl upd_same)) (.cons (.str _) (.cons (.str _) .nil)), sh0, by decide +kernel, ([PyData.str "split", .str "use"].any fun y => PyData.eqv y d0), rfl, ?_⟩
              have nc : d0 ≠ .str "cut" := fun z => by rw [eqv_strR.mpr z] at hc; cases hc
              have an : ([PyData.str "split", .str "use"].any fun y => PyData.eqv y d0) = true ↔ (d0 = .str "split" ∨ d0 = .str "use") := by
                simp only [List.any_cons, List.any_nil, Bool.or_false, Bool.or_eq_true, eqv_str]
              by_cases hs : ([PyData.str "split", .str "use"].any fun y => PyData.eqv y d0) = true
              · rw [hs]
                have hs' := an.mp hs
                refine iteT ⟨_, rfl, l, _, _, _, rfl, rfl, .inl (.inl (s2 _ _ hl1)), at_of (j := 0) rfl rfl, b, y, e, rfl, E1.same s2, fun r hr2 => fin1 r _ ?_ s2⟩
                rw [hr2]
                exact ⟨fun h => .inr ⟨hs', h⟩, fun h => by
                  rcases h with ⟨h, _⟩ | ⟨_, h⟩
                  · exact absurd h nc
                  · exact h⟩
              · rw [Bool.not_eq_true] at hs
                rw [hs]
                refine iteF (fin1 false _ ⟨(fun e => nomatch e), fun h => ?_⟩ s2)
                rcases h with ⟨h, _⟩ | ⟨h, _⟩
                · exact absurd h nc
                · rw [an.mpr h] at hs; cases hs
          | [e, f'], [y, z], B1, _, _ =>
            obtain ⟨_, _, e', E1, B2⟩ := B1.head
            injection e' with e1 e2
            subst e1 e2
            obtain ⟨_, _, e', E2, _⟩ := B2.head
            injection e' with e1 e2
            subst e1 e2
            have ok1 := ok.tup e (by simp)
            have ok2 := ok.tup f' (by simp)
            refine ⟨false, rfl, iteF ⟨_, rfl, l, _, rfl, .inl hl', rfl, false, rfl, iteF ?_⟩⟩
            refine ⟨_, rfl, l, _, rfl, hl', rfl, _, _, rfl, _, _, rfl, rfl, ?_⟩
            refine ⟨_, rfl, d0, .str "back", E0.dp, .str _, sh0, sS _ (by decide +kernel), PyData.eqv d0 (.str "back"), rfl, ?_⟩
            by_cases hb : PyData.eqv d0 (.str "back") = true
            · rw [hb]
              have hb' := eqv_strR.mp hb
              subst hb'
              have it : IsSt (.tuple [.str "back", e, f']) ↔ IsPl e ∧ IsBdD f' := ⟨fun h => by
                rcases h with ⟨_, h⟩ | ⟨h, _⟩ | ⟨h, _⟩
                · exact h
                · injection h with h; exact absurd h (by decide +kernel)
                · injection h with h; exact absurd h (by decide +kernel), fun h => .inl ⟨rfl, h⟩⟩
              refine iteT ⟨_, rfl, b, y, e, rfl, E1, fun r hr1 => ⟨r, rfl, ?_⟩⟩
              cases r with
              | false => exact iteF (fin1 false _ ⟨(fun e => nomatch e), fun h => hr1.mpr (it.mp h).1⟩ (Same.refl _))
              | true => exact iteT ⟨_, rfl, b, z, f', rfl, E2, ok2.ok, ok2.sz, fun r H2 hr2 s2 => fin1 r H2 (by rw [hr2, it]; exact ⟨fun h => ⟨hr1.mp rfl, h⟩, fun h => h.2⟩) s2⟩
            · have nb : d0 ≠ .str "back" := fun z => hb (eqv_strR.mpr z)
              rw [Bool.not_eq_true] at hb
              rw [hb]
              refine iteF ⟨_, rfl, d0, .str "as", E0.dp, .str _, sh0, sS _ (by decide +kernel), PyData.eqv d0 (.str "as"), rfl, ?_⟩
              by_cases ha : PyData.eqv d0 (.str "as") = true
              · rw [ha]
                have ha' := eqv_strR.mp ha
                subst ha'
                have it : IsSt (.tuple [.str "as", e, f']) ↔ IsSy e ∧ IsBdD f' := ⟨fun h => by
                  rcases h with ⟨h, _⟩ | ⟨_, h⟩ | ⟨h, _⟩
                  · exact absurd h nb
                  · exact h
                  · injection h with h; exact absurd h (by decide +kernel), fun h => .inr (.inl ⟨rfl, h⟩)⟩
                refine iteT ⟨_, rfl, b, y, e, rfl, E1, ok1, fun r H2 hr1 s2 => ⟨r, rfl, ?_⟩⟩
                cases r with
                | false => exact iteF (fin1 false _ ⟨(fun e => nomatch e), fun h => hr1.mpr (it.mp h).1⟩ s2)
                | true => exact iteT ⟨_, rfl, b, z, f', rfl, E2.same s2, ok2.ok, ok2.sz, fun r H3 hr2 s3 => fin1 r H3 (by rw [hr2, it]; exact ⟨fun h => ⟨hr1.mp rfl, h⟩, fun h => h.2⟩) (s2.trans s3)⟩
              · have na : d0 ≠ .str "as" := fun z => ha (eqv_strR.mpr z)
                rw [Bool.not_eq_true] at ha
                rw [ha]
                refine iteF ⟨_, rfl, d0, .str "lean", E0.dp, .str _, sh0, sS _ (by decide +kernel), PyData.eqv d0 (.str "lean"), rfl, ?_⟩
                have it : IsSt (.tuple [d0, e, f']) ↔ d0 = .str "lean" ∧ IsNm e ∧ IsBdD f' := ⟨fun h => by
                  rcases h with ⟨h, _⟩ | ⟨h, _⟩ | h
                  · exact absurd h nb
                  · exact absurd h na
                  · exact h, fun h => .inr (.inr h)⟩
                by_cases hn : PyData.eqv d0 (.str "lean") = true
                · rw [hn]
                  have hn' := eqv_strR.mp hn
                  refine iteT ⟨_, rfl, b, y, e, rfl, E1, fun x hx => by subst hx; exact ok1.sh.str, fun r H2 hr1 s2 => ⟨r, rfl, ?_⟩⟩
                  cases r with
                  | false => exact iteF (fin1 false _ ⟨(fun e => nomatch e), fun h => hr1.mpr (it.mp h).2.1⟩ s2)
                  | true => exact iteT ⟨_, rfl, b, z, f', rfl, E2.same s2, ok2.ok, ok2.sz, fun r H3 hr2 s3 => fin1 r H3 (by rw [hr2, it]; exact ⟨fun h => ⟨hn', hr1.mp rfl, h⟩, fun h => h.2.2⟩) (s2.trans s3)⟩
                · have nn : d0 ≠ .str "lean" := fun z => hn (eqv_strR.mpr z)
                  rw [Bool.not_eq_true] at hn
                  rw [hn]
                  exact iteF (fin1 false _ ⟨(fun e => nomatch e), fun h => absurd (it.mp h).1 nn⟩ (Same.refl _))
          | _ :: _ :: _ :: _, _ :: _ :: _ :: _, _, _, h3 => exact absurd h3 (by simp only [List.length_cons]; omega)
      · rw [decide_eq_false h3]
        exact iteT (no (Same.refl H) (isSt_len (by omega)))
    · rw [decide_eq_false h1]
      exact iteF ⟨false, rfl, iteT (no (Same.refl H) (isSt_len (by omega)))⟩
  | _ => exact iteT (no (Same.refl H) fun z => z)
end
end Rp

set_option maxHeartbeats 8000000
/-! The law's own looks at counts and TERMs. -/
namespace Rp
open PySem PySem.Spec PyProof.Rows L2 TL RZ StX
def IsCt (t : Int) (d : PyData) : Prop := ∃ n : Int, d = .int n ∧ 0 ≤ n ∧ n < t
def spCt : Sp := fun vs H Q _ => ∃ (b : Addr) (v : V) (d : PyData) (t : Int), vs = [v, .int t] ∧ DAt H b v d ∧ ∀ r : Bool, (r = true ↔ IsCt t d) → Q (.bl r) H
def spTmW (n : Nat) : Sp := fun vs H Q _ => ∃ (b : Addr) (v : V) (d : PyData), vs = [v] ∧ DAt H b v d ∧ okD d ∧ d.depth + 1 < n ∧ ∀ (r : Bool) (H' : Hp), (r = true ↔ IsT d) → Same H H' → Q (.bl r) H'
theorem eqv_nil {ds : List PyData} : PyData.eqv (.tuple ds) (.tuple []) = ds.isEmpty := by
  rw [eqv_tup]
  cases ds <;> simp [PyData.eqvAll]
theorem isCt_T {d : PyData} (h : isI d = true) : IsCt 100 d ↔ IsT d := by
  cases d with
  | int n => rw [isT_int]; exact ⟨fun ⟨m, e, h1, h2⟩ => by injection e with e; subst e; exact ⟨h1, by omega⟩, fun ⟨h1, h2⟩ => ⟨n, rfl, h1, by omega⟩⟩
  | bool c => exact ⟨fun ⟨_, e, _⟩ => (nomatch e), fun z => absurd z (isT_other (fun ⟨x, ds, e, _⟩ => nomatch e) (fun _ e => nomatch e))⟩
  | _ => cases h
def arity : List (Key × V) := [(.inr "0", .int 1), (.inr "s", .int 2), (.inr "f", .int 3)]
def ar (x : Str) : Nat := if x = "f" then 3 else if x = "s" then 2 else if x = "0" then 1 else 0
theorem arity_at (x : Str) : (valV (mergeK [] arity) (.inr x)).getD (.int 0) = .int (ar x : Nat) := by
  show (valV (putK (putK (putK ([] : List (Key × V)) (.inr "0") (.int 1)) (.inr "s") (.int 2)) (.inr "f") (.int 3)) (.inr x)).getD (.int 0) = _
  rw [valV_put, valV_put, valV_put]
  unfold ar
  by_cases h : x = "f"
  · rw [if_pos (by rw [h]), if_pos h]; rfl
  rw [if_neg (fun z => h (Sum.inr.inj z)), if_neg h]
  by_cases h : x = "s"
  · rw [if_pos (by rw [h]), if_pos h]; rfl
  rw [if_neg (fun z => h (Sum.inr.inj z)), if_neg h]
  by_cases h : x = "0"
  · rw [if_pos (by rw [h]), if_pos h]; rfl
  rw [if_neg (fun z => h (Sum.inr.inj z)), if_neg h]
  rfl
theorem ar_shape {x : Str} {k : Nat} : k + 1 = ar x ↔ ((x = "0" ∧ k = 0) ∨ (x = "s" ∧ k = 1) ∨ (x = "f" ∧ k = 2)) := by
  have s0 : ("0" : Str) ≠ "s" := by decide +kernel
  have s1 : ("0" : Str) ≠ "f" := by decide +kernel
  have s2 : ("s" : Str) ≠ "f" := by decide +kernel
  unfold ar
  by_cases h : x = "f"
  · subst h
    rw [if_pos rfl]
    exact ⟨fun h => .inr (.inr ⟨rfl, by omega⟩), fun h => by
      rcases h with ⟨h, _⟩ | ⟨h, _⟩ | ⟨_, h⟩
      · exact absurd h.symm s1
      · exact absurd h.symm s2
      · omega⟩
  rw [if_neg h]
  by_cases h' : x = "s"
  · subst h'
    rw [if_pos rfl]
    exact ⟨fun h => .inr (.inl ⟨rfl, by omega⟩), fun h => by
      rcases h with ⟨h, _⟩ | ⟨_, h⟩ | ⟨h, _⟩
      · exact absurd h.symm s0
      · omega
      · exact absurd h s2⟩
  rw [if_neg h']
  by_cases h2 : x = "0"
  · subst h2
    rw [if_pos rfl]
    exact ⟨fun h => .inl ⟨rfl, by omega⟩, fun h => by
      rcases h with ⟨_, h⟩ | ⟨h, _⟩ | ⟨h, _⟩
      · omega
      · exact absurd h s0
      · exact absurd h s1⟩
  rw [if_neg h2]
  exact ⟨fun h => by omega, fun z => by
    rcases z with ⟨z, _⟩ | ⟨z, _⟩ | ⟨z, _⟩
    · exact absurd z h2
    · exact absurd z h'
    · exact absurd z h⟩
section
variable {P : Program} {w : World} {K : PySem.W.Frag} {mg : Str → Option Value} {base : Heap}
theorem scCt : FnScope ["_law_thing", "_law_top"] ["_law_thing", "_law_top"] (defScope sCountW) := ⟨rfl, rfl, rfl, by decide +kernel, rfl, by decide +kernel, by decide +kernel⟩
theorem ok_ct {f : Addr} {fd : FuncData} (F : Fun K "_law_is_count" "_law_is_count" sCountW f fd) (M : SameG mg) : FnOk P w K mg base CX0 1 f fd ["_law_thing", "_law_top"] spCt := by
  refine F.ok scCt (fun vs H Q E h => ?_) (fun cdv A outer s H vs Q E hr h => ?_)
  · obtain ⟨b, v, d, t, rfl, _⟩ := h
    rfl
  obtain ⟨b, v, d, t, rfl, D, q⟩ := h
  refine ⟨_, pss_one (ps_ret (pe_and (pe_callB (id := "isinstance") call_isi (by rfl) M.isi (by decide +kernel) (pa_cons (pv 0) (pa_cons (pe_bltn (v := .ty "int") (by rfl) M.int (by decide +kernel) rfl) pa_nil)))
    (pe_and (pe_not (pe_callB (id := "isinstance") call_isi (by rfl) M.isi (by decide +kernel) (pa_cons (pv 0) (pa_cons (pe_bltn (v := .ty "bool") (by rfl) M.bool (by decide +kernel) rfl) pa_nil)))) (pe_one (pe_chain op_le op_lt pe_int (pv 0) (pv 1)))))), ?_⟩
  refine ⟨_, rfl, _, _, _, _, isI d, rfl, .ty "int", D.tyx, kitI d, isI d, rfl, ?_⟩
  cases d with
  | int n =>
    cases D.int_of
    refine iteT ⟨_, rfl, _, _, _, _, false, rfl, .ty "bool", D.tyx, kitB' _, false, rfl, true, rfl, iteT ?_⟩
    refine ⟨_, rfl, _, _, rfl, rfl, decide (0 ≤ n), rfl, ?_⟩
    cases e : decide (0 ≤ n) with
    | false => exact iteF (q _ ⟨(fun e => nomatch e), fun ⟨m, h, h1, _⟩ => by injection h with h; subst h; simp at e; omega⟩)
    | true => exact iteT ⟨_, rfl, _, _, rfl, rfl, q (decide (n < t)) ⟨fun h => ⟨n, rfl, by simpa using e, by simpa using h⟩, fun ⟨m, h, _, h2⟩ => by injection h with h; subst h; simpa using h2⟩⟩
  | bool c =>
    refine iteT ⟨_, rfl, _, _, _, _, true, rfl, .ty "bool", D.tyx, kitB' _, true, rfl, false, rfl, iteF ?_⟩
    exact q false ⟨(fun e => nomatch e), fun ⟨_, z, _⟩ => nomatch z⟩
  | _ => exact iteF (q false ⟨(fun e => nomatch e), fun ⟨_, z, _⟩ => nomatch z⟩)
theorem scTmW : FnScope ["_law_thing", "_law_part"] ["_law_thing"] (defScope sTermW) := ⟨rfl, rfl, rfl, by decide +kernel, rfl, by decide +kernel, by decide +kernel⟩
theorem ok_tmw {n : Nat} {f fC : Addr} {fd dC : FuncData} (F : Fun K "_law_is_term" "_law_is_term" sTermW f fd) (bF : Binds K fd ["_law_thing"] []) (mF : mg "_law_is_term" = some (.ref f))
    (GC : FnOk P w K mg base CX0 1 fC dC ["_law_thing", "_law_top"] spCt) (kC : PySem.W.keepIn K (.ref fC) = true) (bC : Binds K dC ["_law_thing", "_law_top"] []) (mC : mg "_law_is_count" = some (.ref fC))
    (G : FnOk P w K mg base CX0 n f fd ["_law_thing"] (spTmW n)) (M : SameG mg) : FnOk P w K mg base CX0 (n + 1) f fd ["_law_thing"] (spTmW (n + 1)) := by
  refine F.ok scTmW (fun vs H Q E h => ?_) (fun cdv A outer s H vs Q E hr h => ?_)
  · obtain ⟨b, v, d, rfl, _⟩ := h
    rfl
  obtain ⟨b, v, d, rfl, D, ok, hd, q⟩ := h
  have r1 : Room 1 _ := hr.mono (by omega)
  refine ⟨_, pss_cons (ps_if (pt_val (pe_callB (id := "isinstance") call_isi (by rfl) M.isi (by decide +kernel) (pa_cons (pv 0) (pa_cons (pe_bltn (v := .ty "int") (by rfl) M.int (by decide +kernel) rfl) pa_nil))))
      (pss_one (ps_ret (pe_call GC r1 rfl mC kC bC .nil pass0 (pa_cons (pv 0) (pa_cons pe_int pa_nil))))) pss_nil)
    (pss_cons (ps_if (PW.pt (pw_or (pt_not (pt_val (pe_callB (id := "isinstance") call_isi (by rfl) M.isi (by decide +kernel) (pa_cons (pv 0) (pa_cons (pe_bltn (v := .ty "tuple") (by rfl) M.tuple (by decide +kernel) rfl) pa_nil)))))
      (pw_or (pt_cmpR (op_eqD hr.units) (pv 0) (pe_tup pa_nil) (nomark _))
      (pw_or1 (pt_not (pt_val (pe_callB (id := "isinstance") call_isi (by rfl) M.isi (by decide +kernel) (pa_cons (pe_ix ix_tup (pv 0) pe_int (fun _ _ => rfl)) (pa_cons (pe_bltn (v := .ty "str") (by rfl) M.str (by decide +kernel) rfl) pa_nil)))))))))
      (pss_one (ps_ret pe_bl)) pss_nil)
    (pss_cons (ps_if (pt_cmpR op_ne (pe_callB call_len_seq (by rfl) M.len PySem.boot_len (pa_cons (pv 0) pa_nil))
        (pe_dget2 (hu_of hr) (pe_disp (pps_cons pe_str pe_int (pps_cons pe_str pe_int (pps_cons pe_str pe_int pps_nil))) rfl rfl (by simp) (by decide)) (pe_ix ix_tup (pv 0) pe_int (fun _ _ => rfl)) pe_int ⟨rfl, rfl, rfl, rfl⟩) (nomark _)) (pss_one (ps_ret pe_bl)) pss_nil)
    (pss_one (ps_ret (pe_callB (cr_all rfl) (by rfl) M.all (by decide +kernel) (pa_cons (pe_lc (own := [("_law_part", 1)]) (g := gName 1) (tt := tYes) (te := tCall (spTmW n) [] E0 (tCons (tVar 1) tNil)) rfl scTmW.nd
            (pi_tup (pe_slice sl_tup (pv 0) (po_some pe_int) po_none))
            (blkOk_by (N := ["_law_thing", "_law_part"]) (sc := defScope sTermW) (by decide +kernel)) (fun _ _ _ _ _ => pg_name (i := 1) scTmW.nd rfl (Or.inl rfl))
            (fun _ _ _ _ _ => pts_nil) (fun _ _ _ _ _ => pe_call G hr (by rfl) mF F.kp bF .nil pass0 (pa_cons (pv 1) pa_nil))) pa_nil)))))), ?_⟩
  refine ⟨_, rfl, _, _, _, _, isI d, rfl, .ty "int", D.tyx, kitI d, isI d, rfl, ?_⟩
  cases hi : isI d with
  | true => exact iteT ⟨_, rfl, b, v, d, 100, rfl, D, fun r hr1 => q r H (hr1.trans (isCt_T hi)) (Same.refl H)⟩
  | false =>
  refine iteF ?_
  have noInt : ∀ n, d ≠ .int n := fun n e => by subst e; cases hi
  have no : ∀ {H' : Hp}, Same H H' → ¬ Shaped d → Q (.bl false) H' := fun s h => q false _ ⟨(fun e => nomatch e), fun z => absurd z (isT_other h noInt)⟩ s
  refine ⟨_, rfl, _, _, _, _, isU d, rfl, .ty "tuple", D.tyx, kitU d, isU d, rfl, ?_⟩
  cases d with
  | tuple ds =>
    obtain ⟨a, xs, rfl, ha, A'⟩ := D.tup_of
    refine iteF ?_
    refine ⟨_, rfl, (by show 0 ≤ sizeLine; decide), fun p hp => ?_⟩
    have s1 := same_new hp (.tup ([] : List V))
    refine ⟨.tuple ds, .tuple [], (D.same s1).dp, .tup (.inl (.inl upd_same)) .nil, shaped_of ok.1 (by have := ok.2; omega), by decide +kernel, ds.isEmpty, congrArg V.bl eqv_nil, ?_⟩
    cases xs with
    | nil =>
      have e0 : ds = [] := by have := A'.len; cases ds with | nil => rfl | cons => simp at this
      subst e0
      refine iteT (no s1 ?_)
      rintro ⟨x, ds', e, _⟩
      injection e with e
      cases e
    | cons x0 xr =>
      obtain ⟨d0, dr, rfl, D0, Dr⟩ := A'.head
      refine iteF ?_
      have ha1 := ha.same s1
      refine ⟨_, rfl, a, _, _, _, rfl, rfl, .inl ha1, at_of (j := 0) rfl rfl, _, _, _, _, isS d0, rfl, .ty "str", (D0.same s1).tyx, kitS d0, isS d0, rfl, ?_⟩
      have shaped_no : (∀ x, d0 ≠ .str x) → ¬ Shaped (.tuple (d0 :: dr)) := by
        rintro no ⟨x', ds', e, h⟩
        injection e with e
        injection e with e1 e2
        exact no _ e1
      cases d0 with
      | str x =>
        refine iteF ?_
        cases D0.str_of
        refine ⟨_, rfl, a, _, rfl, .inr (.inl ha1), fun p2 hp2 => ?_⟩
        refine ⟨upd_same, arity, rfl, by decide, ?_⟩
        rw [upd_upd]
        have s3 := same_new hp2 (.dK (mergeK [] arity))
        have hp3 : (upd (upd H p (.tup ([] : List V))) p2 (.dK (mergeK [] arity))) p2 = some (.dK (mergeK [] arity)) := upd_same
        have s13 := s1.trans s3
        generalize upd (upd H p (.tup ([] : List V))) p2 (.dK (mergeK [] arity)) = H3 at s3 hp3 s13 ⊢
        have ha3 := ha.same s13
        refine ⟨p2, rfl, .inl ⟨_, .inl hp3⟩, _, rfl, a, _, _, _, rfl, rfl, .inl ha3, at_of (j := 0) rfl rfl, _, DGet.k (k := .inr x) hp3, ?_⟩
        rw [arity_at]
        have el := Dr.len
        have sh : (((V.str x :: xr).length : Nat) : Int) = (ar x : Nat) ↔ ((x = "0" ∧ dr.length = 0) ∨ (x = "s" ∧ dr.length = 1) ∨ (x = "f" ∧ dr.length = 2)) := by
          rw [List.length_cons, el, ← ar_shape]
          omega
        refine ⟨rfl, !decide (V.int (((V.str x :: xr).length : Nat) : Int) = V.int (ar x : Nat)), rfl, ?_⟩
        by_cases he : (((V.str x :: xr).length : Nat) : Int) = (ar x : Nat)
        · have hs := sh.mp he
          have ld : dr.length ≤ 2 := by rcases hs with ⟨_, h⟩ | ⟨_, h⟩ | ⟨_, h⟩ <;> omega
          rw [decide_eq_true (by rw [he])]
          refine iteF ?_
          refine ⟨_, rfl, 1, rfl, a, _, rfl, .inl ha3, cut_part _ _, fun p4 hp4 => ?_⟩
          rw [cut_tail]
          have s4 := same_new hp4 (.tup xr)
          have s14 := s13.trans s4
          refine ⟨p4, rfl, ⟨_, .inl (.inl upd_same)⟩, fun D5 hD5 => lc_pred (K := K) (b := b) (ds := dr) (Pd := IsT) (Nat.lt_succ_self 1) hD5 (.inl upd_same) (Dr.same s14) (by omega)
            (fun x' e H2 Q' he De _ k => ⟨b, x', e, rfl, De, ok.tup e (by simp [he]), ?_, k⟩) fun bs H2 hb2 all2 s5 => ?_⟩
          · have h1 : PyData.depthAll (.str x :: dr) + 1 + 1 < n + 1 := hd
            have := depthAll_iff.mp (Nat.le_refl (PyData.depthAll (.str x :: dr))) e (by simp [he])
            omega
          · refine ⟨D5, bs, rfl, .inl (.inl hb2), q _ _ ?_ (s14.trans s5)⟩
            rw [isT_shaped hs, all2]
        · rw [decide_eq_false (fun z => he (by injection z))]
          refine iteT (no s13 ?_)
          rintro ⟨x', ds', e, h⟩
          injection e with e
          injection e with e1 e2
          injection e1 with e1
          subst e1 e2
          exact he (sh.mpr h)
      | _ => exact iteT (no s1 (shaped_no (fun _ e => nomatch e)))
  | _ => exact iteT (no (Same.refl H) fun ⟨x, ds, e, _⟩ => nomatch e)
theorem tmw_ok {f fC : Addr} {fd dC : FuncData} (F : Fun K "_law_is_term" "_law_is_term" sTermW f fd) (bF : Binds K fd ["_law_thing"] []) (mF : mg "_law_is_term" = some (.ref f))
    (GC : FnOk P w K mg base CX0 1 fC dC ["_law_thing", "_law_top"] spCt) (kC : PySem.W.keepIn K (.ref fC) = true) (bC : Binds K dC ["_law_thing", "_law_top"] []) (mC : mg "_law_is_count" = some (.ref fC)) (M : SameG mg) :
    ∀ n : Nat, FnOk P w K mg base CX0 n f fd ["_law_thing"] (spTmW n)
  | 0 => none_left fun vs H Q E h => by
    obtain ⟨b, v, d, _, _, _, h, _⟩ := h
    omega
  | n + 1 => ok_tmw F bF mF GC kC bC mC (tmw_ok F bF mF GC kC bC mC M n) M
end
end Rp

set_option maxHeartbeats 8000000
/-! The law's own looks at NAMEs and ATOMs. -/
namespace Rp
open PySem PySem.Spec PyProof.Rows L2 TL RZ StX
theorem two_in {n : Nat} : inV (.int (n : Nat)) [.int 2, .int 3] = decide (n = 2 ∨ n = 3) := by
  have e : ∀ a : Nat, eqV (.int (a : Nat)) (.int (n : Nat)) = decide (n = a) := fun a => by unfold eqV; rw [Bool.eq_iff_iff]; simp; omega
  have e2 := e 2
  have e3 := e 3
  simp only [inV, List.any_cons, List.any_nil, Bool.or_false]
  rw [show (V.int 2) = .int ((2 : Nat) : Int) from rfl, show (V.int 3) = .int ((3 : Nat) : Int) from rfl, e2, e3, Bool.decide_or]
section
variable {P : Program} {w : World} {K : PySem.W.Frag} {mg : Str → Option Value} {base : Heap}
theorem scWordW : FnScope ["_law_thing", "_law_sign"] ["_law_thing"] (defScope sWordW) := ⟨rfl, rfl, rfl, by decide +kernel, rfl, by decide +kernel, by decide +kernel⟩
theorem ok_wordw {f : Addr} {fd : FuncData} (F : Fun K "_law_is_word" "_law_is_word" sWordW f fd) (M : SameG mg) : FnOk P w K mg base CX0 1 f fd ["_law_thing"] spIsNm := by
  refine F.ok scWordW (fun vs H Q E h => ?_) (fun cdv A outer s H vs Q E hr h => ?_)
  · obtain ⟨b, v, d, rfl, _⟩ := h
    rfl
  obtain ⟨b, v, d, rfl, D, sz, q⟩ := h
  refine ⟨_, pss_cons (ps_if (PW.pt (pw_or (pt_not (pt_val (pe_callB (id := "isinstance") call_isi (by rfl) M.isi (by decide +kernel) (pa_cons (pv 0) (pa_cons (pe_bltn (v := .ty "str") (by rfl) M.str (by decide +kernel) rfl) pa_nil)))))
      (pw_or (pt_not (pt_chain op_lt op_lt pe_int (pe_callB call_len_str (by rfl) M.len PySem.boot_len (pa_cons (pv 0) pa_nil)) pe_int))
      (pw_or1 (pt_cmpR op_eq (pv 0) pe_str (nomark _)))))) (pss_one (ps_ret pe_bl)) pss_nil)
    (pss_one (ps_ret (pe_callB (cr_all rfl) (by rfl) M.all (by decide +kernel) (pa_cons (pe_lc (own := [("_law_sign", 1)]) (g := gName 1) (tt := tYes) (te := tOp rInS (tVar 1) (tC (.str letters))) rfl scWordW.nd
        (pi_str (pv 0)) (blkOk_by (N := ["_law_thing", "_law_sign"]) (sc := defScope sWordW) (by decide +kernel)) (fun _ _ _ _ _ => pg_name (i := 1) scWordW.nd rfl (Or.inl rfl))
        (fun _ _ _ _ _ => pts_nil) (fun _ _ _ _ _ => pe_cmpR op_inS (pv 1) pe_str (by rfl))) pa_nil)))), ?_⟩
  have big : (2000000 : Nat) ≤ sizeLine := by decide
  have no : ∀ {H' : Hp}, Same H H' → ¬ IsNm d → Q (.bl false) H' := fun s h => q false _ ⟨(fun e => nomatch e), fun z => absurd z h⟩ s
  refine ⟨_, rfl, _, _, _, _, isS d, rfl, .ty "str", D.tyx, kitS d, isS d, rfl, ?_⟩
  cases d with
  | str x =>
    cases D.str_of
    have z1 := sz x rfl
    refine iteF ?_
    refine ⟨_, rfl, x, rfl, by omega, _, _, rfl, rfl, decide ((0 : Int) < (x.length : Nat)), rfl, ?_⟩
    by_cases h1 : (0 : Int) < (x.length : Nat)
    · rw [decide_eq_true h1]
      refine iteT ⟨_, _, rfl, rfl, decide (((x.length : Nat) : Int) < 7), rfl, ?_⟩
      by_cases h6 : ((x.length : Nat) : Int) < 7
      · rw [decide_eq_true h6]
        refine iteF ⟨_, rfl, rfl, decide (V.str x = V.str "if"), rfl, ?_⟩
        by_cases hif : x = "if"
        · rw [decide_eq_true (by rw [hif])]
          exact iteT (no (Same.refl H) fun z => (isNm_str.mp z).nif hif)
        · rw [decide_eq_false (fun z => hif (by injection z))]
          refine iteF ?_
          refine ⟨_, rfl, x, rfl, fun D hD => lc_it (walk_str (z := x)) (fun i H2 => H2 D = some (.lst ((((tl x).take i).map fun c => decide (c ∈ letters.cps.toList)).map V.bl)) ∧ Same H H2) ⟨upd_same, same_new hD _⟩ (fun _ _ _ _ => trivial) ?_ ?_⟩
          · rintro i y H2 H3 hi ⟨h2, s2⟩ ⟨rfl, c, hc, rfl⟩
            have li : x.cps.size = x.length := rfl
            have hc' : (tl x)[i]? = some c := by show x.cps.toList[i]? = some c; rw [Array.getElem?_toList]; exact hc
            have tk : (tl x).take (i + 1) = (tl x).take i ++ [c] := by rw [List.take_add_one, hc']; rfl
            refine ⟨rfl, ?_⟩
            refine ⟨_, rfl, c, letters, rfl, rfl, _, h2, ?_, ?_, ?_⟩
            · rw [List.length_map, List.length_map, List.length_take]; omega
            · rw [upd_same, tk, List.map_append, List.map_append]; rfl
            · intro a o z
              rw [upd_ne (ne_of_none z hD)]
              exact s2 _ _ z
          · rintro H2 ⟨h2, s2⟩
            have full : (tl x).take x.cps.size = tl x := List.take_of_length_le (by show x.cps.toList.length ≤ _; simp)
            rw [full] at h2
            refine ⟨D, (tl x).map fun c => decide (c ∈ letters.cps.toList), rfl, .inl (.inl h2), ?_⟩
            refine q _ H2 ?_ s2
            have e : ((tl x).map fun c => decide (c ∈ letters.cps.toList)).all id = lowB x := by unfold lowB; rw [List.all_map]; rfl
            rw [e, isNm_str, lowB_iff]
            exact ⟨fun h => ⟨by omega, by omega, h, hif⟩, fun h => h.low⟩
      · rw [decide_eq_false h6]
        exact iteT (no (Same.refl H) fun z => by have := (isNm_str.mp z).few; omega)
    · rw [decide_eq_false h1]
      exact iteF ⟨false, rfl, iteT (no (Same.refl H) fun z => by have := (isNm_str.mp z).pos; omega)⟩
  | _ => exact iteT (no (Same.refl H) fun ⟨_, z, _⟩ => nomatch z)
theorem scAtomW : FnScope ["_law_thing", "_law_part"] ["_law_thing"] (defScope sAtomW) := ⟨rfl, rfl, rfl, by decide +kernel, rfl, by decide +kernel, by decide +kernel⟩
theorem ok_atomw {f fN fT : Addr} {fd dN dT : FuncData} (F : Fun K "_law_is_atom" "_law_is_atom" sAtomW f fd)
    (GN : FnOk P w K mg base CX0 1 fN dN ["_law_thing"] spIsNm) (kN : PySem.W.keepIn K (.ref fN) = true) (bN : Binds K dN ["_law_thing"] []) (mN : mg "_law_is_word" = some (.ref fN))
    (GT : FnOk P w K mg base CX0 62 fT dT ["_law_thing"] (spTmW 62)) (kT : PySem.W.keepIn K (.ref fT) = true) (bT : Binds K dT ["_law_thing"] []) (mT : mg "_law_is_term" = some (.ref fT)) (M : SameG mg) : FnOk P w K mg base CX0 63 f fd ["_law_thing"] spIsAm := by
  refine F.ok scAtomW (fun vs H Q E h => ?_) (fun cdv A outer s H vs Q E hr h => ?_)
  · obtain ⟨b, v, d, rfl, _⟩ := h
    rfl
  obtain ⟨b, v, d, rfl, D, ok, sz, tx, q⟩ := h
  have r1 : Room 1 _ := hr.mono (by decide)
  refine ⟨_, pss_cons (ps_if (PW.pt (pw_or (pt_not (pt_val (pe_callB (id := "isinstance") call_isi (by rfl) M.isi (by decide +kernel) (pa_cons (pv 0) (pa_cons (pe_bltn (v := .ty "tuple") (by rfl) M.tuple (by decide +kernel) rfl) pa_nil)))))
      (pw_or (pt_cmpR op_notIn_seq (pe_callB call_len_seq (by rfl) M.len PySem.boot_len (pa_cons (pv 0) pa_nil)) (pe_tup (pa_cons pe_int (pa_cons pe_int pa_nil))) (by rfl))
      (pw_or1 (pt_not (pt_val (pe_call GN r1 rfl mN kN bN .nil pass0 (pa_cons (pe_ix ix_tup (pv 0) pe_int (fun _ _ => rfl)) pa_nil)))))))) (pss_one (ps_ret pe_bl)) pss_nil)
    (pss_one (ps_ret (pe_callB (cr_all rfl) (by rfl) M.all (by decide +kernel) (pa_cons (pe_lc (own := [("_law_part", 1)]) (g := gName 1) (tt := tYes) (te := tCall (spTmW 62) [] E0 (tCons (tVar 1) tNil)) rfl scAtomW.nd
        (pi_tup (pe_slice sl_tup (pv 0) (po_some pe_int) po_none)) (blkOk_by (N := ["_law_thing", "_law_part"]) (sc := defScope sAtomW) (by decide +kernel)) (fun _ _ _ _ _ => pg_name (i := 1) scAtomW.nd rfl (Or.inl rfl))
        (fun _ _ _ _ _ => pts_nil) (fun _ _ _ _ _ => pe_call GT hr (by rfl) mT kT bT .nil pass0 (pa_cons (pv 1) pa_nil))) pa_nil)))), ?_⟩
  have no : ∀ {H' : Hp}, Same H H' → ¬ IsAm d → Q (.bl false) H' := fun s h => q false _ ⟨(fun e => nomatch e), fun z => absurd z h⟩ s
  refine ⟨_, rfl, _, _, _, _, isU d, rfl, .ty "tuple", D.tyx, kitU d, isU d, rfl, ?_⟩
  cases d with
  | tuple ds =>
    obtain ⟨a, xs, rfl, ha, Ax⟩ := D.tup_of
    have xl := Ax.len
    refine iteF ?_
    refine ⟨_, rfl, a, _, rfl, .inr (.inl ha), (by show 2 ≤ sizeLine; decide), fun g hg => ⟨g, _, rfl, .inr (.inl (.inl upd_same)), rfl, rfl, !decide (xs.length = 2 ∨ xs.length = 3), by rw [← two_in]; rfl, ?_⟩⟩
    have s1 := same_new hg (.tup [V.int 2, .int 3])
    generalize upd H g (.tup [V.int 2, .int 3]) = H1 at s1 ⊢
    by_cases h2 : xs.length = 2 ∨ xs.length = 3
    · rw [decide_eq_true h2]
      refine iteF ?_
      match ds, xs, Ax, xl, h2 with
      | [], [], _, _, h2 => exact absurd h2 (by decide)
      | d0 :: es, x0 :: ys, Ax, xl, h2 =>
        obtain ⟨_, _, e', D0, A1⟩ := Ax.head
        injection e' with e1 e2
        subst e1 e2
        have yl := A1.len
        rw [List.length_cons] at h2
        refine ⟨_, rfl, a, _, _, _, rfl, rfl, .inl (ha.same s1), at_of (j := 0) rfl rfl, b, x0, d0, rfl, D0.same s1, fun x e => tx x es (by rw [e]), fun r H2 hr1 s2 => ⟨r, rfl, ?_⟩⟩
        have s12 := s1.trans s2
        cases r with
        | false =>
          refine iteT (no s12 fun z => ?_)
          have := hr1.mpr (isAm_cons.mp z).1
          cases this
        | true =>
          refine iteF ?_
          refine ⟨_, rfl, 1, rfl, a, _, rfl, .inl (ha.same s12), cut_part _ _, fun g2 hg2 => ?_⟩
          rw [cut_tail]
          have s3 := same_new hg2 (.tup ys)
          have s13 := s12.trans s3
          refine ⟨g2, rfl, ⟨_, .inl (.inl upd_same)⟩, fun D1 hD => lc_pred (K := K) (b := b) (ds := es) (Pd := IsT) (Nat.lt_succ_self 1) hD (.inl upd_same) (A1.same s13) (by omega)
            (fun x e H3 Q' he De _ k => ⟨b, x, e, rfl, De, ok.tup e (by simp [he]), by have := (ok.tup e (by simp [he])).2; omega, k⟩) fun bs H3 hb2 all2 s4 => ?_⟩
          refine ⟨D1, bs, rfl, .inl (.inl hb2), q _ H3 ?_ (s13.trans s4)⟩
          rw [all2, isAm_cons]
          exact ⟨fun h => ⟨hr1.mp rfl, by omega, by omega, h⟩, fun h => h.2.2.2⟩
    · rw [decide_eq_false h2]
      exact iteT (no s1 (isAm_len (by omega)))
  | _ => exact iteT (no (Same.refl H) fun ⟨_, _, z, _⟩ => nomatch z)
end
end Rp

set_option maxHeartbeats 8000000
/-! The law's own looks at SAYINGs. -/
namespace Rp
open PySem PySem.Spec PyProof.Rows L2 TL RZ StX
theorem unlG_nd : ∀ {as acc : List At}, (∀ a ∈ as, a ∉ acc) → as.Nodup → unlG acc as = acc ++ as
  | [], acc, _, _ => by simp [unlG]
  | a :: as, acc, h1, h2 => by
    have e : unlG acc (a :: as) = unlG (if a ∈ acc then acc else acc ++ [a]) as := rfl
    rw [List.nodup_cons] at h2
    rw [e, if_neg (h1 a (by simp)), unlG_nd (fun x hx hm => ?_) h2.2]
    · simp
    · rcases List.mem_append.mp hm with hm | hm
      · exact h1 x (by simp [hx]) hm
      · obtain rfl : x = a := by simpa using hm
        exact h2.1 hx
theorem unl_id {as : List At} : unl as = as ↔ as.Nodup := by
  constructor
  · intro h
    rw [← unl_len, h]
  · intro h
    have := unlG_nd (as := as) (acc := []) (by simp) h
    show unlG [] as = as
    rw [this]
    rfl
theorem eqv_ats : ∀ {as bs : List At}, PyData.eqvAll (as.map atD) (bs.map atD) = true ↔ as = bs
  | [], [] => by simp [PyData.eqvAll]
  | [], _ :: _ => by simp [PyData.eqvAll]
  | _ :: _, [] => by simp [PyData.eqvAll]
  | t :: ts, u :: us => by rw [List.map_cons, List.map_cons, eqvAll_cons, Bool.and_eq_true, eqv_at, eqv_ats]; simp
theorem lay_tup {k : Nat} {ds : List PyData} (h : ∀ d ∈ ds, okD d) : SeqAt.shaped (.tuple ds) = true := by
  have z := lay_all h
  refine shaped_of ?_ ?_
  · show PyData.canLayAll0 _ = true
    exact z.1
  · show PyData.depthAll _ + 1 ≤ 64
    omega
section
variable {P : Program} {w : World} {K : PySem.W.Frag} {mg : Str → Option Value} {base : Heap}
theorem scUnlikeL : FnScope ["_law_atoms", "_law_found", "_law_atom_here"] ["_law_atoms"] (defScope sUnlikeL) := ⟨rfl, rfl, rfl, by decide +kernel, rfl, by decide +kernel, by decide +kernel⟩
theorem ok_unlW {f : Addr} {fd : FuncData} (F : Fun K "_law_unlike" "_law_unlike" sUnlikeL f fd) (mTuple : mg "tuple" = none) : FnOk P w K mg base CX0 1 f fd ["_law_atoms"] spUnl := by
  refine F.ok scUnlikeL (fun vs H Q E h => ?_) (fun cdv A outer s H vs Q E hr h => ?_)
  · obtain ⟨b, q, xs, as, rfl, _⟩ := h
    rfl
  obtain ⟨b, q, xs, as, rfl, hq, A1, ok, few, fin⟩ := h
  refine ⟨_, pss_cons (ps_set (i := 1) scUnlikeL.nd rfl (Or.inl rfl) (pe_lst pa_nil))
    (pss_cons (ps_for PassesOwn.never rfl (pi_tup (pv 0)) (pg_name (i := 2) scUnlikeL.nd rfl (Or.inl rfl))
      (pss_one (ps_if (pt_cmpR (op_notInD (hu65 hr)) (pv 2) (pv 1) (by rfl)) (pss_one (ps_expr (pe_bm PySem.F.plainAttrs_list PySem.F.slot_list_append PySem.F.type_list_append mt_append (pv 1) (pa_cons (pv 2) pa_nil)))) pss_nil)))
    (pss_one (ps_ret (pe_callTy call_tuple_of (by rfl) mTuple (by decide +kernel) (pa_cons (pv 1) pa_nil))))), ?_⟩
  have big : (2000000 : Nat) ≤ sizeLine := by decide
  have xl := A1.len
  rw [List.length_map] at xl
  refine ⟨(by show 0 ≤ sizeLine; decide), fun l hl => ?_⟩
  have s1 := same_new hl (.lst ([] : List V))
  have hq1 := hq.same s1
  refine ⟨_, rfl, q, rfl, ⟨_, .inl hq1⟩, for_tup (K := K) (a := q) (xs := xs) (fun i σ H2 => ∃ (x2 : Option V) (ys : List V), σ = [some (.ref q), some (.ref l), x2] ∧ H2 l = some (.lst ys) ∧ DAtAll H b ys ((unl (as.take i)).map atD) ∧ Same H H2)
    ⟨none, [], rfl, upd_same, DAtAll.nil, s1⟩ (fun i σ H2 _ ⟨_, _, _, _, _, h⟩ => .inl (hq.same h)) ?_ ?_⟩
  · rintro i x σ H2 hi ⟨x2, ys, rfl, h2, Y2, s2⟩
    obtain ⟨d, hd, T⟩ := A1.get hi
    rw [List.getElem?_map] at hd
    obtain ⟨a, ha, rfl⟩ := Option.map_eq_some_iff.mp hd
    have am := List.mem_of_getElem? ha
    have li : i < as.length := (List.getElem?_eq_some_iff.mp ha).1
    have yl := Y2.len
    rw [List.length_map] at yl
    have ul := unl_le (as := as.take i)
    rw [List.length_take] at ul
    have tk : unl (as.take (i + 1)) = if a ∈ unl (as.take i) then unl (as.take i) else unl (as.take i) ++ [a] := by rw [List.take_add_one, ha]; exact unl_snoc
    refine ⟨_, rfl, _, rfl, atD a, (unl (as.take i)).map atD, (T.same s2).dp, .lst (.inl (.inl h2)) (Y2.same s2).dp, shaped_of (ok a am).1 (by have := (ok a am).2; omega), lay_list fun e he => ?_, !decide (a ∈ unl (as.take i)), by rw [in_ats], ?_⟩
    · obtain ⟨c, hc, rfl⟩ := List.mem_map.mp he
      exact ok c (List.mem_of_mem_take (mem_unl hc))
    by_cases hm : a ∈ unl (as.take i)
    · rw [decide_eq_true hm]
      rw [if_pos hm] at tk
      exact iteF ⟨_, ys, rfl, h2, by rw [tk]; exact Y2, s2⟩
    · rw [decide_eq_false hm]
      rw [if_neg hm] at tk
      refine iteT ?_
      refine ⟨_, rfl, .inl ⟨rfl, _, .inl (.inl h2)⟩, _, rfl, l, _, _, rfl, rfl, h2, by omega, ?_⟩
      have s3 : Same H (upd H2 l (.lst (ys ++ [x]))) := fun c o z => by rw [upd_ne (ne_of_none z hl)]; exact s2 _ _ z
      refine ⟨_, ys ++ [x], rfl, upd_same, ?_, s3⟩
      rw [tk, List.map_append]
      exact Y2.append (.cons T .nil)
  · rintro σ H2 ⟨x2, ys, rfl, h2, Y2, s2⟩
    rw [List.take_of_length_le (by omega)] at Y2
    exact ⟨_, rfl, l, _, rfl, .inl ⟨.inl (.inl h2), fun p hp => fin p _ _ upd_same (Y2.same (s2.trans (same_new hp _))) (s2.trans (same_new hp _))⟩⟩
theorem scSayW : FnScope ["_law_thing", "_law_hyp"] ["_law_thing"] (defScope sSayingW) := ⟨rfl, rfl, rfl, by decide +kernel, rfl, by decide +kernel, by decide +kernel⟩
theorem ok_sayw {f fA fU : Addr} {fd dA dU : FuncData} (F : Fun K "_law_is_saying" "_law_is_saying" sSayingW f fd)
    (GA : FnOk P w K mg base CX0 63 fA dA ["_law_thing"] spIsAm) (kA : PySem.W.keepIn K (.ref fA) = true) (bA : Binds K dA ["_law_thing"] []) (mA : mg "_law_is_atom" = some (.ref fA))
    (GU : FnOk P w K mg base CX0 1 fU dU ["_law_atoms"] spUnl) (kU : PySem.W.keepIn K (.ref fU) = true) (bU : Binds K dU ["_law_atoms"] []) (mU : mg "_law_unlike" = some (.ref fU)) (M : SameG mg) : FnOk P w K mg base CX0 64 f fd ["_law_thing"] spIsSy := by
  refine F.ok scSayW (fun vs H Q E h => ?_) (fun cdv A outer s H vs Q E hr h => ?_)
  · obtain ⟨b, v, d, rfl, _⟩ := h
    rfl
  obtain ⟨b, v, d, rfl, D, ok, q⟩ := h
  have r1 : Room 1 _ := hr.mono (by decide)
  refine ⟨_, pss_cons (ps_if (PW.pt (pw_or (pt_not (pt_val (pe_callB (id := "isinstance") call_isi (by rfl) M.isi (by decide +kernel) (pa_cons (pv 0) (pa_cons (pe_bltn (v := .ty "tuple") (by rfl) M.tuple (by decide +kernel) rfl) pa_nil)))))
      (pw_or (pt_cmpR op_ne (pe_callB call_len_seq (by rfl) M.len PySem.boot_len (pa_cons (pv 0) pa_nil)) pe_int (nomark _))
      (pw_or (pt_not (pt_val (pe_callB (id := "isinstance") call_isi (by rfl) M.isi (by decide +kernel) (pa_cons (pe_ix ix_tup (pv 0) pe_int (fun _ _ => rfl)) (pa_cons (pe_bltn (v := .ty "tuple") (by rfl) M.tuple (by decide +kernel) rfl) pa_nil)))))
      (pw_or1 (pt_cmpR op_gt (pe_callB call_len_seq (by rfl) M.len PySem.boot_len (pa_cons (pe_ix ix_tup (pv 0) pe_int (fun _ _ => rfl)) pa_nil)) pe_int (nomark _))))))) (pss_one (ps_ret pe_bl)) pss_nil)
    (pss_cons (ps_if (PW.pt (pw_or (pt_not (pt_val (pe_callB (cr_all rfl) (by rfl) M.all (by decide +kernel) (pa_cons (pe_lc (own := [("_law_hyp", 1)]) (g := gName 1) (tt := tYes) (te := tCall spIsAm [] E0 (tCons (tVar 1) tNil)) rfl scSayW.nd
        (pi_tup (pe_ix ix_tup (pv 0) pe_int (fun _ _ => rfl))) (blkOk_by (N := ["_law_thing", "_law_hyp"]) (sc := defScope sSayingW) (by decide +kernel)) (fun _ _ _ _ _ => pg_name (i := 1) scSayW.nd rfl (Or.inl rfl))
        (fun _ _ _ _ _ => pts_nil) (fun _ _ _ _ _ => pe_call GA hr (by rfl) mA kA bA .nil pass0 (pa_cons (pv 1) pa_nil))) pa_nil))))
      (pw_or1 (pt_not (pt_val (pe_call GA hr (by rfl) mA kA bA .nil pass0 (pa_cons (pe_ix ix_tup (pv 0) pe_int (fun _ _ => rfl)) pa_nil))))))) (pss_one (ps_ret pe_bl)) pss_nil)
    (pss_one (ps_ret (pe_cmpR (op_eqD hr.units) (pe_call GU r1 (by rfl) mU kU bU .nil pass0 (pa_cons (pe_ix ix_tup (pv 0) pe_int (fun _ _ => rfl)) pa_nil)) (pe_ix ix_tup (pv 0) pe_int (fun _ _ => rfl)) (nomark _))))), ?_⟩
  have no : ∀ {H' : Hp}, Same H H' → ¬ IsSy d → Q (.bl false) H' := fun s h => q false _ ⟨(fun e => nomatch e), fun z => absurd z h⟩ s
  refine ⟨_, rfl, _, _, _, _, isU d, rfl, .ty "tuple", D.tyx, kitU d, isU d, rfl, ?_⟩
  cases d with
  | tuple ds =>
    obtain ⟨p, xs, rfl, hp, A'⟩ := D.tup_of
    have el := A'.len
    refine iteF ?_
    refine ⟨_, rfl, p, _, rfl, .inr (.inl hp), rfl, !decide (V.int ((xs.length : Nat) : Int) = V.int 2), rfl, ?_⟩
    by_cases h2 : xs.length = 2
    · rw [decide_eq_true (by rw [h2]; rfl)]
      refine iteF ?_
      match ds, xs, A', h2 with
      | [dh, dg], [x0, x1], A', _ =>
        obtain ⟨_, _, e', D0, A1⟩ := A'.head
        injection e' with e1 e2
        subst e1 e2
        obtain ⟨_, _, e', D1, _⟩ := A1.head
        injection e' with e1 e2
        subst e1
        have ok0 := ok.tup dh (by simp)
        have ok1 := ok.tup dg (by simp)
        refine ⟨_, rfl, p, _, _, _, rfl, rfl, .inl hp, at_of (j := 0) rfl rfl, _, _, _, _, isU dh, rfl, .ty "tuple", D0.tyx, kitU dh, isU dh, rfl, ?_⟩
        cases dh with
        | tuple hs =>
          obtain ⟨u, ys, rfl, hu, Y⟩ := D0.tup_of
          have yl := Y.len
          refine iteF ?_
          refine ⟨_, rfl, p, _, _, _, rfl, rfl, .inl hp, at_of (j := 0) rfl rfl, u, _, rfl, .inr (.inl hu), _, _, rfl, rfl, decide ((6 : Int) < (ys.length : Nat)), rfl, ?_⟩
          by_cases h6 : (6 : Int) < (ys.length : Nat)
          · rw [decide_eq_true h6]
            exact iteT (no (Same.refl H) fun z => by have := (isSy_two.mp z).few; omega)
          · rw [decide_eq_false h6]
            refine iteF ?_
            have big : (2000000 : Nat) ≤ sizeLine := by decide
            refine ⟨_, rfl, p, _, _, _, rfl, rfl, .inl hp, at_of (j := 0) rfl rfl, u, rfl, ⟨_, .inl hu⟩, fun DD hD => lc_pred (K := K) (b := b) (ds := hs) (Pd := IsAm) (by show 1 < 2; decide) hD hu Y (by omega)
              (fun x e H2 Q' he De _ k => ⟨b, x, e, rfl, De, (ok0.tup e he).ok, (ok0.tup e he).sz, (ok0.tup e he).sh.am, k⟩) fun bs H2 hb2 all2 s2 => ⟨DD, bs, rfl, .inl (.inl hb2), bs.all id, rfl, ?_⟩⟩
            by_cases ha : bs.all id = true
            · rw [ha]
              refine iteF ⟨_, rfl, p, _, _, _, rfl, rfl, .inl (hp.same s2), at_of (j := 1) rfl rfl, b, x1, dg, rfl, D1.same s2, ok1.ok, ok1.sz, ok1.sh.am, fun r H3 hr3 s3 => ⟨r, rfl, ?_⟩⟩
              have s23 := s2.trans s3
              cases r with
              | false =>
                refine iteT (no s23 fun z => ?_)
                have := hr3.mpr (isSy_two.mp z).g
                cases this
              | true =>
                refine iteF ?_
                have each := all2.mp ha
                obtain ⟨as, rfl, aok⟩ := ats_of each
                rw [List.length_map] at yl
                have oka : ∀ a ∈ as, okD (atD a) := fun a ha => (ok0.tup _ (List.mem_map.mpr ⟨a, ha, rfl⟩)).ok
                refine ⟨_, rfl, p, _, _, _, rfl, rfl, .inl (hp.same s23), at_of (j := 0) rfl rfl, b, u, ys, as, rfl, hu.same s23, Y.same s23, oka, by omega, fun o zs H4 ho Z s4 => ?_⟩
                have s24 := s23.trans s4
                refine ⟨_, rfl, p, _, _, _, rfl, rfl, .inl (hp.same s24), at_of (j := 0) rfl rfl, .tuple ((unl as).map atD), .tuple (as.map atD), .tup (.inl (.inl ho)) Z.dp, .tup (.inl (hu.same s24)) (Y.same s24).dp, lay_tup (k := 0) (fun d hd => ?_), lay_tup (k := 0) (fun d hd => ?_), q _ H4 ?_ s24⟩
                · obtain ⟨a, ha, rfl⟩ := List.mem_map.mp hd
                  exact oka a (mem_unl ha)
                · obtain ⟨a, ha, rfl⟩ := List.mem_map.mp hd
                  exact oka a ha
                · rw [eqv_tup, eqv_ats, unl_id, isSy_two]
                  exact ⟨fun h => ⟨by rw [List.length_map]; omega, each, hr3.mp rfl, nodup_atD.mpr h⟩, fun h => nodup_atD.mp h.nd⟩
            · rw [Bool.not_eq_true] at ha
              rw [ha]
              refine iteT (no s2 fun z => ?_)
              have := all2.mpr (isSy_two.mp z).am
              rw [ha] at this
              cases this
        | _ => exact iteT (no (Same.refl H) fun ⟨_, _, z, _⟩ => nomatch z)
    · rw [decide_eq_false (by intro e; injection e with e; omega)]
      exact iteT (no (Same.refl H) (isSy_len (by omega)))
  | _ => exact iteT (no (Same.refl H) fun ⟨_, _, z, _⟩ => nomatch z)
end
end Rp

set_option maxHeartbeats 8000000
/-! The law's own look at BINDINGs. -/
namespace Rp
open PySem PySem.Spec PyProof.Rows L2 TL RZ StX
theorem adjB_two {x y : Int} {r : List Int} : adjB (x :: y :: r) = true ↔ x < y ∧ adjB (y :: r) = true := by
  unfold adjB
  simp only [List.length_cons, Nat.add_sub_cancel]
  rw [List.range_succ_eq_map, List.all_cons, Bool.and_eq_true, List.all_map]
  refine and_congr ?_ ?_
  · exact decide_eq_true_iff
  · exact Iff.rfl
theorem adjB_up : ∀ {ks : List Int}, adjB ks = true ↔ ks.Pairwise (· < ·)
  | [] => by simp [adjB]
  | [x] => by simp [adjB]
  | x :: y :: r => by
    rw [adjB_two, adjB_up (ks := y :: r), List.pairwise_cons (a := x)]
    constructor
    · rintro ⟨h, p⟩
      refine ⟨fun z hz => ?_, p⟩
      rcases List.mem_cons.mp hz with rfl | hz
      · exact h
      · exact Int.lt_trans h ((List.pairwise_cons.mp p).1 z hz)
    · rintro ⟨h, p⟩
      exact ⟨h y (by simp), p⟩
theorem up_ext : ∀ {a b : List Int}, a.Pairwise (· < ·) → b.Pairwise (· < ·) → (∀ k, k ∈ a ↔ k ∈ b) → a = b
  | [], [], _, _, _ => rfl
  | [], y :: b, _, _, h => absurd ((h y).mpr (by simp)) (by simp)
  | x :: a, [], _, _, h => absurd ((h x).mp (by simp)) (by simp)
  | x :: a, y :: b, p, q, h => by
    have p' := List.pairwise_cons.mp p
    have q' := List.pairwise_cons.mp q
    have xy : x = y := by
      have h1 := (h x).mp (by simp)
      have h2 := (h y).mpr (by simp)
      rcases List.mem_cons.mp h1 with h1 | h1
      · exact h1
      · rcases List.mem_cons.mp h2 with h2 | h2
        · exact h2.symm
        · have := p'.1 y h2
          have := q'.1 x h1
          omega
    subst xy
    rw [up_ext p'.2 q'.2 fun k => ?_]
    constructor
    · intro hk
      rcases List.mem_cons.mp ((h k).mp (by simp [hk])) with e | e
      · have := p'.1 k hk; omega
      · exact e
    · intro hk
      rcases List.mem_cons.mp ((h k).mpr (by simp [hk])) with e | e
      · have := q'.1 k hk; omega
      · exact e
def intsD (ns : List Int) : PyData := .list (ns.map PyData.int)
theorem eqvAll_ints : ∀ {a b : List Int}, PyData.eqvAll (a.map PyData.int) (b.map PyData.int) = true ↔ a = b
  | [], [] => by simp [PyData.eqvAll]
  | [], _ :: _ => by simp [PyData.eqvAll]
  | _ :: _, [] => by simp [PyData.eqvAll]
  | t :: ts, u :: us => by rw [List.map_cons, List.map_cons, eqvAll_cons, Bool.and_eq_true, eqv_int, eqvAll_ints]; simp
theorem eqv_ints {a b : List Int} : PyData.eqv (intsD a) (intsD b) = true ↔ a = b := by
  unfold intsD
  rw [show PyData.eqv (.list (a.map PyData.int)) (.list (b.map PyData.int)) = PyData.eqvAll (a.map PyData.int) (b.map PyData.int) by simp only [PyData.eqv], eqvAll_ints]
theorem ints_dp {K : PySem.W.Frag} {H : Hp} : ∀ {ns : List Int}, DpAll K H (ns.map V.int) (ns.map PyData.int)
  | [] => .nil
  | n :: ns => .cons (.int n) ints_dp
theorem ints_shaped (ns : List Int) : SeqAt.shaped (intsD ns) = true := by
  refine lay_list fun d hd => ?_
  obtain ⟨n, _, rfl⟩ := List.mem_map.mp hd
  exact ⟨rfl, by show 0 ≤ 60; omega⟩
abbrev NBw : List Str := ["_law_thing", "_law_pair", "_law_spots"]
def spBdW : Sp := fun vs H Q _ => ∃ (b : Addr) (v : V) (d : PyData), vs = [v] ∧ DAt H b v d ∧ DOk d ∧ ∀ (r : Bool) (H' : Hp), (r = true ↔ IsBdD d) → Same H H' → Q (.bl r) H'
section
variable {P : Program} {w : World} {K : PySem.W.Frag} {mg : Str → Option Value} {base : Heap}
theorem scBdW : FnScope NBw ["_law_thing"] (defScope sBindingW) := ⟨rfl, rfl, rfl, by decide +kernel, rfl, by decide +kernel, by decide +kernel⟩
theorem ok_bdw {f fC fT : Addr} {fd dC dT : FuncData} (F : Fun K "_law_is_binding" "_law_is_binding" sBindingW f fd)
    (GC : FnOk P w K mg base CX0 1 fC dC ["_law_thing", "_law_top"] spCt) (kC : PySem.W.keepIn K (.ref fC) = true) (bC : Binds K dC ["_law_thing", "_law_top"] []) (mC : mg "_law_is_count" = some (.ref fC))
    (GT : FnOk P w K mg base CX0 62 fT dT ["_law_thing"] (spTmW 62)) (kT : PySem.W.keepIn K (.ref fT) = true) (bT : Binds K dT ["_law_thing"] []) (mT : mg "_law_is_term" = some (.ref fT))
    (mSorted : mg "sorted" = none) (mSet : mg "set" = none) (M : SameG mg) : FnOk P w K mg base CX0 63 f fd ["_law_thing"] spBdW := by
  refine F.ok scBdW (fun vs H Q E h => ?_) (fun cdv A outer s H vs Q E hr h => ?_)
  · obtain ⟨b, v, d, rfl, _⟩ := h
    rfl
  obtain ⟨b, v, d, rfl, D, ok, q⟩ := h
  have r1 : Room 1 _ := hr.mono (by decide)
  refine ⟨_, (pss_cons (ps_if (pt_not (pt_val (pe_callB (id := "isinstance") call_isi (by rfl) M.isi (by decide +kernel) (pa_cons (pv 0) (pa_cons (pe_bltn (v := .ty "tuple") (by rfl) M.tuple (by decide +kernel) rfl) pa_nil))))) (pss_one (ps_ret pe_bl)) pss_nil)
    (pss_cons (ps_for PassesOwn.never rfl (pi_tup (pv 0)) (pg_name (i := 1) scBdW.nd rfl (Or.inl rfl))
      (pss_cons (ps_if (PW.pt (pw_or (pt_not (pt_val (pe_callB (id := "isinstance") call_isi (by rfl) M.isi (by decide +kernel) (pa_cons (pv 1) (pa_cons (pe_bltn (v := .ty "tuple") (by rfl) M.tuple (by decide +kernel) rfl) pa_nil))))) (pw_or1 (pt_cmpR op_ne (pe_callB call_len_seq (by rfl) M.len PySem.boot_len (pa_cons (pv 1) pa_nil)) pe_int (nomark _))))) (pss_one (ps_ret pe_bl)) pss_nil)
      (pss_one (ps_if (PW.pt (pw_or (pt_not (pt_val (pe_call GC r1 rfl mC kC bC .nil pass0 (pa_cons (pe_ix ix_tup (pv 1) pe_int (fun _ _ => rfl)) (pa_cons pe_int pa_nil))))) (pw_or1 (pt_not (pt_val (pe_call GT hr rfl mT kT bT .nil pass0 (pa_cons (pe_ix ix_tup (pv 1) pe_int (fun _ _ => rfl)) pa_nil))))))) (pss_one (ps_ret pe_bl)) pss_nil))))
    (pss_cons (ps_setLc (i := 2) (own := [("_law_pair", 1)]) (g := gName 1) (tt := tYes) (te := tOp (rIxT K) (tVar 1) (tC (.int 0))) rfl scBdW.nd rfl rfl (by rfl) (pi_tup (pv 0)) (blkOk_by (N := NBw) (sc := defScope sBindingW) (by decide +kernel))
        (fun _ _ _ _ _ => pg_name (i := 1) scBdW.nd rfl (Or.inl rfl)) (fun _ _ _ _ _ => pts_nil) (fun _ _ _ _ _ => pe_ix ix_tup (pv 1) pe_int (fun _ _ => rfl)))
    (pss_one (ps_ret (pe_cmpR (op_eqD hr.units) (pv 2) (pe_callB (cr_sortedSet rfl) (by rfl) mSorted (by decide +kernel) (pa_cons (pe_callTy (cr_setI rfl) (by rfl) mSet (by decide +kernel) (pa_cons (pv 2) pa_nil)) pa_nil)) (nomark _))))))), ?_⟩
  refine ⟨_, rfl, _, _, _, _, isU d, rfl, .ty "tuple", D.tyx, kitU d, isU d, rfl, ?_⟩
  cases d with
  | tuple ds =>
    obtain ⟨a, xs, rfl, ha, A'⟩ := D.tup_of
    have el := A'.len
    have few : ds.length ≤ 60 := ok.sh.wide
    have big : (2000000 : Nat) ≤ sizeLine := by decide
    refine iteF ?_
    refine ⟨_, rfl, a, rfl, ⟨_, .inl ha⟩, for_tup (K := K) (a := a) (xs := xs) (fun i σ H2 => ∃ c1 : Option V, σ = [some (.ref a), c1, none] ∧ (∀ e ∈ ds.take i, IsPr e) ∧ Same H H2)
      ⟨_, rfl, by simp, Same.refl H⟩ (fun i σ H2 _ ⟨_, _, _, s⟩ => .inl (ha.same s)) ?_ ?_⟩
    · rintro i x σ H2 hi ⟨c1, rfl, prs, s2⟩
      obtain ⟨e, he, De⟩ := A'.get hi
      have em := List.mem_of_getElem? he
      have De := De.same s2
      have oke := ok.tup e em
      have no : ∀ {H3 : Hp}, ¬ IsPr e → Same H H3 → Q (.bl false) H3 := fun h s => q false _ ⟨(fun e => nomatch e), fun z => absurd ((isBd_tup.mp z).1 e em) h⟩ s
      have tk : ds.take (i + 1) = ds.take i ++ [e] := by rw [List.take_add_one, he]; rfl
      refine ⟨_, rfl, _, _, _, _, isU e, rfl, .ty "tuple", De.tyx, kitU e, isU e, rfl, ?_⟩
      cases e with
      | tuple es =>
        obtain ⟨p, ys, rfl, hp, Ae⟩ := De.tup_of
        have yl := Ae.len
        refine iteF ?_
        refine ⟨_, rfl, p, _, rfl, .inr (.inl hp), rfl, !decide (V.int ((ys.length : Nat) : Int) = V.int 2), rfl, ?_⟩
        by_cases h2 : ys.length = 2
        · rw [decide_eq_true (by rw [h2]; rfl)]
          refine iteF ?_
          match es, ys, Ae, h2 with
          | [d0, d1], [y0, y1], Ae, _ =>
            obtain ⟨_, _, e', D0, A1⟩ := Ae.head
            injection e' with e1 e2
            subst e1 e2
            obtain ⟨_, _, e', D1, _⟩ := A1.head
            injection e' with e1 e2
            subst e1
            have ok0 := oke.tup d0 (by simp)
            have ok1 := oke.tup d1 (by simp)
            refine ⟨_, rfl, p, _, _, _, rfl, rfl, .inl hp, at_of (j := 0) rfl rfl, b, y0, d0, 100, rfl, D0, fun r0 hr0 => ⟨r0, rfl, ?_⟩⟩
            cases r0 with
            | false =>
              refine iteT (no (fun ⟨n, z, h, n0, n9, _⟩ => ?_) s2)
              injection h with h
              injection h with h _
              have := hr0.mpr ⟨n, h, n0, by omega⟩
              cases this
            | true =>
              obtain ⟨n, rfl, n0, n9⟩ := hr0.mp rfl
              refine iteF ⟨_, rfl, p, _, _, _, rfl, rfl, .inl hp, at_of (j := 1) rfl rfl, b, y1, d1, rfl, D1, ok1.ok, by have := ok1.ok.2; omega, fun r1 H4 hr1 s4 => ⟨r1, rfl, ?_⟩⟩
              cases r1 with
              | false =>
                refine iteT (no (fun ⟨n, z, h, _, _, h5⟩ => ?_) (s2.trans s4))
                injection h with h
                injection h with _ h
                injection h with h _
                have := hr1.mpr (h ▸ h5)
                cases this
              | true =>
                refine iteF ⟨_, rfl, fun e' he' => ?_, s2.trans s4⟩
                rw [tk] at he'
                rcases List.mem_append.mp he' with z | z
                · exact prs e' z
                · rw [List.mem_singleton.mp z]; exact ⟨n, d1, rfl, n0, by omega, hr1.mp rfl⟩
        · rw [decide_eq_false (fun z => h2 (by injection z with z; omega))]
          exact iteT (no (isPr_two (by omega)) s2)
      | _ => exact iteT (no (fun ⟨_, _, z, _⟩ => nomatch z) s2)
    · rintro σ H2 ⟨c1, rfl, prs, s2⟩
      rw [el, List.take_length] at prs
      have ha2 := ha.same s2
      have A2 := A'.same s2
      refine ⟨_, rfl, a, rfl, ⟨_, .inl ha2⟩, fun D hD => lc_tup (K := K) (a := a) (xs := xs) (fun i H3 => H3 D = some (.lst (((ds.take i).map keyD).map V.int)) ∧ Same H2 H3)
        ⟨upd_same, same_new hD _⟩ (fun i H3 _ h => .inl (ha2.same h.2)) ?_ ?_⟩
      · rintro i x H3 hi ⟨h3, s3⟩
        obtain ⟨e, he, De⟩ := A2.get hi
        have em := List.mem_of_getElem? he
        have li : i < ds.length := (List.getElem?_eq_some_iff.mp he).1
        have tk : ds.take (i + 1) = ds.take i ++ [e] := by rw [List.take_add_one, he]; rfl
        obtain ⟨n, e1, rfl, n0, n9, _⟩ := prs e em
        obtain ⟨p, ys, rfl, hp, Ae⟩ := (De.same s3).tup_of
        obtain ⟨y0, yr, rfl, D0, _⟩ := Ae.cons_of
        cases D0.int_of
        refine ⟨rfl, _, rfl, p, _, _, _, rfl, rfl, .inl hp, at_of (j := 0) rfl rfl, _, h3, ?_, ?_, ?_⟩
        · rw [List.length_map, List.length_map, List.length_take]; omega
        · rw [upd_same, tk, List.map_append, List.map_append]; rfl
        · intro c o z
          rw [upd_ne (ne_of_none z hD)]
          exact s3 _ _ z
      · rintro H3 ⟨h3, s3⟩
        rw [el, List.take_length] at h3
        obtain ⟨ns, en⟩ : ∃ ns, ds.map keyD = ns := ⟨_, rfl⟩
        have nl : ns.length = ds.length := by rw [← en, List.length_map]
        rw [en] at h3
        refine ⟨_, rfl, _, rfl, D, ns, rfl, .inl (.inl h3), by omega, fun p c hp cl => ?_⟩
        have s4 := same_new hp (SetO w p (fun j => decide (j ∈ ns)) c)
        refine ⟨p, _, c, rfl, upd_same, by omega, fun ks o up mem _ ho => ?_⟩
        have s5 := same_new ho (.lst (ks.map V.int))
        refine ⟨intsD ns, intsD ks, .lst (.inl (.inl (s5 _ _ (s4 _ _ h3)))) ints_dp, .lst (.inl (.inl upd_same)) ints_dp, ints_shaped ns, ints_shaped ks, q _ _ ?_ (((s2.trans s3).trans s4).trans s5)⟩
        rw [eqv_ints, isBd_tup, en, adjB_up]
        have mem' : ∀ k, k ∈ ks ↔ k ∈ ns := fun k => (mem k).trans decide_eq_true_iff
        exact ⟨fun h => ⟨prs, by rw [h]; exact up⟩, fun h => up_ext h.2 up fun k => (mem' k).symm⟩
  | _ => exact iteT (q false H ⟨(fun e => nomatch e), fun z => absurd z (isBd_no (fun ds e => nomatch e))⟩ (Same.refl H))
end
end Rp

set_option maxHeartbeats 8000000
/-! The law's own look at STEPs. -/
namespace Rp
open PySem PySem.Spec PyProof.Rows L2 TL RZ StX
def wordsW : List (Key × V) := [(.inr "by", .int 0), (.inr "split", .int 1), (.inr "use", .int 1), (.inr "cut", .int 1), (.inr "back", .int 2), (.inr "as", .int 2), (.inr "lean", .int 2)]
def arW (x : Str) : Nat := if x = "lean" then 2 else if x = "as" then 2 else if x = "back" then 2 else if x = "cut" then 1 else if x = "use" then 1 else if x = "split" then 1 else if x = "by" then 0 else 9
theorem arW_at (x : Str) : (valV (mergeK [] wordsW) (.inr x)).getD (.int 9) = .int (arW x : Nat) := by
  show (valV (putK (putK (putK (putK (putK (putK (putK ([] : List (Key × V)) (.inr "by") (.int 0)) (.inr "split") (.int 1)) (.inr "use") (.int 1)) (.inr "cut") (.int 1)) (.inr "back") (.int 2)) (.inr "as") (.int 2)) (.inr "lean") (.int 2)) (.inr x)).getD (.int 9) = _
  rw [valV_put, valV_put, valV_put, valV_put, valV_put, valV_put, valV_put]
  unfold arW
  by_cases h : x = "lean"
  · rw [if_pos (by rw [h]), if_pos h]; rfl
  rw [if_neg (fun z => h (Sum.inr.inj z)), if_neg h]
  by_cases h : x = "as"
  · rw [if_pos (by rw [h]), if_pos h]; rfl
  rw [if_neg (fun z => h (Sum.inr.inj z)), if_neg h]
  by_cases h : x = "back"
  · rw [if_pos (by rw [h]), if_pos h]; rfl
  rw [if_neg (fun z => h (Sum.inr.inj z)), if_neg h]
  by_cases h : x = "cut"
  · rw [if_pos (by rw [h]), if_pos h]; rfl
  rw [if_neg (fun z => h (Sum.inr.inj z)), if_neg h]
  by_cases h : x = "use"
  · rw [if_pos (by rw [h]), if_pos h]; rfl
  rw [if_neg (fun z => h (Sum.inr.inj z)), if_neg h]
  by_cases h : x = "split"
  · rw [if_pos (by rw [h]), if_pos h]; rfl
  rw [if_neg (fun z => h (Sum.inr.inj z)), if_neg h]
  by_cases h : x = "by"
  · rw [if_pos (by rw [h]), if_pos h]; rfl
  rw [if_neg (fun z => h (Sum.inr.inj z)), if_neg h]
  rfl
theorem isSt_ar {x : Str} : ∀ {es : List PyData}, IsSt (.tuple (.str x :: es)) → es.length = arW x
  | [], h => by
    have h : PyData.str x = .str "by" := h
    injection h with h
    subst h
    decide +kernel
  | [e], h => by
    rcases h with ⟨h, _⟩ | ⟨h | h, _⟩
    all_goals
      injection h with h
      subst h
      show 1 = arW _
      decide +kernel
  | [e, f], h => by
    rcases h with ⟨h, _⟩ | ⟨h, _⟩ | ⟨h, _⟩
    all_goals
      injection h with h
      subst h
      show 2 = arW _
      decide +kernel
  | _ :: _ :: _ :: _, h => h.elim
theorem su_in {x : Str} : inV (.str x) [.str "split", .str "use"] = decide (x = "split" ∨ x = "use") := by
  have e : ∀ a : Str, eqV (.str a) (.str x) = decide (x = a) := fun a => by unfold eqV; rw [Bool.eq_iff_iff]; simp; exact eq_comm
  simp [inV, e]
theorem isPl_I {d : PyData} (h : isI d = false) : ¬ IsPl d := fun ⟨n, e, _⟩ => by subst e; cases h
/-- the words that have two parts -/
theorem arW_two {x : Str} (h : arW x ≤ 8) (h1 : ¬ (x = "split" ∨ x = "use")) (h2 : x ≠ "cut") (h3 : x ≠ "by") : arW x = 2 ∧ (x = "back" ∨ x = "as" ∨ x = "lean") := by
  unfold arW at h ⊢
  by_cases a : x = "lean"
  · rw [if_pos a]; exact ⟨rfl, .inr (.inr a)⟩
  rw [if_neg a] at h ⊢
  by_cases a : x = "as"
  · rw [if_pos a]; exact ⟨rfl, .inr (.inl a)⟩
  rw [if_neg a] at h ⊢
  by_cases a : x = "back"
  · rw [if_pos a]; exact ⟨rfl, .inl a⟩
  rw [if_neg a] at h ⊢
  rw [if_neg h2, if_neg (fun z => h1 (.inr z)), if_neg (fun z => h1 (.inl z)), if_neg h3] at h
  omega
abbrev NSw : List Str := ["_law_thing", "_law_word", "_law_parts"]
def spStW : Sp := fun vs H Q _ => ∃ (b : Addr) (v : V) (d : PyData), vs = [v] ∧ DAt H b v d ∧ DOk d ∧ (∀ ds, d = .tuple ds → ds.length ≤ 9) ∧ ∀ (r : Bool) (H' : Hp), (r = true ↔ IsSt d) → Same H H' → Q (.bl r) H'
section
variable {P : Program} {w : World} {K : PySem.W.Frag} {mg : Str → Option Value} {base : Heap}
theorem scStW : FnScope NSw ["_law_thing"] (defScope sStepW) := ⟨rfl, rfl, rfl, by decide +kernel, rfl, by decide +kernel, by decide +kernel⟩
theorem ok_stw {f fA fB fS fN : Addr} {fd dA dB dS dN : FuncData} (F : Fun K "_law_is_step" "_law_is_step" sStepW f fd)
    (GA : FnOk P w K mg base CX0 63 fA dA ["_law_thing"] spIsAm) (kA : PySem.W.keepIn K (.ref fA) = true) (bA : Binds K dA ["_law_thing"] []) (mA : mg "_law_is_atom" = some (.ref fA))
    (GB : FnOk P w K mg base CX0 63 fB dB ["_law_thing"] spBdW) (kB : PySem.W.keepIn K (.ref fB) = true) (bB : Binds K dB ["_law_thing"] []) (mB : mg "_law_is_binding" = some (.ref fB))
    (GS : FnOk P w K mg base CX0 64 fS dS ["_law_thing"] spIsSy) (kS : PySem.W.keepIn K (.ref fS) = true) (bS : Binds K dS ["_law_thing"] []) (mS : mg "_law_is_saying" = some (.ref fS))
    (GN : FnOk P w K mg base CX0 1 fN dN ["_law_thing"] spIsNm) (kN : PySem.W.keepIn K (.ref fN) = true) (bN : Binds K dN ["_law_thing"] []) (mN : mg "_law_is_word" = some (.ref fN)) (M : SameG mg) : FnOk P w K mg base CX0 65 f fd ["_law_thing"] spStW := by
  refine F.ok scStW (fun vs H Q E h => ?_) (fun cdv A outer s H vs Q E hr h => ?_)
  · obtain ⟨b, v, d, rfl, _⟩ := h
    rfl
  obtain ⟨b, v, d, rfl, D, ok, nine, q⟩ := h
  have r1 : Room 1 _ := hr.mono (by decide)
  have r63 : Room 63 _ := hr.mono (by decide)
  refine ⟨_, pss_cons (ps_if (PW.pt (pw_or (pt_not (pt_val (pe_callB (id := "isinstance") call_isi (by rfl) M.isi (by decide +kernel) (pa_cons (pv 0) (pa_cons (pe_bltn (v := .ty "tuple") (by rfl) M.tuple (by decide +kernel) rfl) pa_nil)))))
      (pw_or (pt_cmpR (op_eqD hr.units) (pv 0) (pe_tup pa_nil) (nomark _))
      (pw_or1 (pt_not (pt_val (pe_callB (id := "isinstance") call_isi (by rfl) M.isi (by decide +kernel) (pa_cons (pe_ix ix_tup (pv 0) pe_int (fun _ _ => rfl)) (pa_cons (pe_bltn (v := .ty "str") (by rfl) M.str (by decide +kernel) rfl) pa_nil)))))))))
      (pss_one (ps_ret pe_bl)) pss_nil)
    (pss_cons (ps_par (i := 1) (j := 2) rfl scStW.nd rfl rfl (by decide) rfl rfl (pa_cons (pe_ix ix_tup (pv 0) pe_int (fun _ _ => rfl)) (pa_cons (pe_slice sl_tup (pv 0) (po_some pe_int) po_none) pa_nil)) (by rfl))
    (pss_cons (ps_if (pt_cmpR op_ne (pe_callB call_len_seq (by rfl) M.len PySem.boot_len (pa_cons (pv 2) pa_nil))
        (pe_dget2 (hu_of hr) (pe_disp (pps_cons pe_str pe_int (pps_cons pe_str pe_int (pps_cons pe_str pe_int (pps_cons pe_str pe_int (pps_cons pe_str pe_int (pps_cons pe_str pe_int (pps_cons pe_str pe_int pps_nil))))))) rfl rfl (by simp) (by decide)) (pv 1) pe_int ⟨rfl, rfl, rfl, rfl⟩) (nomark _)) (pss_one (ps_ret pe_bl)) pss_nil)
    (pss_cons (ps_if (pt_cmpR op_in_seq (pv 1) (pe_tup (pa_cons pe_str (pa_cons pe_str pa_nil))) (by rfl)) (pss_one (ps_ret (pe_and (pe_callB (id := "isinstance") call_isi (by rfl) M.isi (by decide +kernel) (pa_cons (pe_ix ix_tup (pv 2) pe_int (fun _ _ => rfl)) (pa_cons (pe_bltn (v := .ty "int") (by rfl) M.int (by decide +kernel) rfl) pa_nil)))
        (pe_and (pe_not (pe_callB (id := "isinstance") call_isi (by rfl) M.isi (by decide +kernel) (pa_cons (pe_ix ix_tup (pv 2) pe_int (fun _ _ => rfl)) (pa_cons (pe_bltn (v := .ty "bool") (by rfl) M.bool (by decide +kernel) rfl) pa_nil)))) (pe_one (pe_cmpR op_ge (pe_ix ix_tup (pv 2) pe_int (fun _ _ => rfl)) pe_int (nomark _))))))) pss_nil)
    (pss_cons (ps_if (pt_cmpR op_eq (pv 1) pe_str (nomark _)) (pss_one (ps_ret (pe_call GA r63 rfl mA kA bA .nil pass0 (pa_cons (pe_ix ix_tup (pv 2) pe_int (fun _ _ => rfl)) pa_nil)))) pss_nil)
    (pss_cons (ps_if (PW.pt (pw_or (pt_cmpR op_eq (pv 1) pe_str (nomark _)) (pw_or1 (pt_not (pt_val (pe_call GB r63 rfl mB kB bB .nil pass0 (pa_cons (pe_ix ix_tup (pv 2) pe_int (fun _ _ => rfl)) pa_nil))))))) (pss_one (ps_ret (pe_cmpR op_eq (pv 1) pe_str (nomark _)))) pss_nil)
    (pss_cons (ps_if (pt_cmpR op_eq (pv 1) pe_str (nomark _)) (pss_one (ps_ret (pe_and (pe_callB (id := "isinstance") call_isi (by rfl) M.isi (by decide +kernel) (pa_cons (pe_ix ix_tup (pv 2) pe_int (fun _ _ => rfl)) (pa_cons (pe_bltn (v := .ty "int") (by rfl) M.int (by decide +kernel) rfl) pa_nil)))
        (pe_and (pe_not (pe_callB (id := "isinstance") call_isi (by rfl) M.isi (by decide +kernel) (pa_cons (pe_ix ix_tup (pv 2) pe_int (fun _ _ => rfl)) (pa_cons (pe_bltn (v := .ty "bool") (by rfl) M.bool (by decide +kernel) rfl) pa_nil)))) (pe_one (pe_cmpR op_ge (pe_ix ix_tup (pv 2) pe_int (fun _ _ => rfl)) pe_int (nomark _))))))) pss_nil)
    (pss_one (ps_ret (pe_ifExp (pt_cmpR op_eq (pv 1) pe_str (nomark _)) (pe_call GS hr rfl mS kS bS .nil pass0 (pa_cons (pe_ix ix_tup (pv 2) pe_int (fun _ _ => rfl)) pa_nil)) (pe_call GN r1 rfl mN kN bN .nil pass0 (pa_cons (pe_ix ix_tup (pv 2) pe_int (fun _ _ => rfl)) pa_nil))))))))))), ?_⟩
  have no : ∀ {H' : Hp}, Same H H' → ¬ IsSt d → Q (.bl false) H' := fun s h => q false _ ⟨(fun e => nomatch e), fun z => absurd z h⟩ s
  refine ⟨_, rfl, _, _, _, _, isU d, rfl, .ty "tuple", D.tyx, kitU d, isU d, rfl, ?_⟩
  cases d with
  | tuple ds =>
    obtain ⟨a, xs, rfl, ha, A'⟩ := D.tup_of
    refine iteF ?_
    refine ⟨_, rfl, (by show 0 ≤ sizeLine; decide), fun p hp => ?_⟩
    have s1 := same_new hp (.tup ([] : List V))
    refine ⟨.tuple ds, .tuple [], (D.same s1).dp, .tup (.inl (.inl upd_same)) .nil, shaped_of ok.ok.1 (by have := ok.ok.2; omega), by decide +kernel, ds.isEmpty, congrArg V.bl eqv_nil, ?_⟩
    generalize upd H p (.tup ([] : List V)) = H1 at s1 ⊢
    cases xs with
    | nil =>
      have e0 : ds = [] := by have := A'.len; cases ds with | nil => rfl | cons => simp at this
      subst e0
      exact iteT (no s1 (isSt_len (by simp)))
    | cons x0 ys =>
      obtain ⟨d0, es, rfl, D0, A1⟩ := A'.head
      have n9 := nine _ rfl
      rw [List.length_cons] at n9
      have yl := A1.len
      refine iteF ?_
      have ha1 := ha.same s1
      refine ⟨_, rfl, a, _, _, _, rfl, rfl, .inl ha1, at_of (j := 0) rfl rfl, _, _, _, _, isS d0, rfl, .ty "str", (D0.same s1).tyx, kitS d0, isS d0, rfl, ?_⟩
      cases d0 with
      | str x =>
        refine iteF ?_
        cases D0.str_of
        refine ⟨_, rfl, a, _, _, _, rfl, rfl, .inl ha1, at_of (j := 0) rfl rfl, _, rfl, 1, rfl, a, _, rfl, .inl ha1, cut_part _ _, fun g hg => ?_⟩
        rw [cut_tail]
        have s2 := same_new hg (.tup ys)
        have hg2 : (upd H1 g (.tup ys)) g = some (.tup ys) := upd_same
        have s12 := s1.trans s2
        generalize upd H1 g (.tup ys) = H2 at s2 hg2 s12 ⊢
        refine ⟨_, _, rfl, _, rfl, g, _, rfl, .inr (.inl (.inl hg2)), fun p2 hp2 => ?_⟩
        refine ⟨upd_same, wordsW, rfl, by decide, ?_⟩
        rw [upd_upd]
        have s3 := same_new hp2 (.dK (mergeK [] wordsW))
        have hp3 : (upd H2 p2 (.dK (mergeK [] wordsW))) p2 = some (.dK (mergeK [] wordsW)) := upd_same
        have s13 := s12.trans s3
        have hg3 := s3 _ _ hg2
        generalize upd H2 p2 (.dK (mergeK [] wordsW)) = H3 at s3 hp3 s13 hg3 ⊢
        refine ⟨p2, rfl, .inl ⟨_, .inl hp3⟩, _, rfl, _, DGet.k (k := .inr x) hp3, ?_⟩
        rw [arW_at]
        refine ⟨rfl, !decide (V.int ((ys.length : Nat) : Int) = V.int (arW x : Nat)), rfl, ?_⟩
        by_cases he : ys.length = arW x
        · rw [decide_eq_true (by rw [he])]
          have hl : es.length = arW x := by omega
          refine iteF ⟨_, rfl, (by show 2 ≤ sizeLine; decide), fun g3 hg3' => ⟨g3, _, rfl, .inr (.inl (.inl upd_same)), rfl, rfl, decide (x = "split" ∨ x = "use"), by rw [← su_in]; rfl, ?_⟩⟩
          have s4 := same_new hg3' (.tup [V.str "split", V.str "use"])
          have hg4 := s4 _ _ hg3
          have s14 := s13.trans s4
          have B1 := A1.same s14
          generalize upd H3 g3 (.tup [V.str "split", V.str "use"]) = H4 at s4 hg4 s14 B1 ⊢
          clear s1 s2 s3 s4 s12 s13 hg2 hg3 hp3 ha1
          have bs : ("by" : Str) ≠ "split" := by decide +kernel
          have bu : ("by" : Str) ≠ "use" := by decide +kernel
          have bc : ("by" : Str) ≠ "cut" := by decide +kernel
          have cs : ("cut" : Str) ≠ "split" := by decide +kernel
          have cu : ("cut" : Str) ≠ "use" := by decide +kernel
          by_cases hsu : x = "split" ∨ x = "use"
          · rw [decide_eq_true hsu]
            have h1 : arW x = 1 := by rcases hsu with rfl | rfl <;> decide +kernel
            rw [h1] at hl
            match es, ys, B1, hl with
            | [e], [y], B1, _ =>
              obtain ⟨_, _, e', E1, _⟩ := B1.head
              injection e' with e1 e2
              subst e1 e2
              have it : IsSt (.tuple [.str x, e]) ↔ IsPl e := ⟨fun h => by
                rcases h with ⟨h, _⟩ | ⟨_, h⟩
                · injection h with h; subst h; exact absurd hsu (fun z => z.elim cs cu)
                · exact h, fun h => .inr ⟨hsu.imp (fun z => by rw [z]) (fun z => by rw [z]), h⟩⟩
              refine iteT ⟨_, rfl, g, _, _, _, rfl, rfl, .inl (.inl hg4), at_of (j := 0) rfl rfl, _, _, _, _, isI e, rfl, .ty "int", E1.tyx, kitI e, isI e, rfl, ?_⟩
              cases e with
              | int n =>
                cases E1.int_of
                refine iteT ⟨_, rfl, g, _, _, _, rfl, rfl, .inl (.inl hg4), at_of (j := 0) rfl rfl, _, _, _, _, false, rfl, .ty "bool", E1.tyx, kitB' _, false, rfl, true, rfl, iteT ?_⟩
                refine ⟨_, rfl, g, _, _, _, rfl, rfl, .inl (.inl hg4), at_of (j := 0) rfl rfl, _, _, rfl, rfl, q (decide ((0 : Int) ≤ n)) H4 ?_ s14⟩
                rw [decide_eq_true_iff, it]
                exact ⟨fun h => ⟨n, rfl, h⟩, fun h => by obtain ⟨m, z, h⟩ := (h); injection z with z; subst z; exact h⟩
              | bool c =>
                refine iteT ⟨_, rfl, g, _, _, _, rfl, rfl, .inl (.inl hg4), at_of (j := 0) rfl rfl, _, _, _, _, true, rfl, .ty "bool", E1.tyx, kitB' _, true, rfl, false, rfl, iteF ?_⟩
                exact no s14 (fun h => by obtain ⟨m, z, _⟩ := (it.mp h); cases z)
              | _ => exact iteF (no s14 (fun h => by obtain ⟨m, z, _⟩ := (it.mp h); cases z))
          · rw [decide_eq_false hsu]
            refine iteF ⟨_, rfl, rfl, decide (V.str x = V.str "cut"), rfl, ?_⟩
            by_cases hc : x = "cut"
            · rw [decide_eq_true (by rw [hc])]
              subst hc
              rw [show arW "cut" = 1 by decide +kernel] at hl
              match es, ys, B1, hl with
              | [e], [y], B1, _ =>
                obtain ⟨_, _, e', E1, _⟩ := B1.head
                injection e' with e1 e2
                subst e1 e2
                have ok1 := ok.tup e (by simp)
                have it : IsSt (.tuple [.str "cut", e]) ↔ IsAm e := ⟨fun h => by
                  rcases h with ⟨_, h⟩ | ⟨h | h, _⟩
                  · exact h
                  · injection h with h; exact absurd h cs
                  · injection h with h; exact absurd h cu, fun h => .inl ⟨rfl, h⟩⟩
                exact iteT ⟨_, rfl, g, _, _, _, rfl, rfl, .inl (.inl hg4), at_of (j := 0) rfl rfl, b, y, e, rfl, E1, ok1.ok, ok1.sz, ok1.sh.am, fun r H5 hr5 s5 => q r H5 (hr5.trans it.symm) (s14.trans s5)⟩
            · rw [decide_eq_false (fun z => hc (by injection z))]
              refine iteF ⟨_, rfl, rfl, decide (V.str x = V.str "by"), rfl, ?_⟩
              by_cases hb : x = "by"
              · rw [decide_eq_true (by rw [hb])]
                subst hb
                rw [show arW "by" = 0 by decide +kernel] at hl
                obtain rfl := List.length_eq_zero_iff.mp hl
                refine iteT ⟨_, rfl, rfl, ?_⟩
                exact q (decide (V.str "by" = V.str "by")) H4 ⟨fun _ => (rfl : PyData.str "by" = .str "by"), fun _ => decide_eq_true rfl⟩ s14
              · rw [decide_eq_false (fun z => hb (by injection z))]
                obtain ⟨h2, hw⟩ := arW_two (x := x) (by omega) hsu hc hb
                rw [h2] at hl
                match es, ys, B1, hl with
                | [e, f'], [y, z'], B1, _ =>
                  obtain ⟨_, _, e', E1, B2⟩ := B1.head
                  injection e' with e1 e2
                  subst e1 e2
                  obtain ⟨_, _, e', E2, _⟩ := B2.head
                  injection e' with e1 e2
                  subst e1 e2
                  have ok1 := ok.tup e (by simp)
                  have ok2 := ok.tup f' (by simp)
                  have bd : IsSt (.tuple [.str x, e, f']) → IsBdD f' := fun h => by rcases h with ⟨_, _, h⟩ | ⟨_, _, h⟩ | ⟨_, _, h⟩ <;> exact h
                  refine iteF ⟨_, rfl, g, _, _, _, rfl, rfl, .inl (.inl hg4), at_of (j := 1) rfl rfl, b, z', f', rfl, E2, ok2, fun r H5 hr5 s5 => ⟨r, rfl, ?_⟩⟩
                  have hg4 := s5 _ _ hg4
                  have E1 := E1.same s5
                  have s14 := s14.trans s5
                  clear s5
                  cases r with
                  | false =>
                    refine iteT ⟨_, rfl, rfl, ?_⟩
                    rw [decide_eq_false (fun z => hb (by injection z))]
                    refine no s14 fun h => ?_
                    have := hr5.mpr (bd h)
                    cases this
                  | true =>
                    have bdt := hr5.mp rfl
                    have H4 := H5
                    refine iteF ⟨_, rfl, rfl, decide (V.str x = V.str "back"), rfl, ?_⟩
                    by_cases hk : x = "back"
                    · rw [decide_eq_true (by rw [hk])]
                      have it : IsSt (.tuple [.str x, e, f']) ↔ IsPl e := ⟨fun h => by
                        subst hk
                        rcases h with ⟨_, h, _⟩ | ⟨h, _⟩ | ⟨h, _⟩
                        · exact h
                        · injection h with h; exact absurd h (by decide +kernel)
                        · injection h with h; exact absurd h (by decide +kernel), fun h => .inl ⟨by rw [hk], h, bdt⟩⟩
                      refine iteT ⟨_, rfl, g, _, _, _, rfl, rfl, .inl (.inl hg4), at_of (j := 0) rfl rfl, _, _, _, _, isI e, rfl, .ty "int", E1.tyx, kitI e, isI e, rfl, ?_⟩
                      cases e with
                      | int n =>
                        cases E1.int_of
                        refine iteT ⟨_, rfl, g, _, _, _, rfl, rfl, .inl (.inl hg4), at_of (j := 0) rfl rfl, _, _, _, _, false, rfl, .ty "bool", E1.tyx, kitB' _, false, rfl, true, rfl, iteT ?_⟩
                        refine ⟨_, rfl, g, _, _, _, rfl, rfl, .inl (.inl hg4), at_of (j := 0) rfl rfl, _, _, rfl, rfl, q (decide ((0 : Int) ≤ n)) H5 ?_ s14⟩
                        rw [decide_eq_true_iff, it]
                        exact ⟨fun h => ⟨n, rfl, h⟩, fun h => by obtain ⟨m, z, h⟩ := (h); injection z with z; subst z; exact h⟩
                      | bool c =>
                        refine iteT ⟨_, rfl, g, _, _, _, rfl, rfl, .inl (.inl hg4), at_of (j := 0) rfl rfl, _, _, _, _, true, rfl, .ty "bool", E1.tyx, kitB' _, true, rfl, false, rfl, iteF ?_⟩
                        exact no s14 (fun h => by obtain ⟨m, z, _⟩ := (it.mp h); cases z)
                      | _ => exact iteF (no s14 (fun h => by obtain ⟨m, z, _⟩ := (it.mp h); cases z))
                    · rw [decide_eq_false (fun z => hk (by injection z))]
                      refine iteF ⟨_, rfl, rfl, decide (V.str x = V.str "as"), rfl, ?_⟩
                      by_cases ha' : x = "as"
                      · rw [decide_eq_true (by rw [ha'])]
                        have it : IsSt (.tuple [.str x, e, f']) ↔ IsSy e := ⟨fun h => by
                          rcases h with ⟨h, _⟩ | ⟨_, h, _⟩ | ⟨h, _⟩
                          · injection h with h; exact absurd h hk
                          · exact h
                          · subst ha'; injection h with h; exact absurd h (by decide +kernel), fun h => .inr (.inl ⟨by rw [ha'], h, bdt⟩)⟩
                        exact iteT ⟨_, rfl, g, _, _, _, rfl, rfl, .inl (.inl hg4), at_of (j := 0) rfl rfl, b, y, e, rfl, E1, ok1, fun r H6 hr6 s6 => q r H6 (hr6.trans it.symm) (s14.trans s6)⟩
                      · rw [decide_eq_false (fun z => ha' (by injection z))]
                        have hl' : x = "lean" := by rcases hw with h | h | h; exact absurd h hk; exact absurd h ha'; exact h
                        have it : IsSt (.tuple [.str x, e, f']) ↔ IsNm e := ⟨fun h => by
                          rcases h with ⟨h, _⟩ | ⟨h, _⟩ | ⟨_, h, _⟩
                          · injection h with h; exact absurd h hk
                          · injection h with h; exact absurd h ha'
                          · exact h, fun h => .inr (.inr ⟨by rw [hl'], h, bdt⟩)⟩
                        exact iteF ⟨_, rfl, g, _, _, _, rfl, rfl, .inl (.inl hg4), at_of (j := 0) rfl rfl, b, y, e, rfl, E1, fun x hx => by subst hx; exact ok1.sh.str, fun r H6 hr6 s6 => q r H6 (hr6.trans it.symm) (s14.trans s6)⟩
        · rw [decide_eq_false (fun z => he (by injection z with z; omega))]
          exact iteT (no s13 fun z => he (by have := isSt_ar z; omega))
      | _ => exact iteT (no s1 (fun z => by
          match es, z with
          | [], z => exact nomatch (show _ = PyData.str "by" from z)
          | [_], z => rcases z with ⟨z, _⟩ | ⟨z | z, _⟩ <;> cases z
          | [_, _], z => rcases z with ⟨z, _⟩ | ⟨z, _⟩ | ⟨z, _⟩ <;> cases z
          | _ :: _ :: _ :: _, z => exact z))
  | _ => exact iteT (no (Same.refl H) fun z => z)
end
end Rp

set_option maxHeartbeats 8000000
/-! How deep, wide and long data may be. -/
namespace Rp
open PySem PySem.Spec PyProof.Rows L2 TL RZ StX
mutual
/-- widths by levels to W, texts to L, of ASCII signs, ints to 1000 + L -/
def shG : (Nat → Nat) → Nat → PyData → Prop
  | _, L, .str x => x.length ≤ L ∧ (∀ c ∈ tl x, c < 128) | _, L, .int n => -((1000 + L : Nat) : Int) ≤ n ∧ n ≤ ((1000 + L : Nat) : Int) | W, L, .list ds => ds.length ≤ W 0 ∧ shGs (fun i => W (i + 1)) L ds | W, L, .tuple ds => ds.length ≤ W 0 ∧ shGs (fun i => W (i + 1)) L ds | _, _, _ => True
def shGs : (Nat → Nat) → Nat → List PyData → Prop
  | _, _, [] => True
  | W, L, d :: ds => shG W L d ∧ shGs W L ds
end
theorem shGs_iff {W : Nat → Nat} {L : Nat} : ∀ {ds : List PyData}, shGs W L ds ↔ ∀ d ∈ ds, shG W L d
  | [] => by simp [shGs]
  | d :: ds => by simp only [shGs, shGs_iff (ds := ds), List.mem_cons, forall_eq_or_imp]
theorem shG_tup {W : Nat → Nat} {L : Nat} {ds : List PyData} : shG W L (.tuple ds) ↔ ds.length ≤ W 0 ∧ ∀ d ∈ ds, shG (fun i => W (i + 1)) L d := by
  rw [← shGs_iff]; simp only [shG]
theorem shG_list {W : Nat → Nat} {L : Nat} {ds : List PyData} : shG W L (.list ds) ↔ ds.length ≤ W 0 ∧ ∀ d ∈ ds, shG (fun i => W (i + 1)) L d := by
  rw [← shGs_iff]; simp only [shG]
mutual
theorem shG.more0 {L L' : Nat} (hL : L ≤ L') : ∀ {d : PyData} {W W' : Nat → Nat}, (∀ i, W i ≤ W' i) → shG W L d → shG W' L' d
  | .str x, _, _, _, h => by unfold shG at h ⊢; exact ⟨Nat.le_trans h.1 hL, h.2⟩
  | .int n, _, _, _, h => by unfold shG at h ⊢; omega
  | .list ds, _, _, hW, h => by unfold shG at h ⊢; exact ⟨Nat.le_trans h.1 (hW 0), shGs.more0 hL (fun i => hW (i + 1)) h.2⟩
  | .tuple ds, _, _, hW, h => by unfold shG at h ⊢; exact ⟨Nat.le_trans h.1 (hW 0), shGs.more0 hL (fun i => hW (i + 1)) h.2⟩
  | .none, _, _, _, _ => by unfold shG; trivial
  | .bool _, _, _, _, _ => by unfold shG; trivial
  | .dict _, _, _, _, _ => by unfold shG; trivial
theorem shGs.more0 {L L' : Nat} (hL : L ≤ L') : ∀ {ds : List PyData} {W W' : Nat → Nat}, (∀ i, W i ≤ W' i) → shGs W L ds → shGs W' L' ds
  | [], _, _, _, _ => by unfold shGs; trivial
  | d :: ds, _, _, hW, h => by unfold shGs at h ⊢; exact ⟨shG.more0 hL hW h.1, shGs.more0 hL hW h.2⟩
end
theorem shG.more {W W' : Nat → Nat} {L L' : Nat} (hW : ∀ i, W i ≤ W' i) (hL : L ≤ L') {d : PyData} (h : shG W L d) : shG W' L' d := shG.more0 hL hW h
mutual
theorem shG.sh0 {L : Nat} (hL : L ≤ 1000) : ∀ {d : PyData} {W : Nat → Nat}, (∀ i, W i ≤ 60) → shG W L d → shS d
  | .str x, _, _, h => by unfold shG at h; unfold shS; exact Nat.le_trans h.1 hL
  | .int n, _, _, h => by unfold shS; trivial
  | .list ds, _, hW, h => by unfold shG at h; unfold shS; exact ⟨Nat.le_trans h.1 (hW 0), shGs.sh0 hL (fun i => hW (i + 1)) h.2⟩
  | .tuple ds, _, hW, h => by unfold shG at h; unfold shS; exact ⟨Nat.le_trans h.1 (hW 0), shGs.sh0 hL (fun i => hW (i + 1)) h.2⟩
  | .none, _, _, _ => by unfold shS; trivial
  | .bool _, _, _, _ => by unfold shS; trivial
  | .dict _, _, _, _ => by unfold shS; trivial
theorem shGs.sh0 {L : Nat} (hL : L ≤ 1000) : ∀ {ds : List PyData} {W : Nat → Nat}, (∀ i, W i ≤ 60) → shGs W L ds → shAll ds
  | [], _, _, _ => by unfold shAll; trivial
  | d :: ds, _, hW, h => by unfold shGs at h; unfold shAll; exact ⟨shG.sh0 hL hW h.1, shGs.sh0 hL hW h.2⟩
end
theorem shG.sh {W : Nat → Nat} {L : Nat} (hW : ∀ i, W i ≤ 60) (hL : L ≤ 1000) {d : PyData} (h : shG W L d) : shS d := shG.sh0 hL hW h
/-- fine: may be laid, to depth k, width W, texts L -/
structure Fq (k : Nat) (W : Nat → Nat) (L : Nat) (d : PyData) : Prop where
  lay : d.canLay0 = true
  dp : d.depth ≤ k
  sh : shG W L d
theorem Fq.more {k L k' L' : Nat} {W W' : Nat → Nat} {d : PyData} (h : Fq k W L d) (hk : k ≤ k') (hW : ∀ i, W i ≤ W' i) (hL : L ≤ L') : Fq k' W' L' d := ⟨h.lay, Nat.le_trans h.dp hk, h.sh.more hW hL⟩
theorem Fq.dok {k L : Nat} {W : Nat → Nat} {d : PyData} (h : Fq k W L d) (hk : k ≤ 60) (hW : ∀ i, W i ≤ 60) (hL : L ≤ 1000) (hn : nd d ≤ 100000) : DOk d := ⟨⟨h.lay, Nat.le_trans h.dp hk⟩, hn, h.sh.sh hW hL⟩
theorem fq_tup {k L : Nat} {W : Nat → Nat} {ds : List PyData} : Fq (k + 1) W L (.tuple ds) ↔ ds.length ≤ W 0 ∧ ∀ d ∈ ds, Fq k (fun i => W (i + 1)) L d := by
  constructor
  · rintro ⟨h1, h2, h3⟩
    have h3 := shG_tup.mp h3
    have h1 : PyData.canLayAll0 ds = true := h1
    have h2 : PyData.depthAll ds + 1 ≤ k + 1 := h2
    exact ⟨h3.1, fun d hd => ⟨(okAll h1 k (by omega) d hd).1, (okAll h1 k (by omega) d hd).2, h3.2 d hd⟩⟩
  · rintro ⟨h1, h2⟩
    have z := lay_all (k := k) fun d hd => ⟨(h2 d hd).lay, (h2 d hd).dp⟩
    exact ⟨z.1, (by show PyData.depthAll ds + 1 ≤ k + 1; omega), shG_tup.mpr ⟨h1, fun d hd => (h2 d hd).sh⟩⟩
theorem fq_list {k L : Nat} {W : Nat → Nat} {ds : List PyData} : Fq (k + 1) W L (.list ds) ↔ ds.length ≤ W 0 ∧ ∀ d ∈ ds, Fq k (fun i => W (i + 1)) L d := by
  constructor
  · rintro ⟨h1, h2, h3⟩
    have h3 := shG_list.mp h3
    have h1 : PyData.canLayAll0 ds = true := h1
    have h2 : PyData.depthAll ds + 1 ≤ k + 1 := h2
    exact ⟨h3.1, fun d hd => ⟨(okAll h1 k (by omega) d hd).1, (okAll h1 k (by omega) d hd).2, h3.2 d hd⟩⟩
  · rintro ⟨h1, h2⟩
    have z := lay_all (k := k) fun d hd => ⟨(h2 d hd).lay, (h2 d hd).dp⟩
    exact ⟨z.1, (by show PyData.depthAll ds + 1 ≤ k + 1; omega), shG_list.mpr ⟨h1, fun d hd => (h2 d hd).sh⟩⟩
/-- an item put in place of another -/
theorem ndAll_set : ∀ {ds : List PyData} {i : Nat} {e : PyData}, ndAll (ds.set i e) ≤ ndAll ds + nd e
  | [], _, _ => by simp [ndAll]
  | d :: ds, 0, e => by simp only [List.set_cons_zero, ndAll]; omega
  | d :: ds, i + 1, e => by have := ndAll_set (ds := ds) (i := i) (e := e); simp only [List.set_cons_succ, ndAll]; omega
theorem ndAll_erase : ∀ {ds : List PyData} {i : Nat}, ndAll (ds.eraseIdx i) ≤ ndAll ds
  | [], _ => by simp [ndAll]
  | d :: ds, 0 => by simp only [List.eraseIdx_cons_zero, ndAll]; omega
  | d :: ds, i + 1 => by have := ndAll_erase (ds := ds) (i := i); simp only [List.eraseIdx_cons_succ, ndAll]; omega
theorem ndAll_back : ∀ {ds : List PyData}, ndAll ds.reverse = ndAll ds
  | [] => rfl
  | d :: ds => by rw [List.reverse_cons, ndAll_append, ndAll_back]; simp only [ndAll]; omega
theorem ndAll_cut {ds : List PyData} {i : Nat} : ndAll (ds.take i) + ndAll (ds.drop i) = ndAll ds := by
  rw [← ndAll_append, List.take_append_drop]
end Rp

set_option maxHeartbeats 8000000
/-! What a bend makes of a text or an int. -/
namespace Rp
open PySem PySem.Spec PyProof.Rows L2 TL RZ StX
/-- a text of few ASCII signs -/
def Asc (L : Nat) (x : Str) : Prop := x.length ≤ L ∧ ∀ c ∈ tl x, c < 128
theorem Asc.fq {k L : Nat} {W : Nat → Nat} {x : Str} (h : Asc L x) : Fq k W L (.str x) := by
  refine ⟨?_, Nat.zero_le _, ?_⟩
  · show x.cps.all (· < 0x110000) = true
    rw [Array.all_eq_true']
    intro c hc
    have := h.2 c (Array.mem_toList_iff.mpr hc)
    exact decide_eq_true (by omega)
  · unfold shG; exact h
theorem Fq.asc {k L : Nat} {W : Nat → Nat} {x : Str} (h : Fq k W L (.str x)) : Asc L x := by
  have := h.sh
  unfold shG at this
  exact this
theorem Asc.more {L L' : Nat} {x : Str} (h : Asc L x) (hL : L ≤ L') : Asc L' x := ⟨Nat.le_trans h.1 hL, h.2⟩
theorem asc_upper {L : Nat} {x : Str} (h : Asc L x) : Asc L (Txt.upper x) := by
  rw [upper_ascii h.2]
  refine ⟨?_, fun c hc => ?_⟩
  · show (Array.map up1 x.cps).size ≤ L
    rw [Array.size_map]
    exact h.1
  · have hc : c ∈ (Array.map up1 x.cps).toList := hc
    rw [Array.toList_map] at hc
    obtain ⟨e, he, rfl⟩ := List.mem_map.mp hc
    have := h.2 e he
    unfold up1
    split <;> omega
theorem asc_add {L M : Nat} {x y : Str} (h : Asc L x) (h' : Asc M y) : Asc (L + M) (x ++ y) := by
  refine ⟨?_, fun c hc => ?_⟩
  · show (x.cps ++ y.cps).size ≤ L + M
    rw [Array.size_append]
    have h1 : x.cps.size ≤ L := h.1
    have h2 : y.cps.size ≤ M := h'.1
    omega
  · have hc : c ∈ (x.cps ++ y.cps).toList := hc
    rw [Array.toList_append] at hc
    rcases List.mem_append.mp hc with hc | hc
    · exact h.2 c hc
    · exact h'.2 c hc
theorem asc_cut {L : Nat} {x : Str} {lo hi : Option Int} (h : Asc L x) : Asc L (cutS x lo hi) := by
  have sub : ∀ c ∈ tl (cutS x lo hi), c ∈ tl x := fun c hc => by
    have hc : c ∈ (List.take (HT.sIx x.length x.length hi - HT.sIx x.length 0 lo) (List.drop (HT.sIx x.length 0 lo) x.cps.toList)).toArray.toList := hc
    rw [List.toList_toArray] at hc
    exact List.mem_of_mem_drop (List.mem_of_mem_take hc)
  refine ⟨?_, fun c hc => h.2 c (sub c hc)⟩
  have h1 : x.cps.size ≤ L := h.1
  show (List.take (HT.sIx x.length x.length hi - HT.sIx x.length 0 lo) (List.drop (HT.sIx x.length 0 lo) x.cps.toList)).toArray.size ≤ L
  rw [List.size_toArray, List.length_take, List.length_drop, Array.length_toList]
  omega
theorem fq_int {k L : Nat} {W : Nat → Nat} {n : Int} (h : -((1000 + L : Nat) : Int) ≤ n ∧ n ≤ ((1000 + L : Nat) : Int)) : Fq k W L (.int n) := ⟨rfl, Nat.zero_le _, by unfold shG; exact h⟩
theorem Fq.int {k L : Nat} {W : Nat → Nat} {n : Int} (h : Fq k W L (.int n)) : -((1000 + L : Nat) : Int) ≤ n ∧ n ≤ ((1000 + L : Nat) : Int) := by
  have := h.sh
  unfold shG at this
  exact this
theorem asc_int {n : Int} (h : -1000000 ≤ n ∧ n ≤ 1000000) : Asc 9 (Str.ofString (toString n)) := by
  refine ⟨?_, ?_⟩
  · rw [PySem.ofString_length]
    exact Nat.le_trans (int_text_length_le10 (a := n) (k := 8) (by decide) (by omega)) (by decide)
  · cases n with
    | ofNat k =>
      intro c hc
      have e : tl (Str.ofString (toString (Int.ofNat k))) = numL k := tl_num k
      rw [e] at hc
      have := numL_digits k c hc
      omega
    | negSucc k =>
      intro c hc
      have e : tl (Str.ofString (toString (Int.negSucc k))) = 45 :: tl (Str.ofString (toString (((k + 1 : Nat) : Int)))) := by
        rw [TL.tl_ofString, TL.tl_ofString]
        show List.map Char.toNat ("-" ++ toString (k + 1)).toList = _
        rw [String.toList_append]
        rfl
      rw [e, tl_num] at hc
      rcases List.mem_cons.mp hc with hc | hc
      · omega
      · have := numL_digits (k + 1) c hc
        omega
end Rp

set_option maxHeartbeats 8000000
/-! Displays of data; the odd things of _law_otherwise. -/
namespace Rp
open PySem PySem.Spec PyProof.Rows L2 TL RZ StX
mutual
inductive Lq where
  | non
  | bl (b : Bool)
  | i (n : Int)
  | m (n : Int)
  | s (x : Str)
  | t (l : Lqs)
  | l (l : Lqs)
inductive Lqs where
  | nil
  | cons (a : Lq) (r : Lqs)
end
mutual
def Lq.te : Lq → TE
  | .non => tC .non
  | .bl b => tC (.bl b)
  | .i n => tC (.int n)
  | .m n => tUn (rU fun i => .int (-i)) (tC (.int n))
  | .s x => tC (.str x)
  | .t l => tTup l.ta
  | .l l => tLst l.ta
def Lqs.ta : Lqs → TA
  | .nil => tNil
  | .cons a r => tCons a.te r.ta
end
mutual
def Lq.d : Lq → PyData
  | .non => .none
  | .bl b => .bool b
  | .i n => .int n
  | .m n => .int (-n)
  | .s x => .str x
  | .t l => .tuple l.ds
  | .l l => .list l.ds
def Lqs.ds : Lqs → List PyData
  | .nil => []
  | .cons a r => a.d :: r.ds
end
def Lqs.len : Lqs → Nat
  | .nil => 0
  | .cons _ r => r.len + 1
mutual
def Lq.ok : Lq → Prop
  | .t l => l.len ≤ 1000 ∧ l.ok
  | .l l => l.len ≤ 1000 ∧ l.ok
  | _ => True
def Lqs.ok : Lqs → Prop
  | .nil => True
  | .cons a r => a.ok ∧ r.ok
end
theorem Lqs.ds_len : ∀ l : Lqs, l.ds.length = l.len
  | .nil => rfl
  | .cons _ r => congrArg (· + 1) r.ds_len
/-- no new list stands at b -/
def Apart (H H' : Hp) (b : Addr) : Prop := H' b = none ∨ ∃ o, H b = some o
theorem Apart.less {H H1 H' : Hp} {b : Addr} (s : Same H1 H') (h : Apart H H' b) : Apart H H1 b := h.imp (fun z => by
  cases e : H1 b with
  | none => rfl
  | some o => rw [s _ _ e] at z; cases z) id
theorem Apart.step {H H1 H' : Hp} {b : Addr} (s : Same H H1) (h : Apart H H' b) : Apart H1 H' b := h.imp id fun ⟨o, e⟩ => ⟨o, s _ _ e⟩
theorem Apart.ne {H H1 : Hp} {b p : Addr} {o : HO} (s : Same H H1) (hp : H1 p = none) (h : Apart H (upd H1 p o) b) : p ≠ b := by
  rintro rfl
  rcases h with h | ⟨u, h⟩
  · rw [upd_same] at h; cases h
  · rw [s _ _ h] at hp; cases hp
mutual
theorem Lq.run {σ : L2.St} : ∀ (L : Lq) {H : Hp} {Q : V → Hp → Prop}, L.ok → (∀ (v : V) (H' : Hp), (∀ b, Apart H H' b → DAt H' b v L.d) → Same H H' → Q v H') → L.te σ H Q
  | .non, H, Q, _, q => q _ H (fun b _ => by unfold Lq.d DAt; rfl) (Same.refl H)
  | .bl c, H, Q, _, q => q _ H (fun b _ => by unfold Lq.d DAt; rfl) (Same.refl H)
  | .i n, H, Q, _, q => q _ H (fun b _ => by unfold Lq.d DAt; rfl) (Same.refl H)
  | .m n, H, Q, _, q => ⟨n, rfl, q _ H (fun b _ => by unfold Lq.d DAt; rfl) (Same.refl H)⟩
  | .s x, H, Q, _, q => q _ H (fun b _ => by unfold Lq.d DAt; rfl) (Same.refl H)
  | .t l, H, Q, ⟨hl, ho⟩, q => Lqs.run l ho fun xs H1 hn hx s1 => by
    have big : (1000 : Nat) ≤ sizeLine := by decide
    refine ⟨by rw [hn]; exact Nat.le_trans hl big, fun p hp => ?_⟩
    have s2 := same_new hp (.tup xs)
    exact q _ _ (fun b hb => by unfold Lq.d DAt; exact ⟨p, xs, rfl, .inl upd_same, (hx b (hb.less s2)).same s2⟩) (s1.trans s2)
  | .l l, H, Q, ⟨hl, ho⟩, q => Lqs.run l ho fun xs H1 hn hx s1 => by
    have big : (1000 : Nat) ≤ sizeLine := by decide
    refine ⟨by rw [hn]; exact Nat.le_trans hl big, fun p hp => ?_⟩
    have s2 := same_new hp (.lst xs)
    exact q _ _ (fun b hb => by unfold Lq.d DAt; exact ⟨p, xs, rfl, hb.ne s1 hp, upd_same, (hx b (hb.less s2)).same s2⟩) (s1.trans s2)
theorem Lqs.run {σ : L2.St} : ∀ (L : Lqs) {H : Hp} {Q : List V → Hp → Prop}, L.ok → (∀ (v : List V) (H' : Hp), v.length = L.len → (∀ b, Apart H H' b → DAtAll H' b v L.ds) → Same H H' → Q v H') → L.ta σ H Q
  | .nil, H, Q, _, q => q _ H rfl (fun b _ => by unfold Lqs.ds; exact DAtAll.nil) (Same.refl H)
  | .cons a r, H, Q, ⟨h1, h2⟩, q => Lq.run a h1 fun v H1 hv s1 => Lqs.run r h2 fun xs H2 hn hx s2 =>
    q _ _ (congrArg (· + 1) hn) (fun b hb => by unfold Lqs.ds; exact DAtAll.cons ((hv b (hb.less s2)).same s2) (hx b (hb.step s1))) (s1.trans s2)
end
theorem Lq.runE {σ : L2.St} (L : Lq) (te : TE) (e : L.te = te) {H : Hp} {Q : V → Hp → Prop} (h : L.ok) (q : ∀ (v : V) (H' : Hp), (∀ b, Apart H H' b → DAt H' b v L.d) → Same H H' → Q v H') : te σ H Q := e ▸ Lq.run L h q
theorem seq_asg {te : TE} {g : TG} {rest : TS} {D : Ends} {σ : L2.St} {H : Hp} (h : te σ H fun v H1 => g v σ H1 fun σ2 H2 => rest D σ2 H2) : tSeq (tAsg te g) rest D σ H := h
def oddL : Lq := .l (.cons (.non) (.cons (.bl true) (.cons (.bl false) (.cons (.m 1) (.cons (.i 100) (.cons (.i 99) (.cons (.i 0) (.cons (.i 1) (.cons (.s "") (.cons (.s "s") (.cons (.s "f") (.cons (.s "0") (.cons (.s "if") (.cons (.s "nat") (.cons (.s "natural") (.cons (.t .nil) (.cons (.l .nil) (.cons (.t (.cons (.s "0") .nil)) (.cons (.l (.cons (.s "0") .nil)) (.nil))))))))))))))))))))
def oddDs : List PyData := match oddL.d with | .list ds => ds | _ => []
theorem odd_len : oddDs.length = 19 := rfl
theorem oddL_ok : oddL.ok := by simp [oddL, Lq.ok, Lqs.ok, Lqs.len]
theorem asc_of {L : Nat} {x : Str} (h : (decide (x.length ≤ L) && (tl x).all (fun c => decide (c < 128))) = true) : Asc L x := by
  rw [Bool.and_eq_true, decide_eq_true_iff, List.all_eq_true] at h
  exact ⟨h.1, fun c hc => of_decide_eq_true (h.2 c hc)⟩
theorem fq_non {k L : Nat} {W : Nat → Nat} : Fq k W L .none := ⟨rfl, Nat.zero_le _, by unfold shG; trivial⟩
theorem fq_bl {k L : Nat} {W : Nat → Nat} {c : Bool} : Fq k W L (.bool c) := ⟨rfl, Nat.zero_le _, by unfold shG; trivial⟩
theorem odd_fq : ∀ e ∈ oddDs, Fq 1 (fun _ => 1) 7 e ∧ nd e ≤ 2 := by
  intro e he
  have he : e ∈ [PyData.none, .bool true, .bool false, .int (-1), .int 100, .int 99, .int 0, .int 1, .str "", .str "s", .str "f", .str "0", .str "if", .str "nat", .str "natural", .tuple [], .list [], .tuple [.str "0"], .list [.str "0"]] := he
  have n1 : ∀ x : Str, nd (.str x) ≤ 2 := fun x => by simp [nd]
  have i1 : ∀ n : Int, nd (.int n) ≤ 2 := fun x => by simp [nd]
  have z : Fq 0 (fun _ => 1) 7 (.str "0") := Asc.fq (asc_of (by decide +kernel))
  simp only [List.mem_cons, List.not_mem_nil, or_false] at he
  rcases he with rfl | rfl | rfl | rfl | rfl | rfl | rfl | rfl | rfl | rfl | rfl | rfl | rfl | rfl | rfl | rfl | rfl | rfl | rfl
  · exact ⟨fq_non, by simp [nd]⟩
  · exact ⟨fq_bl, by simp [nd]⟩
  · exact ⟨fq_bl, by simp [nd]⟩
  · exact ⟨fq_int (by omega), i1 _⟩
  · exact ⟨fq_int (by omega), i1 _⟩
  · exact ⟨fq_int (by omega), i1 _⟩
  · exact ⟨fq_int (by omega), i1 _⟩
  · exact ⟨fq_int (by omega), i1 _⟩
  · exact ⟨Asc.fq (asc_of (by decide +kernel)), n1 _⟩
  · exact ⟨Asc.fq (asc_of (by decide +kernel)), n1 _⟩
  · exact ⟨Asc.fq (asc_of (by decide +kernel)), n1 _⟩
  · exact ⟨Asc.fq (asc_of (by decide +kernel)), n1 _⟩
  · exact ⟨Asc.fq (asc_of (by decide +kernel)), n1 _⟩
  · exact ⟨Asc.fq (asc_of (by decide +kernel)), n1 _⟩
  · exact ⟨Asc.fq (asc_of (by decide +kernel)), n1 _⟩
  · exact ⟨fq_tup.mpr ⟨by simp, by simp⟩, by simp [nd, ndAll]⟩
  · exact ⟨fq_list.mpr ⟨by simp, by simp⟩, by simp [nd, ndAll]⟩
  · exact ⟨fq_tup.mpr ⟨by simp, by simpa using z⟩, by simp [nd, ndAll]⟩
  · exact ⟨fq_list.mpr ⟨by simp, by simpa using z⟩, by simp [nd, ndAll]⟩
end Rp

set_option maxHeartbeats 8000000
/-! A row: a list or a tuple by turns, among data. -/
namespace Rp
open PySem PySem.Spec PyProof.Rows L2 TL RZ StX
def RowAt (H : Hp) (a : Addr) (kd : Bool) (xs : List V) : Prop := if kd = true then TupAt H a xs else H a = some (.lst xs)
def rowD (kd : Bool) (ds : List PyData) : PyData := if kd = true then .tuple ds else .list ds
theorem rowAt_sq {K : PySem.W.Frag} {H : Hp} {a : Addr} {kd : Bool} {xs : List V} (h : RowAt H a kd xs) : SqL K H a xs ∨ SqT K H a xs := by
  cases kd with
  | true => exact .inr (.inl h)
  | false => exact .inl (.inl (.inl h))
theorem RowAt.same {H H' : Hp} {a : Addr} {kd : Bool} {xs : List V} (s : Same H H') (h : RowAt H a kd xs) : RowAt H' a kd xs := by
  cases kd with
  | true => exact TupAt.same s h
  | false => exact s _ _ h
theorem RowAt.but {H H' : Hp} {b a : Addr} {ys xs : List V} {kd : Bool} (o : But b H H') (hb : H b = some (.lst ys)) (ab : a ≠ b) (h : RowAt H a kd xs) : RowAt H' a kd xs := by
  cases kd with
  | true => exact TupAt.but o hb h
  | false => exact o _ _ h ab
theorem row_of {H : Hp} {b : Addr} {v : V} {d : PyData} {ys : List V} (D : DAt H b v d) (hb : H b = some (.lst ys)) (h : (isL d || isU d) = true) : ∃ (a : Addr) (xs : List V) (ds : List PyData) (kd : Bool), v = .ref a ∧ a ≠ b ∧ RowAt H a kd xs ∧ DAtAll H b xs ds ∧ d = rowD kd ds := by
  cases d with
  | list ds =>
    obtain ⟨a, xs, rfl, ab, ha, A⟩ := D.lst_of
    exact ⟨a, xs, ds, false, rfl, ab, ha, A, rfl⟩
  | tuple ds =>
    obtain ⟨a, xs, rfl, ha, A⟩ := D.tup_of
    refine ⟨a, xs, ds, true, rfl, ?_, ha, A, rfl⟩
    rintro rfl
    rcases ha with ha | ⟨o, ha⟩ <;> (rw [ha] at hb; cases hb)
  | _ => cases h
theorem rowD_U {kd : Bool} {ds : List PyData} : isU (rowD kd ds) = kd := by cases kd <;> rfl
theorem rowD_L {kd : Bool} {ds : List PyData} : isL (rowD kd ds) = !kd := by cases kd <;> rfl
theorem fq_row {k L : Nat} {W : Nat → Nat} {kd : Bool} {ds : List PyData} : Fq (k + 1) W L (rowD kd ds) ↔ ds.length ≤ W 0 ∧ ∀ d ∈ ds, Fq k (fun i => W (i + 1)) L d := by
  cases kd with
  | true => exact fq_tup
  | false => exact fq_list
theorem nd_row {kd : Bool} {ds : List PyData} : nd (rowD kd ds) = ndAll ds + 1 := by cases kd <;> (unfold rowD; simp [nd])
theorem dp_row {kd : Bool} {ds : List PyData} : (rowD kd ds).depth = PyData.depthAll ds + 1 := by cases kd <;> rfl
/-- an item put in place of another, told exactly -/
theorem ndAll_put : ∀ {ds : List PyData} {i : Nat} {e d : PyData}, ds[i]? = some d → ndAll (ds.set i e) + nd d = ndAll ds + nd e
  | [], _, _, _, h => by simp at h
  | c :: ds, 0, e, d, h => by
    simp at h
    subst h
    simp only [List.set_cons_zero, ndAll]; omega
  | c :: ds, i + 1, e, d, h => by
    have := ndAll_put (ds := ds) (i := i) (e := e) (d := d) (by simpa using h)
    simp only [List.set_cons_succ, ndAll]; omega
theorem DAtAll.put {H : Hp} {b : Addr} {x : V} {e : PyData} (D : DAt H b x e) : ∀ {xs : List V} {ds : List PyData} {i : Nat}, DAtAll H b xs ds → DAtAll H b (xs.set i x) (ds.set i e)
  | [], ds, i, h => by
    have := h.len
    cases ds with
    | nil => simpa using h
    | cons => simp at this
  | y :: xs, ds, 0, h => by
    obtain ⟨d, ds', rfl, h1, h2⟩ := h.head
    exact .cons D h2
  | y :: xs, ds, i + 1, h => by
    obtain ⟨d, ds', rfl, h1, h2⟩ := h.head
    exact .cons h1 (DAtAll.put D h2)
theorem DAtAll.erase {H : Hp} {b : Addr} : ∀ {xs : List V} {ds : List PyData} {i : Nat}, DAtAll H b xs ds → DAtAll H b (xs.eraseIdx i) (ds.eraseIdx i)
  | [], ds, i, h => by
    have := h.len
    cases ds with
    | nil => simpa using h
    | cons => simp at this
  | y :: xs, ds, 0, h => by
    obtain ⟨d, ds', rfl, h1, h2⟩ := h.head
    exact h2
  | y :: xs, ds, i + 1, h => by
    obtain ⟨d, ds', rfl, h1, h2⟩ := h.head
    exact .cons h1 (DAtAll.erase h2)
theorem row_dat {H : Hp} {b a : Addr} {kd : Bool} {xs : List V} {ds : List PyData} (ab : a ≠ b) (h : RowAt H a kd xs) (A : DAtAll H b xs ds) : DAt H b (.ref a) (rowD kd ds) := by
  cases kd with
  | true => unfold rowD; rw [if_pos rfl]; unfold DAt; exact ⟨a, xs, rfl, h, A⟩
  | false => unfold rowD; rw [if_neg (by decide)]; unfold DAt; exact ⟨a, xs, rfl, ab, h, A⟩
end Rp

set_option maxHeartbeats 8000000
namespace Rp
open PySem PySem.Spec PyProof.Rows L2 TL RZ StX
/-- what avoided a list still does -/
def Av (H H' : Hp) (b : Addr) (v : V) (d : PyData) (v' : V) (d' : PyData) : Prop := ∀ c ys, c ≠ b → H c = some (.lst ys) → DAt H c v d → DAt H' c v' d'
theorem tupAt_one {H : Hp} {a : Addr} {xs ys : List V} (h : TupAt H a xs) (h' : TupAt H a ys) : xs = ys := by
  rcases h with h | ⟨o, h⟩
  · rcases h' with h' | ⟨o', h'⟩
    · rw [h] at h'; cases h'; rfl
    · rw [h] at h'; cases h'
  · rcases h' with h' | ⟨o', h'⟩
    · rw [h] at h'; cases h'
    · rw [h] at h'; cases h'; rfl
mutual
theorem DAt.both {H H' : Hp} {b c : Addr} (et : ∀ a xs, TupAt H a xs → TupAt H' a xs) (el : ∀ a xs, a ≠ b → a ≠ c → H a = some (.lst xs) → H' a = some (.lst xs)) : ∀ (d : PyData) {v : V}, DAt H b v d → DAt H c v d → DAt H' c v d
  | .none, _, h, _ => by unfold DAt at h ⊢; exact h
  | .bool _, _, h, _ => by unfold DAt at h ⊢; exact h
  | .int _, _, h, _ => by unfold DAt at h ⊢; exact h
  | .str _, _, h, _ => by unfold DAt at h ⊢; exact h
  | .list ds, _, h, h' => by
    unfold DAt at h h' ⊢
    obtain ⟨a, xs, rfl, n, q, q'⟩ := h
    obtain ⟨a', xs', e, n', p, p'⟩ := h'
    cases e
    rw [q] at p
    cases p
    exact ⟨a, xs, rfl, n', el _ _ n n' q, DAtAll.both et el ds q' p'⟩
  | .tuple ds, _, h, h' => by
    unfold DAt at h h' ⊢
    obtain ⟨a, xs, rfl, q, q'⟩ := h
    obtain ⟨a', xs', e, p, p'⟩ := h'
    cases e
    cases tupAt_one q p
    exact ⟨a, xs, rfl, et _ _ q, DAtAll.both et el ds q' p'⟩
  | .dict _, _, h, _ => by unfold DAt at h; exact h.elim
theorem DAtAll.both {H H' : Hp} {b c : Addr} (et : ∀ a xs, TupAt H a xs → TupAt H' a xs) (el : ∀ a xs, a ≠ b → a ≠ c → H a = some (.lst xs) → H' a = some (.lst xs)) : ∀ (ds : List PyData) {xs : List V}, DAtAll H b xs ds → DAtAll H c xs ds → DAtAll H' c xs ds
  | [], _, h, _ => by unfold DAtAll at h ⊢; exact h
  | d :: ds, _, h, h' => by
    unfold DAtAll at h h' ⊢
    obtain ⟨x, r, rfl, q, q'⟩ := h
    obtain ⟨x', r', e, p, p'⟩ := h'
    cases e
    exact ⟨x, r, rfl, DAt.both et el d q p, DAtAll.both et el ds q' p'⟩
end
mutual
theorem DAt.shift {H H' : Hp} {b c : Addr} (et : ∀ a xs, TupAt H a xs → TupAt H' a xs) (el : ∀ a xs, a ≠ b → H a = some (.lst xs) → a ≠ c ∧ H' a = some (.lst xs)) : ∀ (d : PyData) {v : V}, DAt H b v d → DAt H' c v d
  | .none, _, h => by unfold DAt at h ⊢; exact h
  | .bool _, _, h => by unfold DAt at h ⊢; exact h
  | .int _, _, h => by unfold DAt at h ⊢; exact h
  | .str _, _, h => by unfold DAt at h ⊢; exact h
  | .list ds, _, h => by
    unfold DAt at h ⊢
    obtain ⟨a, xs, rfl, n, q, q'⟩ := h
    exact ⟨a, xs, rfl, (el _ _ n q).1, (el _ _ n q).2, DAtAll.shift et el ds q'⟩
  | .tuple ds, _, h => by
    unfold DAt at h ⊢
    obtain ⟨a, xs, rfl, q, q'⟩ := h
    exact ⟨a, xs, rfl, et _ _ q, DAtAll.shift et el ds q'⟩
  | .dict _, _, h => by unfold DAt at h; exact h.elim
theorem DAtAll.shift {H H' : Hp} {b c : Addr} (et : ∀ a xs, TupAt H a xs → TupAt H' a xs) (el : ∀ a xs, a ≠ b → H a = some (.lst xs) → a ≠ c ∧ H' a = some (.lst xs)) : ∀ (ds : List PyData) {xs : List V}, DAtAll H b xs ds → DAtAll H' c xs ds
  | [], _, h => by unfold DAtAll at h ⊢; exact h
  | d :: ds, _, h => by
    unfold DAtAll at h ⊢
    obtain ⟨x, r, rfl, q, q'⟩ := h
    exact ⟨x, r, rfl, DAt.shift et el d q, DAtAll.shift et el ds q'⟩
end
theorem But.tup {b : Addr} {ys : List V} {H H' : Hp} (o : But b H H') (hb : H b = some (.lst ys)) : ∀ a xs, TupAt H a xs → TupAt H' a xs := fun a xs h => TupAt.but o hb h
theorem DAt.both_but {H H' : Hp} {b c : Addr} {ys : List V} (o : But b H H') (hb : H b = some (.lst ys)) {d : PyData} {v : V} (h : DAt H b v d) (h' : DAt H c v d) : DAt H' c v d := DAt.both (o.tup hb) (fun a xs n _ q => o _ _ q n) d h h'
theorem DAtAll.both_but {H H' : Hp} {b c : Addr} {ys : List V} (o : But b H H') (hb : H b = some (.lst ys)) {d : List PyData} {v : List V} (h : DAtAll H b v d) (h' : DAtAll H c v d) : DAtAll H' c v d := DAtAll.both (o.tup hb) (fun a xs n _ q => o _ _ q n) d h h'
theorem DAtAll.item {H : Hp} {b : Addr} {xs : List V} {ds : List PyData} {i : Nat} {x : V} {e : PyData} (A : DAtAll H b xs ds) (hx : xs[i]? = some x) (he : ds[i]? = some e) : DAt H b x e := by
  obtain ⟨e', h1, h2⟩ := A.get hx
  rw [he] at h1
  cases h1
  exact h2
abbrev NOt : List Str := ["_law_box_here", "_law_thing", "_law_at", "_law_parts", "_law_way", "_law_odd"]
def spOth (n : Nat) : Sp := fun vs H Q _ => ∃ (b : Addr) (v : V) (d : PyData) (j k : Nat) (W : Nat → Nat) (L N : Nat), vs = [.ref b, v] ∧ BoxAt H b j ∧ j + 3 * n ≤ 1000000 ∧ DAt H b v d ∧ Fq k W L d ∧ nd d ≤ N ∧ N ≤ 100000 ∧ L ≤ 1000 ∧ d.depth < n ∧
  ∀ (v' : V) (d' : PyData) (H' : Hp), DAt H' b v' d' → Av H H' b v d v' d' → Fq (k + 1) (fun i => W i + 1) (L + 9) d' → nd d' ≤ 2 * N + 3 → BoxAt H' b (j + 3 * n) → But b H H' → Q v' H'
theorem log_few {m : Nat} (h : m ≤ 200000) : m.log2 < 1920 := by
  have h2 : m.log2 ≤ m := Nat.log2_le_self m
  rcases Nat.lt_or_ge m.log2 1920 with z | z
  · exact z
  · have h0 : m ≠ 0 := by omega
    have := (Nat.le_log2 h0).mp z
    have big : (200000 : Nat) < 2 ^ 1920 := by decide +kernel
    omega
theorem ix_at {xs : List V} {i : Nat} (h : i < xs.length) : ixN xs.length (i : Nat) = some i := by
  unfold ixN
  rw [if_pos (by omega), if_pos (by omega)]
  rfl
theorem seqIx_of {i n : Nat} (h : i < n) : seqIndex? (i : Nat) n = some i := by
  have h2 : ¬ ((i : Nat) : Int) < 0 := by omega
  simp [seqIndex?, h2, h]
theorem row_ix {K : PySem.W.Frag} {H : Hp} {a : Addr} {kd : Bool} {xs : List V} {i : Nat} {v : V} {Q : V → Hp → Prop} (h : RowAt H a kd xs) (e : xs[i]? = some v) (q : Q v H) : rIx K (.ref a) (.int (i : Nat)) H Q := by
  rcases rowAt_sq (K := K) h with h | h
  · exact .inl ⟨a, xs, _, v, rfl, rfl, h, at_of (j := i) rfl e, q⟩
  · exact .inr (.inl ⟨a, xs, _, v, rfl, rfl, h, at_of (j := i) rfl e, q⟩)
theorem mem_put {α : Type} {xs : List α} {i : Nat} {y x : α} (h : x ∈ xs.set i y) : x ∈ xs ∨ x = y := by
  rcases List.mem_or_eq_of_mem_set h with h | h
  · exact .inl h
  · exact .inr h
theorem row_dc {H : Hp} {c a : Addr} {kd : Bool} {xs : List V} {ds : List PyData} (h : RowAt H a kd xs) (D : DAt H c (.ref a) (rowD kd ds)) : DAtAll H c xs ds := by
  cases kd with
  | true =>
    obtain ⟨a', xs', e, h', A⟩ := (show DAt H c (.ref a) (.tuple ds) from D).tup_of
    cases e
    cases tupAt_one h h'
    exact A
  | false =>
    obtain ⟨a', xs', e, _, h', A⟩ := (show DAt H c (.ref a) (.list ds) from D).lst_of
    cases e
    rw [show H a = some (.lst xs) from h] at h'
    cases h'
    exact A
section
variable {P : Program} {w : World} {K : PySem.W.Frag} {mg : Str → Option Value} {base : Heap}
theorem scOth : FnScope NOt ["_law_box_here", "_law_thing"] (defScope sOther) := ⟨rfl, rfl, rfl, by decide +kernel, rfl, by decide +kernel, by decide +kernel⟩
theorem ok_oth {n : Nat} {f fT : Addr} {fd dT : FuncData} (F : Fun K "_law_otherwise" "_law_otherwise" sOther f fd) (bF : Binds K fd ["_law_box_here", "_law_thing"] []) (mF : mg "_law_otherwise" = some (.ref f))
    (G : FnOk P w K mg base CX0 (n + 1) f fd ["_law_box_here", "_law_thing"] (spOth n))
    (GT : FnOk P w K mg base CX0 1 fT dT ["_law_box_here", "_law_reach"] spTake) (kT : PySem.W.keepIn K (.ref fT) = true) (bT : Binds K dT ["_law_box_here", "_law_reach"] []) (mT : mg "_law_take" = some (.ref fT)) (M : SameG mg) :
    FnOk P w K mg base CX0 (n + 2) f fd ["_law_box_here", "_law_thing"] (spOth (n + 1)) := by
  refine F.ok scOth (fun vs H Q E h => ?_) (fun cdv A outer s H vs Q E hr h => ?_)
  · obtain ⟨b, v, d, j, k, W, L, N, rfl, _⟩ := h
    rfl
  obtain ⟨b, v, d, j, k, W, L, N, rfl, B, hj, D, fq, hn, hN, hL, hdp, q⟩ := h
  have r1 : Room 1 _ := hr.mono (by omega)
  refine ⟨_, (pss_cons (ps_if (PW.pt (pw_and (pt_val (pe_callB (id := "isinstance") call_isiT (by rfl) M.isi (by decide +kernel) (pa_cons (pv 1) (pa_cons (pe_tup (pa_cons (pe_bltn (v := .ty "list") (by rfl) M.list (by decide +kernel) rfl) (pa_cons (pe_bltn (v := .ty "tuple") (by rfl) M.tuple (by decide +kernel) rfl) pa_nil))) pa_nil)))) (pw_and (pt_cmpR op_gt (pe_callB call_len_seq (by rfl) M.len PySem.boot_len (pa_cons (pv 1) pa_nil)) pe_int (nomark _)) (pw_and1 (pt_cmpR op_gt (pe_call GT r1 rfl mT kT bT .nil pass0 (pa_cons (pv 0) (pa_cons pe_int pa_nil))) pe_int (nomark _)))))) (pss_cons (ps_par3 (i := 2) (j := 3) (l := 4) rfl scOth.nd rfl rfl rfl (by decide) (by decide) (by decide) rfl rfl rfl (pa_cons (pe_call GT r1 rfl mT kT bT .nil pass0 (pa_cons (pv 0) (pa_cons (pe_callB call_len_seq (by rfl) M.len PySem.boot_len (pa_cons (pv 1) pa_nil)) pa_nil))) (pa_cons (pe_callTy call_list_of (by rfl) M.list (by decide +kernel) (pa_cons (pv 1) pa_nil)) (pa_cons (pe_call GT r1 rfl mT kT bT .nil pass0 (pa_cons (pv 0) (pa_cons pe_int pa_nil))) pa_nil))) (by rfl))
    (pss_cons (ps_if (pt_cmpR op_lt (pv 4) pe_int (nomark _)) (pss_one (ps_asg (pe_call G hr rfl mF F.kp bF .nil pass0 (pa_cons (pv 0) (pa_cons (pe_ix ix_seq (pv 1) (pv 2) (fun _ _ => rfl)) pa_nil))) (pg_sub (pv 3) (pv 2) set_list))) (pss_one (ps_if (pt_cmpR op_eq (pv 4) pe_int (nomark _)) (pss_one (ps_expr (pe_bm PySem.F.plainAttrs_list PySem.F.slot_list_pop PySem.F.type_list_pop mt_popAt (pv 3) (pa_cons (pv 2) pa_nil)))) (pss_one (ps_if (pt_cmpR op_eq (pv 4) pe_int (nomark _)) (pss_one (ps_expr (pe_bm PySem.F.plainAttrs_list PySem.F.slot_list_insert PySem.F.type_list_insert mt_insert (pv 3) (pa_cons (pv 2) (pa_cons (pe_ix ix_seq (pv 1) (pv 2) (fun _ _ => rfl)) pa_nil))))) (pss_one (ps_if (pt_cmpR op_eq (pv 4) pe_int (nomark _)) (pss_one (ps_expr (pe_bm0 PySem.F.plainAttrs_list PySem.F.slot_list_reverse PySem.F.type_list_reverse mt_reverse (pv 3)))) (pss_one (ps_ret (pe_ifExp (pt_val (pe_callB (id := "isinstance") call_isi (by rfl) M.isi (by decide +kernel) (pa_cons (pv 1) (pa_cons (pe_bltn (v := .ty "tuple") (by rfl) M.tuple (by decide +kernel) rfl) pa_nil)))) (pv 3) (pe_callTy call_tuple_of (by rfl) M.tuple (by decide +kernel) (pa_cons (pv 3) pa_nil))))))))))))
    (pss_one (ps_ret (pe_ifExp (pt_val (pe_callB (id := "isinstance") call_isi (by rfl) M.isi (by decide +kernel) (pa_cons (pv 1) (pa_cons (pe_bltn (v := .ty "list") (by rfl) M.list (by decide +kernel) rfl) pa_nil)))) (pv 3) (pe_callTy call_tuple_of (by rfl) M.tuple (by decide +kernel) (pa_cons (pv 3) pa_nil))))))) pss_nil)
    (pss_cons (ps_set (i := 5) scOth.nd rfl (Or.inl rfl) (pe_lst (pa_cons pe_non (pa_cons pe_bl (pa_cons pe_bl (pa_cons (pe_un un_neg pe_int) (pa_cons pe_int (pa_cons pe_int (pa_cons pe_int (pa_cons pe_int (pa_cons pe_str (pa_cons pe_str (pa_cons pe_str (pa_cons pe_str (pa_cons pe_str (pa_cons pe_str (pa_cons pe_str (pa_cons (pe_tup pa_nil) (pa_cons (pe_lst pa_nil) (pa_cons (pe_tup (pa_cons pe_str pa_nil)) (pa_cons (pe_lst (pa_cons pe_str pa_nil)) pa_nil)))))))))))))))))))))
    (pss_cons (ps_if (PW.pt (pw_and (pt_val (pe_callB (id := "isinstance") call_isi (by rfl) M.isi (by decide +kernel) (pa_cons (pv 1) (pa_cons (pe_bltn (v := .ty "str") (by rfl) M.str (by decide +kernel) rfl) pa_nil)))) (pw_and1 (pt_cmpR op_gt (pe_call GT r1 rfl mT kT bT .nil pass0 (pa_cons (pv 0) (pa_cons pe_int pa_nil))) pe_int (nomark _))))) (pss_one (ps_ret (pe_ix ix_list (pe_lst (pa_cons (pe_op op_add_str (pv 1) pe_str) (pa_cons (pe_slice sl_str (pv 1) (po_some pe_int) po_none) (pa_cons (pe_upper (pv 1)) (pa_cons (pe_op op_add_str (pv 1) pe_str) (pa_cons (pe_op op_add_str (pv 1) pe_str) pa_nil)))))) (pe_call GT r1 rfl mT kT bT .nil pass0 (pa_cons (pv 0) (pa_cons pe_int pa_nil))) (fun _ _ => rfl)))) pss_nil)
    (pss_cons (ps_if (PW.pt (pw_and (pt_val (pe_callB (id := "isinstance") call_isi (by rfl) M.isi (by decide +kernel) (pa_cons (pv 1) (pa_cons (pe_bltn (v := .ty "int") (by rfl) M.int (by decide +kernel) rfl) pa_nil)))) (pw_and (pt_not (pt_val (pe_callB (id := "isinstance") call_isi (by rfl) M.isi (by decide +kernel) (pa_cons (pv 1) (pa_cons (pe_bltn (v := .ty "bool") (by rfl) M.bool (by decide +kernel) rfl) pa_nil))))) (pw_and1 (pt_cmpR op_gt (pe_call GT r1 rfl mT kT bT .nil pass0 (pa_cons (pv 0) (pa_cons pe_int pa_nil))) pe_int (nomark _)))))) (pss_one (ps_ret (pe_ix ix_list (pe_lst (pa_cons (pe_op op_add (pv 1) pe_int) (pa_cons (pe_op op_sub (pv 1) pe_int) (pa_cons (pe_op op_sub pe_int (pv 1)) (pa_cons pe_int (pa_cons pe_int (pa_cons (pe_callTy call_str_int (by rfl) M.str (by decide +kernel) (pa_cons (pv 1) pa_nil)) pa_nil))))))) (pe_call GT r1 rfl mT kT bT .nil pass0 (pa_cons (pv 0) (pa_cons pe_int pa_nil))) (fun _ _ => rfl)))) pss_nil)
    (pss_one (ps_ret (pe_ix ix_list (pv 5) (pe_call GT r1 rfl mT kT bT .nil pass0 (pa_cons (pv 0) (pa_cons (pe_callB call_len_seq (by rfl) M.len PySem.boot_len (pa_cons (pv 5) pa_nil)) pa_nil))) (fun _ _ => rfl)))))))), ?_⟩
  obtain ⟨ys, hb⟩ := B.some
  refine ⟨_, rfl, (by show 2 ≤ sizeLine; decide), fun p0 hp0 => ?_⟩
  have s1 := same_new hp0 (.tup [V.ty "list", V.ty "tuple"])
  refine ⟨_, p0, _, _, [.type "list", .type "tuple"], isL d || isU d, rfl, upd_same, .cons (.ty _) (.cons (.ty _) .nil), (D.same s1).tyx, kit_lt (kitL (K := K) d) (kitU (K := K) d), _, rfl, ?_⟩
  have B1 := B.same s1
  have D1 := D.same s1
  have hb1 := s1 _ _ hb
  generalize upd H p0 (.tup [V.ty "list", V.ty "tuple"]) = H1 at s1 B1 D1 hb1 ⊢
  have o1 := but_of (b := b) s1
  cases hrow : (isL d || isU d) with
  | false =>
    refine iteF (iteF ?_)
    refine seq_asg (Lq.runE oddL _ rfl oddL_ok fun vo H2 Do s2 => ?_)
    obtain ⟨p, xs, rfl, pb, hp, Ao⟩ := (show DAt H2 b vo (.list oddDs) from Do b (.inr ⟨_, hb1⟩)).lst_of
    have Ac : ∀ c ys, c ≠ b → H c = some (.lst ys) → DAtAll H2 c xs oddDs := fun c ys cb hc => by
      obtain ⟨p', xs', e, _, h', A'⟩ := (show DAt H2 c (.ref p) (.list oddDs) from Do c (.inr ⟨_, o1 _ _ hc cb⟩)).lst_of
      cases e
      rw [hp] at h'
      cases h'
      exact A'
    have xl : xs.length = 19 := Ao.len
    have D2 := D1.same s2
    have B2 := B1.same s2
    have hb2 := s2 _ _ hb1
    have o2 : But b H H2 := o1.trans (but_of s2)
    refine ⟨_, rfl, _, _, _, _, isS d, rfl, .ty "str", D2.tyx, kitS d, isS d, rfl, ?_⟩
    cases d with
    | none =>
      refine iteF (iteF ?_)
      refine ⟨_, rfl, _, _, _, _, false, rfl, .ty "int", D2.tyx, kitI _, false, rfl, iteF (iteF ?_)⟩
      have hp3 := hp
      have B3 := B2
      have Ao3 := Ao
      have Ac3 := Ac
      have hb3 := hb2
      have o3 := o2
      refine ⟨_, rfl, _, rfl, _, rfl, p, xs, rfl, .inl (.inl (.inl hp3)), b, _, _, rfl, B3, by omega, by omega, by omega, fun r H4 c0 c1 B4 o4 => ?_⟩
      have hp4 := o4 _ _ hp3 pb
      obtain ⟨i, hi⟩ := Int.eq_ofNat_of_zero_le c0
      subst hi
      have il : i < xs.length := by omega
      obtain ⟨e, he, De⟩ := Ao3.get (List.getElem?_eq_getElem il)
      obtain ⟨fe, ne⟩ := odd_fq e (List.mem_of_getElem? he)
      have k1 : 1 ≤ k + 1 := by omega
      exact ⟨p, xs, _, xs[i], rfl, rfl, .inl (.inl hp4), at_of (j := i) rfl (List.getElem?_eq_getElem il), q xs[i] e H4 (De.but o4 hb3) (fun c ys cb hc _ => DAt.both_but o4 hb3 De ((Ac3 c ys cb hc).item (List.getElem?_eq_getElem il) he)) (fe.more k1 (fun i => by omega) (by omega)) (by omega) (B4.more (by omega)) (o3.trans o4)⟩
    | dict _ =>
      refine iteF (iteF ?_)
      refine ⟨_, rfl, _, _, _, _, false, rfl, .ty "int", D2.tyx, kitI _, false, rfl, iteF (iteF ?_)⟩
      have hp3 := hp
      have B3 := B2
      have Ao3 := Ao
      have Ac3 := Ac
      have hb3 := hb2
      have o3 := o2
      refine ⟨_, rfl, _, rfl, _, rfl, p, xs, rfl, .inl (.inl (.inl hp3)), b, _, _, rfl, B3, by omega, by omega, by omega, fun r H4 c0 c1 B4 o4 => ?_⟩
      have hp4 := o4 _ _ hp3 pb
      obtain ⟨i, hi⟩ := Int.eq_ofNat_of_zero_le c0
      subst hi
      have il : i < xs.length := by omega
      obtain ⟨e, he, De⟩ := Ao3.get (List.getElem?_eq_getElem il)
      obtain ⟨fe, ne⟩ := odd_fq e (List.mem_of_getElem? he)
      have k1 : 1 ≤ k + 1 := by omega
      exact ⟨p, xs, _, xs[i], rfl, rfl, .inl (.inl hp4), at_of (j := i) rfl (List.getElem?_eq_getElem il), q xs[i] e H4 (De.but o4 hb3) (fun c ys cb hc _ => DAt.both_but o4 hb3 De ((Ac3 c ys cb hc).item (List.getElem?_eq_getElem il) he)) (fe.more k1 (fun i => by omega) (by omega)) (by omega) (B4.more (by omega)) (o3.trans o4)⟩
    | bool c =>
      refine iteF (iteF ?_)
      refine ⟨_, rfl, _, _, _, _, true, rfl, .ty "int", D2.tyx, kitI _, true, rfl, iteT ⟨_, rfl, _, _, _, _, true, rfl, .ty "bool", D2.tyx, kitB' _, true, rfl, iteF (iteF ?_)⟩⟩
      have hp3 := hp
      have B3 := B2
      have Ao3 := Ao
      have Ac3 := Ac
      have hb3 := hb2
      have o3 := o2
      refine ⟨_, rfl, _, rfl, _, rfl, p, xs, rfl, .inl (.inl (.inl hp3)), b, _, _, rfl, B3, by omega, by omega, by omega, fun r H4 c0 c1 B4 o4 => ?_⟩
      have hp4 := o4 _ _ hp3 pb
      obtain ⟨i, hi⟩ := Int.eq_ofNat_of_zero_le c0
      subst hi
      have il : i < xs.length := by omega
      obtain ⟨e, he, De⟩ := Ao3.get (List.getElem?_eq_getElem il)
      obtain ⟨fe, ne⟩ := odd_fq e (List.mem_of_getElem? he)
      have k1 : 1 ≤ k + 1 := by omega
      exact ⟨p, xs, _, xs[i], rfl, rfl, .inl (.inl hp4), at_of (j := i) rfl (List.getElem?_eq_getElem il), q xs[i] e H4 (De.but o4 hb3) (fun c ys cb hc _ => DAt.both_but o4 hb3 De ((Ac3 c ys cb hc).item (List.getElem?_eq_getElem il) he)) (fe.more k1 (fun i => by omega) (by omega)) (by omega) (B4.more (by omega)) (o3.trans o4)⟩
    | str x =>
      cases D2.str_of
      have ax := fq.asc
      have big : (2000000 : Nat) ≤ sizeLine := by decide
      have big2 : (10000 : Nat) ≤ 5592405 := by decide
      have xl' := ax.1
      refine iteT ⟨_, rfl, b, _, _, rfl, B2, by omega, by decide, by decide, fun r H3 c0 c1 B3 o3' => ?_⟩
      refine ⟨_, _, rfl, rfl, decide ((0 : Int) < r), rfl, ?_⟩
      by_cases hr0 : (0 : Int) < r
      · rw [decide_eq_true hr0]
        have a1 : ("a" : Str).length = 1 := by decide +kernel
        have a2 : ("1" : Str).length = 1 := by decide +kernel
        have a3 : ("aaaaaa" : Str).length = 6 := by decide +kernel
        refine iteT ⟨_, rfl, x, "a", rfl, rfl, by omega, _, rfl, 1, rfl, x, rfl, by omega, _, rfl, ⟨x, rfl⟩, x, rfl, rfl, by omega, _, rfl, x, "1", rfl, rfl, by omega, _, rfl, x, "aaaaaa", rfl, rfl, by omega, (by show 5 ≤ sizeLine; decide), fun p5 hp5 => ?_⟩
        obtain ⟨zs, hz⟩ : ∃ zs : List Str, zs = [x ++ "a", cutS x (some 1) none, Txt.upper x, x ++ "1", x ++ "aaaaaa"] := ⟨_, rfl⟩
        have each : ∀ y ∈ zs, Asc (L + 9) y := fun y hy => by
          rw [hz] at hy
          simp only [List.mem_cons, List.not_mem_nil, or_false] at hy
          rcases hy with rfl | rfl | rfl | rfl | rfl
          · exact (asc_add ax (asc_of (L := 1) (by decide +kernel))).more (by omega)
          · exact (asc_cut ax).more (by omega)
          · exact (asc_upper ax).more (by omega)
          · exact (asc_add ax (asc_of (L := 1) (by decide +kernel))).more (by omega)
          · exact (asc_add ax (asc_of (L := 6) (by decide +kernel))).more (by omega)
        have zl : zs.length = 5 := by rw [hz]; rfl
        rw [show [V.str (x ++ "a"), V.str (cutS x (some 1) none), V.str (Txt.upper x), V.str (x ++ "1"), V.str (x ++ "aaaaaa")] = zs.map V.str by rw [hz]; rfl]
        have s5 := same_new hp5 (.lst (zs.map V.str))
        obtain ⟨ys3, hb3⟩ := B3.some
        have p5b := (ne_of_none hb3 hp5).symm
        refine ⟨_, rfl, b, _, _, rfl, B3.same s5, by omega, by decide, by decide, fun r4 H4 d0 d1 B4 o4 => ?_⟩
        obtain ⟨i, hi⟩ := Int.eq_ofNat_of_zero_le d0
        subst hi
        have il : i < zs.length := by omega
        exact ⟨p5, zs.map V.str, _, .str zs[i], rfl, rfl, .inl (.inl (o4 _ _ upd_same p5b)), at_of (j := i) rfl (by rw [List.getElem?_map, List.getElem?_eq_getElem il]; rfl), q _ (.str zs[i]) H4 (by unfold DAt; rfl) (fun c ys _ _ _ => by unfold DAt; rfl) (Asc.fq (each _ (List.getElem_mem il))) (by simp only [nd]; omega) (B4.more (by omega)) (o2.trans (o3'.trans ((but_of s5).trans o4)))⟩
      · rw [decide_eq_false hr0]
        refine iteF ?_
        refine ⟨_, rfl, _, _, _, _, false, rfl, .ty "int", (D2.but o3' hb2).tyx, kitI _, false, rfl, iteF (iteF ?_)⟩
        have hp3 := o3' _ _ hp pb
        have Ao3 := Ao.but o3' hb2
        have Ac3 : ∀ c ys, c ≠ b → H c = some (.lst ys) → DAtAll H3 c xs oddDs := fun c ys cb hc => DAtAll.both_but o3' hb2 Ao (Ac c ys cb hc)
        have hb3 : ∃ ys, H3 b = some (.lst ys) := B3.some
        obtain ⟨ys3, hb3⟩ := hb3
        have o3 := o2.trans o3'
        refine ⟨_, rfl, _, rfl, _, rfl, p, xs, rfl, .inl (.inl (.inl hp3)), b, _, _, rfl, B3, by omega, by omega, by omega, fun r H4 c0 c1 B4 o4 => ?_⟩
        have hp4 := o4 _ _ hp3 pb
        obtain ⟨i, hi⟩ := Int.eq_ofNat_of_zero_le c0
        subst hi
        have il : i < xs.length := by omega
        obtain ⟨e, he, De⟩ := Ao3.get (List.getElem?_eq_getElem il)
        obtain ⟨fe, ne⟩ := odd_fq e (List.mem_of_getElem? he)
        have k1 : 1 ≤ k + 1 := by omega
        exact ⟨p, xs, _, xs[i], rfl, rfl, .inl (.inl hp4), at_of (j := i) rfl (List.getElem?_eq_getElem il), q xs[i] e H4 (De.but o4 hb3) (fun c ys cb hc _ => DAt.both_but o4 hb3 De ((Ac3 c ys cb hc).item (List.getElem?_eq_getElem il) he)) (fe.more k1 (fun i => by omega) (by omega)) (by omega) (B4.more (by omega)) (o3.trans o4)⟩
    | int n =>
      cases D2.int_of
      have fi := fq.int
      refine iteF (iteF ?_)
      refine ⟨_, rfl, _, _, _, _, true, rfl, .ty "int", D2.tyx, kitI _, true, rfl, iteT ⟨_, rfl, _, _, _, _, false, rfl, .ty "bool", D2.tyx, kitB' _, false, rfl, iteT ?_⟩⟩
      refine ⟨_, rfl, b, _, _, rfl, B2, by omega, by decide, by decide, fun r H3 c0 c1 B3 o3' => ?_⟩
      refine ⟨_, _, rfl, rfl, decide ((0 : Int) < r), rfl, ?_⟩
      by_cases hr0 : (0 : Int) < r
      · rw [decide_eq_true hr0]
        refine iteT ⟨_, rfl, _, _, rfl, rfl, _, rfl, _, _, rfl, rfl, _, rfl, _, _, rfl, rfl, _, rfl, n, rfl, log_few (by omega), (by show 6 ≤ sizeLine; decide), fun p5 hp5 => ?_⟩
        obtain ⟨zs, hz⟩ : ∃ zs : List V, zs = [V.int (n + 1), V.int (n - 1), V.int (0 - n), V.int 99, V.int 100, V.str (Str.ofString (toString n))] := ⟨_, rfl⟩
        obtain ⟨es, he⟩ : ∃ es : List PyData, es = [PyData.int (n + 1), .int (n - 1), .int (0 - n), .int 99, .int 100, .str (Str.ofString (toString n))] := ⟨_, rfl⟩
        have each : ∀ y ∈ es, Fq (k + 1) (fun i => W i + 1) (L + 9) y ∧ nd y ≤ 1 := fun y hy => by
          rw [he] at hy
          simp only [List.mem_cons, List.not_mem_nil, or_false] at hy
          rcases hy with rfl | rfl | rfl | rfl | rfl | rfl
          · exact ⟨fq_int (by omega), by simp [nd]⟩
          · exact ⟨fq_int (by omega), by simp [nd]⟩
          · exact ⟨fq_int (by omega), by simp [nd]⟩
          · exact ⟨fq_int (by omega), by simp [nd]⟩
          · exact ⟨fq_int (by omega), by simp [nd]⟩
          · exact ⟨Asc.fq ((asc_int (by omega)).more (by omega)), by simp [nd]⟩
        have zl : zs.length = 6 := by rw [hz]; rfl
        rw [show [V.int (n + 1), V.int (n - 1), V.int (0 - n), V.int 99, V.int 100, V.str (Str.ofString (toString n))] = zs from hz.symm]
        have s5 := same_new hp5 (.lst zs)
        have dat : ∀ (HH : Hp) (b : Addr), DAtAll HH b zs es := fun HH b => by
          have iD : ∀ m : Int, DAt HH b (.int m) (.int m) := fun m => by unfold DAt; rfl
          rw [hz, he]
          exact .cons (iD _) (.cons (iD _) (.cons (iD _) (.cons (iD _) (.cons (iD _) (.cons (by unfold DAt; rfl) .nil)))))
        obtain ⟨ys3, hb3⟩ := B3.some
        have p5b := (ne_of_none hb3 hp5).symm
        refine ⟨_, rfl, b, _, _, rfl, B3.same s5, by omega, by decide, by decide, fun r4 H4 d0 d1 B4 o4 => ?_⟩
        obtain ⟨i, hi⟩ := Int.eq_ofNat_of_zero_le d0
        subst hi
        have il : i < zs.length := by omega
        obtain ⟨e, hei, De⟩ := (dat H4 b).get (List.getElem?_eq_getElem il)
        obtain ⟨fe, ne⟩ := each e (List.mem_of_getElem? hei)
        exact ⟨p5, zs, _, zs[i], rfl, rfl, .inl (.inl (o4 _ _ upd_same p5b)), at_of (j := i) rfl (List.getElem?_eq_getElem il), q zs[i] e H4 De (fun c ys _ _ _ => (dat H4 c).item (List.getElem?_eq_getElem il) hei) fe (by omega) (B4.more (by omega)) (o2.trans (o3'.trans ((but_of s5).trans o4)))⟩
      · rw [decide_eq_false hr0]
        refine iteF ?_
        have hp3 := o3' _ _ hp pb
        have Ao3 := Ao.but o3' hb2
        have Ac3 : ∀ c ys, c ≠ b → H c = some (.lst ys) → DAtAll H3 c xs oddDs := fun c ys cb hc => DAtAll.both_but o3' hb2 Ao (Ac c ys cb hc)
        obtain ⟨ys3, hb3⟩ := B3.some
        have o3 := o2.trans o3'
        refine ⟨_, rfl, _, rfl, _, rfl, p, xs, rfl, .inl (.inl (.inl hp3)), b, _, _, rfl, B3, by omega, by omega, by omega, fun r H4 c0 c1 B4 o4 => ?_⟩
        have hp4 := o4 _ _ hp3 pb
        obtain ⟨i, hi⟩ := Int.eq_ofNat_of_zero_le c0
        subst hi
        have il : i < xs.length := by omega
        obtain ⟨e, he, De⟩ := Ao3.get (List.getElem?_eq_getElem il)
        obtain ⟨fe, ne⟩ := odd_fq e (List.mem_of_getElem? he)
        have k1 : 1 ≤ k + 1 := by omega
        exact ⟨p, xs, _, xs[i], rfl, rfl, .inl (.inl hp4), at_of (j := i) rfl (List.getElem?_eq_getElem il), q xs[i] e H4 (De.but o4 hb3) (fun c ys cb hc _ => DAt.both_but o4 hb3 De ((Ac3 c ys cb hc).item (List.getElem?_eq_getElem il) he)) (fe.more k1 (fun i => by omega) (by omega)) (by omega) (B4.more (by omega)) (o3.trans o4)⟩
    | list _ => cases hrow
    | tuple _ => cases hrow
  | true =>
    refine iteT ?_
    obtain ⟨a, xs, ds, kd, rfl, ab, ha, A1, rfl⟩ := row_of D1 hb1 hrow
    have el := A1.len
    have rS : isS (rowD kd ds) = false := by cases kd <;> rfl
    have rI : isI (rowD kd ds) = false := by cases kd <;> rfl
    have kS := kitS (K := K) (rowD kd ds)
    rw [rS] at kS
    have kI := kitI (K := K) (rowD kd ds)
    rw [rI] at kI
    have kL := kitL (K := K) (rowD kd ds)
    rw [rowD_L] at kL
    have kU := kitU (K := K) (rowD kd ds)
    rw [rowD_U] at kU
    obtain ⟨k', hk⟩ : ∃ k', k = k' + 1 := ⟨k - 1, by have := fq.dp; rw [dp_row] at this; omega⟩
    have nr := nd_row (kd := kd) (ds := ds)
    have nl := ndAll_len ds
    have fr := fq_row.mp (hk ▸ fq)
    refine ⟨_, rfl, a, xs, rfl, rowAt_sq ha, _, _, rfl, rfl, decide ((0 : Int) < ((xs.length : Nat) : Int)), rfl, ?_⟩
    by_cases hne : (0 : Int) < ((xs.length : Nat) : Int)
    · rw [decide_eq_true hne]
      refine iteT ⟨_, rfl, b, _, _, rfl, B1, by omega, by decide, by decide, fun r0 H2 c0 c1 B2 o2' => ?_⟩
      have ha2 := ha.but o2' hb1 ab
      have A2 := A1.but o2' hb1
      have D2 := D1.but o2' hb1
      obtain ⟨ys2, hb2⟩ := B2.some
      have o2 := o1.trans o2'
      refine ⟨_, _, rfl, rfl, decide ((0 : Int) < r0), rfl, ?_⟩
      by_cases hr0 : (0 : Int) < r0
      · rw [decide_eq_true hr0]
        subst hk
        refine iteT ⟨_, rfl, _, rfl, a, xs, rfl, rowAt_sq ha2, b, _, _, rfl, B2, by omega, by omega, by omega, fun at_ H3 a0 a1 B3 o3' => ?_⟩
        have ha3 := ha2.but o3' hb2 ab
        have A3 := A2.but o3' hb2
        have D3 := D2.but o3' hb2
        obtain ⟨ys3, hb3⟩ := B3.some
        have o3 := o2.trans o3'
        refine ⟨_, rfl, a, xs, rfl, rowAt_sq ha3, fun r hr0 => ?_⟩
        have s3 := same_new hr0 (.lst xs)
        have rb : r ≠ b := fun e => by subst e; rw [hb3] at hr0; cases hr0
        refine ⟨_, rfl, b, _, _, rfl, B3.same s3, by omega, by decide, by decide, fun way H4 w0 w1 B4 o4 => ?_⟩
        refine ⟨_, _, _, rfl, ?_⟩
        obtain ⟨i, hi⟩ := Int.eq_ofNat_of_zero_le a0
        subst hi
        have il : i < xs.length := by omega
        have ild : i < ds.length := by omega
        have hr4 : H4 r = some (.lst xs) := o4 _ _ upd_same rb
        have o34 : But b H3 H4 := (but_of s3).trans o4
        have o4h := o3.trans o34
        have ha4 := ha3.but o34 hb3 ab
        have A4 := A3.but o34 hb3
        have D4 := D3.but o34 hb3
        have hb4 := B4.some.choose_spec
        have hei : ds[i]? = some ds[i] := List.getElem?_eq_getElem ild
        have hxi : xs[i]? = some xs[i] := List.getElem?_eq_getElem il
        have big : (300000 : Nat) ≤ sizeLine := by decide
        -- what avoids r, and what avoids c
        have A4r : DAtAll H4 r xs ds := DAtAll.shift (o34.tup hb3) (fun x zs xb hx => ⟨ne_of_none hx hr0, o34 _ _ hx xb⟩) ds A3
        have A4c : ∀ c ys, c ≠ b → H c = some (.lst ys) → DAt H c (.ref a) (rowD kd ds) → DAtAll H4 c xs ds := fun c ys cb hc Dc =>
          row_dc ha4 (DAt.both_but o4h hb D Dc)
        have hc4 : ∀ c ys, c ≠ b → H c = some (.lst ys) → H4 c = some (.lst ys) ∧ c ≠ r := fun c ys cb hc => ⟨o4h _ _ hc cb, ne_of_none (o3 _ _ hc cb) hr0⟩
        -- the list of parts changed at last
        have bt : ∀ (H5 : Hp) (o : HO), But b H4 H5 → But b H3 (upd H5 r o) := fun H5 o oo c u hc cb => by
          rw [upd_ne (ne_of_none hc hr0)]
          exact oo _ _ (o34 _ _ hc cb) cb
        have bb : ∀ (H5 : Hp) (o : HO) (m : Nat), BoxAt H5 b m → m ≤ j + 3 * (n + 1) → BoxAt (upd H5 r o) b (j + 3 * (n + 1)) := fun H5 o m BB hm => by
          obtain ⟨x, y, z, e, h1, h2, h3, h4, h5⟩ := BB.ex
          exact ⟨x, y, z, by rw [upd_ne (Ne.symm rb)]; exact e, h1, h2, h3, h4, by omega⟩
        have ru : ∀ (H5 : Hp) (o : List V) (c : Addr) (zs : List V) (es : List PyData), H5 r = some (.lst xs) → DAtAll H5 r zs es → DAtAll H5 c zs es → DAtAll (upd H5 r (.lst o)) c zs es := fun H5 o c zs es h5 Ar Ac =>
          DAtAll.both (b := r) (fun x us h => by
            have xr : x ≠ r := fun e => by subst e; rcases h with h | ⟨o, h⟩ <;> (rw [h5] at h; cases h)
            unfold TupAt
            rw [upd_ne xr]
            exact h) (fun x us xr xc h => by rw [upd_ne xr]; exact h) es Ar Ac
        have rd : ∀ (H5 : Hp) (o : List V) (c : Addr) (z : V) (e : PyData), H5 r = some (.lst xs) → DAt H5 r z e → DAt H5 c z e → DAt (upd H5 r (.lst o)) c z e := fun H5 o c z e h5 Ar Ac =>
          DAt.both (b := r) (fun x us h => by
            have xr : x ≠ r := fun e => by subst e; rcases h with h | ⟨o, h⟩ <;> (rw [h5] at h; cases h)
            unfold TupAt
            rw [upd_ne xr]
            exact h) (fun x us xr xc h => by rw [upd_ne xr]; exact h) e Ar Ac
        have fin : ∀ (zs : List V) (es : List PyData) (H5 : Hp), H5 r = some (.lst zs) → DAtAll H5 b zs es → (∀ c ys, c ≠ b → H c = some (.lst ys) → DAt H c (.ref a) (rowD kd ds) → DAtAll H5 c zs es) → es.length ≤ W 0 + 1 → (∀ e ∈ es, Fq (k' + 1) (fun i => W (i + 1) + 1) (L + 9) e) → ndAll es + 1 ≤ 2 * N + 3 → BoxAt H5 b (j + 3 * (n + 1)) → But b H3 H5 →
            (∀ l, H5 l = none → Q (.ref l) (upd H5 l (.tup zs))) ∧ Q (.ref r) H5 := by
          intro zs es H5 h5 A5 A5c f1 f2 f3 B5 o5
          refine ⟨fun l hl => ?_, ?_⟩
          · have s := same_new hl (.tup zs)
            exact q (.ref l) (.tuple es) _ (by unfold DAt; exact ⟨l, zs, rfl, .inl upd_same, A5.same s⟩) (fun c ys cb hc Dc => by unfold DAt; exact ⟨l, zs, rfl, .inl upd_same, (A5c c ys cb hc Dc).same s⟩) (fq_tup.mpr ⟨f1, f2⟩) (by simp only [nd]; omega) (B5.same s) (o3.trans (o5.trans (but_of s)))
          · exact q (.ref r) (.list es) H5 (by unfold DAt; exact ⟨r, zs, rfl, rb, h5, A5⟩) (fun c ys cb hc Dc => by unfold DAt; exact ⟨r, zs, rfl, (hc4 c ys cb hc).2.symm, h5, A5c c ys cb hc Dc⟩) (fq_list.mpr ⟨f1, f2⟩) (by simp only [nd]; omega) B5 (o3.trans o5)
        have fe : ∀ e ∈ ds, Fq (k' + 1) (fun i => W (i + 1) + 1) (L + 9) e := fun e he => (fr.2 e he).more (by omega) (fun i => by omega) (by omega)
        refine ⟨_, rfl, _, _, rfl, rfl, decide (way < 6), rfl, ?_⟩
        refine ite2 (fun _ => ?_) (fun _ => ?_)
        · -- the item bent
          obtain ⟨e, he, De⟩ := A4.get hxi
          have em : e ∈ ds := List.mem_of_getElem? he
          have nde := ndAll_mem em
          have dpe : e.depth < n := by
            have z := depthAll_iff.mp (Nat.le_refl _) e em
            rw [dp_row] at hdp
            omega
          refine ⟨_, rfl, _, rfl, _, rfl, row_ix (i := i) ha4 hxi ?_⟩
          refine ⟨b, xs[i], e, _, k', (fun i => W (i + 1)), L, nd e, rfl, B4, by omega, De, fr.2 e em, Nat.le_refl _, by omega, hL, dpe, fun v' d' H5 D5 V5 f5 n5 B5 o5 => ?_⟩
          have hr5 := o5 _ _ hr4 rb
          have D5r : DAt H5 r v' d' := V5 r _ rb hr4 (A4r.item hxi he)
          refine ⟨_, rfl, _, rfl, r, xs, _, i, rfl, rfl, hr5, ix_at il, ?_⟩
          have oo := bt H5 (.lst (xs.set i v')) o5
          have A5r : DAtAll H5 r (xs.set i v') (ds.set i d') := (DAtAll.both_but o5 hb4 A4 A4r).put D5r
          have np := ndAll_put (e := d') he
          have fn := fin (xs.set i v') (ds.set i d') _ upd_same (ru _ _ _ _ _ hr5 A5r ((A4.but o5 hb4).put D5))
            (fun c ys cb hc Dc => ru _ _ _ _ _ hr5 A5r ((DAtAll.both_but o5 hb4 A4 (A4c c ys cb hc Dc)).put (V5 c ys cb (hc4 c ys cb hc).1 ((A4c c ys cb hc Dc).item hxi he))))
            (by rw [List.length_set]; omega) (fun x hx => (mem_put hx).elim (fe x) (fun z => by rw [z]; exact f5)) (by omega) (bb _ _ _ B5 (by omega)) oo
          refine ⟨_, rfl, _, _, _, _, !kd, rfl, .ty "list", (D3.but oo hb3).tyx, kL, _, rfl, ?_⟩
          cases kd with
          | true => exact iteF ⟨_, rfl, r, _, rfl, .inl ⟨.inl (.inl upd_same), fn.1⟩⟩
          | false => exact iteT ⟨_, rfl, fn.2⟩
        · refine ⟨_, rfl, rfl, _, rfl, ?_⟩
          refine ite2 (fun _ => ?_) (fun _ => ?_)
          · -- left out
            refine ⟨_, rfl, .inl ⟨rfl, _, .inl (.inl hr4)⟩, _, rfl, r, xs, _, i, xs[i], rfl, rfl, hr4, by omega, by omega, seqIx_of il, hxi, ?_⟩
            have oo := bt H4 (.lst (xs.eraseIdx i)) (But.refl b H4)
            have ner := ndAll_erase (ds := ds) (i := i)
            have fn := fin (xs.eraseIdx i) (ds.eraseIdx i) _ upd_same (ru _ _ _ _ _ hr4 A4r.erase A4.erase) (fun c ys cb hc Dc => ru _ _ _ _ _ hr4 A4r.erase (A4c c ys cb hc Dc).erase)
              (by have := List.length_eraseIdx_le (l := ds) (i := i); omega) (fun x hx => fe x (List.mem_of_mem_eraseIdx hx)) (by omega) (bb _ _ _ B4 (by omega)) oo
            refine ⟨_, rfl, _, _, _, _, !kd, rfl, .ty "list", (D3.but oo hb3).tyx, kL, _, rfl, ?_⟩
            cases kd with
            | true => exact iteF ⟨_, rfl, r, _, rfl, .inl ⟨.inl (.inl upd_same), fn.1⟩⟩
            | false => exact iteT ⟨_, rfl, fn.2⟩
          · refine ⟨_, rfl, rfl, _, rfl, ?_⟩
            refine ite2 (fun _ => ?_) (fun _ => ?_)
            · -- twice
              obtain ⟨e, he, De⟩ := A4.get hxi
              have em : e ∈ ds := List.mem_of_getElem? he
              have nde := ndAll_mem em
              refine ⟨_, rfl, .inl ⟨rfl, _, .inl (.inl hr4)⟩, _, rfl, _, rfl, _, rfl, row_ix (i := i) ha4 hxi ?_⟩
              refine ⟨r, xs, _, _, rfl, rfl, hr4, by omega, by omega, by omega, ?_⟩
              have oo := bt H4 (.lst (xs.take i ++ [xs[i]] ++ xs.drop i)) (But.refl b H4)
              have cut := ndAll_cut (ds := ds) (i := i)
              have ins : ∀ c, DAtAll H4 c xs ds → DAtAll H4 c (xs.take i ++ [xs[i]] ++ xs.drop i) (ds.take i ++ [e] ++ ds.drop i) := fun c A => ((A.take i).append (.cons (A.item hxi he) .nil)).append (A.drop i)
              have fn := fin (xs.take i ++ [xs[i]] ++ xs.drop i) (ds.take i ++ [e] ++ ds.drop i) _ upd_same (ru _ _ _ _ _ hr4 (ins _ A4r) (ins _ A4)) (fun c ys cb hc Dc => ru _ _ _ _ _ hr4 (ins _ A4r) (ins _ (A4c c ys cb hc Dc)))
                (by rw [List.length_append, List.length_append, List.length_take, List.length_drop, List.length_singleton]; omega)
                (fun x hx => by
                  rcases List.mem_append.mp hx with hx | hx
                  · rcases List.mem_append.mp hx with hx | hx
                    · exact fe x (List.mem_of_mem_take hx)
                    · rw [show x = e by simpa using hx]; exact fe e em
                  · exact fe x (List.mem_of_mem_drop hx))
                (by rw [ndAll_append, ndAll_append]; simp only [ndAll]; omega) (bb _ _ _ B4 (by omega)) oo
              refine ⟨_, rfl, _, _, _, _, !kd, rfl, .ty "list", (D3.but oo hb3).tyx, kL, _, rfl, ?_⟩
              cases kd with
              | true => exact iteF ⟨_, rfl, r, _, rfl, .inl ⟨.inl (.inl upd_same), fn.1⟩⟩
              | false => exact iteT ⟨_, rfl, fn.2⟩
            · refine ⟨_, rfl, rfl, _, rfl, ?_⟩
              refine ite2 (fun _ => ?_) (fun _ => ?_)
              · -- turned about
                refine ⟨_, rfl, .inl ⟨rfl, _, .inl (.inl hr4)⟩, r, xs, rfl, rfl, hr4, ?_⟩
                have oo := bt H4 (.lst xs.reverse) (But.refl b H4)
                have nb := ndAll_back (ds := ds)
                have fn := fin xs.reverse ds.reverse _ upd_same (ru _ _ _ _ _ hr4 A4r.back A4.back) (fun c ys cb hc Dc => ru _ _ _ _ _ hr4 A4r.back (A4c c ys cb hc Dc).back)
                  (by rw [List.length_reverse]; omega) (fun x hx => fe x (List.mem_reverse.mp hx)) (by omega) (bb _ _ _ B4 (by omega)) oo
                refine ⟨_, rfl, _, _, _, _, !kd, rfl, .ty "list", (D3.but oo hb3).tyx, kL, _, rfl, ?_⟩
                cases kd with
                | true => exact iteF ⟨_, rfl, r, _, rfl, .inl ⟨.inl (.inl upd_same), fn.1⟩⟩
                | false => exact iteT ⟨_, rfl, fn.2⟩
              · -- the other kind
                have fn := fin xs ds H4 hr4 A4 A4c (by omega) fe (by omega) (B4.more (by omega)) o34
                refine ⟨_, rfl, _, _, _, _, kd, rfl, .ty "tuple", D4.tyx, kU, _, rfl, ?_⟩
                cases kd with
                | true => exact iteT ⟨_, rfl, fn.2⟩
                | false => exact iteF ⟨_, rfl, r, _, rfl, .inl ⟨.inl (.inl hr4), fn.1⟩⟩
      · rw [decide_eq_false hr0]
        refine iteF ?_
        have Bx := B2
        have Dx := D2
        have hbx := hb2
        have ox := o2
        refine seq_asg (Lq.runE oddL _ rfl oddL_ok fun vo H2 Do s2 => ?_)
        obtain ⟨p, xs, rfl, pb, hp3, Ao3⟩ := (show DAt H2 b vo (.list oddDs) from Do b (.inr ⟨_, hbx⟩)).lst_of
        have Ac3 : ∀ c ys, c ≠ b → H c = some (.lst ys) → DAtAll H2 c xs oddDs := fun c ys cb hc => by
          obtain ⟨p', xs', e, _, h', A'⟩ := (show DAt H2 c (.ref p) (.list oddDs) from Do c (.inr ⟨_, ox _ _ hc cb⟩)).lst_of
          cases e
          rw [hp3] at h'
          cases h'
          exact A'
        have xl : xs.length = 19 := Ao3.len
        have D2 := Dx.same s2
        have B3 := Bx.same s2
        have hb3 := s2 _ _ hbx
        have o3 := ox.trans (but_of s2)
        refine ⟨_, rfl, _, _, _, _, false, rfl, .ty "str", D2.tyx, kS, false, rfl, iteF (iteF ?_)⟩
        refine ⟨_, rfl, _, _, _, _, false, rfl, .ty "int", D2.tyx, kI, false, rfl, iteF (iteF ?_)⟩
        refine ⟨_, rfl, _, rfl, _, rfl, p, xs, rfl, .inl (.inl (.inl hp3)), b, _, _, rfl, B3, by omega, by omega, by omega, fun r H4 c0 c1 B4 o4 => ?_⟩
        have hp4 := o4 _ _ hp3 pb
        obtain ⟨i, hi⟩ := Int.eq_ofNat_of_zero_le c0
        subst hi
        have il : i < xs.length := by omega
        obtain ⟨e, he, De⟩ := Ao3.get (List.getElem?_eq_getElem il)
        obtain ⟨fe, ne⟩ := odd_fq e (List.mem_of_getElem? he)
        have k1 : 1 ≤ k + 1 := by omega
        exact ⟨p, xs, _, xs[i], rfl, rfl, .inl (.inl hp4), at_of (j := i) rfl (List.getElem?_eq_getElem il), q xs[i] e H4 (De.but o4 hb3) (fun c ys cb hc _ => DAt.both_but o4 hb3 De ((Ac3 c ys cb hc).item (List.getElem?_eq_getElem il) he)) (fe.more k1 (fun i => by omega) (by omega)) (by omega) (B4.more (by omega)) (o3.trans o4)⟩
    · rw [decide_eq_false hne]
      refine iteF (iteF ?_)
      have Bx := B1
      have Dx := D1
      have hbx := hb1
      have ox := o1
      refine seq_asg (Lq.runE oddL _ rfl oddL_ok fun vo H2 Do s2 => ?_)
      obtain ⟨p, xs, rfl, pb, hp3, Ao3⟩ := (show DAt H2 b vo (.list oddDs) from Do b (.inr ⟨_, hbx⟩)).lst_of
      have Ac3 : ∀ c ys, c ≠ b → H c = some (.lst ys) → DAtAll H2 c xs oddDs := fun c ys cb hc => by
        obtain ⟨p', xs', e, _, h', A'⟩ := (show DAt H2 c (.ref p) (.list oddDs) from Do c (.inr ⟨_, ox _ _ hc cb⟩)).lst_of
        cases e
        rw [hp3] at h'
        cases h'
        exact A'
      have xl : xs.length = 19 := Ao3.len
      have D2 := Dx.same s2
      have B3 := Bx.same s2
      have hb3 := s2 _ _ hbx
      have o3 := ox.trans (but_of s2)
      refine ⟨_, rfl, _, _, _, _, false, rfl, .ty "str", D2.tyx, kS, false, rfl, iteF (iteF ?_)⟩
      refine ⟨_, rfl, _, _, _, _, false, rfl, .ty "int", D2.tyx, kI, false, rfl, iteF (iteF ?_)⟩
      refine ⟨_, rfl, _, rfl, _, rfl, p, xs, rfl, .inl (.inl (.inl hp3)), b, _, _, rfl, B3, by omega, by omega, by omega, fun r H4 c0 c1 B4 o4 => ?_⟩
      have hp4 := o4 _ _ hp3 pb
      obtain ⟨i, hi⟩ := Int.eq_ofNat_of_zero_le c0
      subst hi
      have il : i < xs.length := by omega
      obtain ⟨e, he, De⟩ := Ao3.get (List.getElem?_eq_getElem il)
      obtain ⟨fe, ne⟩ := odd_fq e (List.mem_of_getElem? he)
      have k1 : 1 ≤ k + 1 := by omega
      exact ⟨p, xs, _, xs[i], rfl, rfl, .inl (.inl hp4), at_of (j := i) rfl (List.getElem?_eq_getElem il), q xs[i] e H4 (De.but o4 hb3) (fun c ys cb hc _ => DAt.both_but o4 hb3 De ((Ac3 c ys cb hc).item (List.getElem?_eq_getElem il) he)) (fe.more k1 (fun i => by omega) (by omega)) (by omega) (B4.more (by omega)) (o3.trans o4)⟩
theorem oth_ok {f fT : Addr} {fd dT : FuncData} (F : Fun K "_law_otherwise" "_law_otherwise" sOther f fd) (bF : Binds K fd ["_law_box_here", "_law_thing"] []) (mF : mg "_law_otherwise" = some (.ref f))
    (GT : FnOk P w K mg base CX0 1 fT dT ["_law_box_here", "_law_reach"] spTake) (kT : PySem.W.keepIn K (.ref fT) = true) (bT : Binds K dT ["_law_box_here", "_law_reach"] []) (mT : mg "_law_take" = some (.ref fT)) (M : SameG mg) :
    ∀ n : Nat, FnOk P w K mg base CX0 (n + 1) f fd ["_law_box_here", "_law_thing"] (spOth n)
  | 0 => none_left fun vs H Q E h => by
    obtain ⟨b, v, d, j, k, W, L, N, _, _, _, _, _, _, _, _, h, _⟩ := h
    omega
  | n + 1 => ok_oth F bF mF (oth_ok F bF mF GT kT bT mT M n) GT kT bT mT M
end
end Rp

/-! t + u of tuples, t maybe empty: then u itself. -/
namespace Rp
open PySem PySem.Spec PyProof.Rows L2 HT
def rCatE (K : PySem.W.Frag) : R2 := fun x y H Q => ∃ (a b : Addr) (xs ys : List V), x = .ref a ∧ y = .ref b ∧ SqT K H a xs ∧ SqT K H b ys ∧ xs.length + ys.length ≤ sizeLine ∧
  (xs = [] → Q (.ref b) H) ∧ (xs ≠ [] → ys = [] → Q (.ref a) H) ∧ (xs ≠ [] → ys ≠ [] → ∀ p, H p = none → Q (.ref p) (upd H p (.tup (xs ++ ys))))
theorem op_catE {X : Cx} : OpR X (binaryOp .Add) (rCatE X.K) := by
  intro pins s σ H x y v u Q I rx ry h
  obtain ⟨a, b, xs, ys, ex, ey, ha, hb, hz, q0, q1, q2⟩ := h
  by_cases he : xs = []
  · subst ex ey
    cases rx
    cases ry
    obtain ⟨its, r1, p1, _⟩ := I.tuple ha
    obtain ⟨its2, r2, p2, _⟩ := I.tuple hb
    subst he
    cases r1
    obtain ⟨⟨c1, d1, t1, s1⟩, g1, e1, n1, k1⟩ := id p1
    obtain ⟨⟨c2, d2, t2, s2⟩, g2, e2, n2, k2⟩ := id p2
    simp only at e1 k1 e2 k2
    subst e1 k1 e2 k2
    exact concat_meets ⟨_, g1, rfl⟩ ⟨_, g2, rfl⟩ noFill_tuple_add seq_tuple_add PySem.F.slot_tuple_add PySem.F.entry_tuple_add (PySem.F.args_tuple_add_2 _ _)
      (tuple_addW0 a b _ its2.toArray n1 n2 d1 d2 s1 s2 (by simp)) ⟨g1, g2, ⟨.ref b, H, I, rfl, q0 rfl⟩⟩
  · exact op_catT pins s σ H x y v u Q I rx ry ⟨a, b, xs, ys, ex, ey, ha, hb, he, hz, q1 he, q2 he⟩
end Rp

set_option maxHeartbeats 16000000
/-! ATOMs, SAYINGs where they stand; the law's names. -/
namespace Rp
open PySem PySem.Spec PyProof.Rows L2 TL StX
theorem join1 (a x : Str) : Txt.join a [x] = x := by rw [TL.join_eq]; simp [Str.join]
theorem join2 (a x y : Str) : Txt.join a [x, y] = x ++ a ++ y := by rw [TL.join_eq]; simp [Str.join]
theorem slen (a b : Str) : (a ++ b).length = a.length + b.length := Str.length_append a b
theorem tm_ok : ∀ t : Tm, (tmD t).canLay0 = true ∧ (tmD t).depth ≤ t.deep + 1 ∧ nd (tmD t) ≤ 2 * t.size
  | .v n => ⟨rfl, by simp [tmD, PyData.depth], by simp [tmD, nd, Tm.size]⟩
  | .z => ⟨by decide +kernel, by simp [tmD, PyData.depth, PyData.depthAll], by simp [tmD, nd, ndAll, Tm.size]⟩
  | .s t => by
    have ih := tm_ok t
    have a : PyData.canLay0 (.str "s") = true := by decide +kernel
    refine ⟨?_, ?_, ?_⟩
    · simp only [tmD, PyData.canLay0, PyData.canLayAll0, Bool.and_true, Bool.and_eq_true]; exact ⟨by simpa [PyData.canLay0] using a, ih.1⟩
    · simp only [tmD, PyData.depth, PyData.depthAll, Tm.deep]; omega
    · simp only [tmD, nd, ndAll, Tm.size]; omega
  | .f l r => by
    have ih := tm_ok l
    have ih2 := tm_ok r
    have a : PyData.canLay0 (.str "f") = true := by decide +kernel
    refine ⟨?_, ?_, ?_⟩
    · simp only [tmD, PyData.canLay0, PyData.canLayAll0, Bool.and_true, Bool.and_eq_true]; exact ⟨by simpa [PyData.canLay0] using a, ih.1, ih2.1⟩
    · simp only [tmD, PyData.depth, PyData.depthAll, Tm.deep]; omega
    · simp only [tmD, nd, ndAll, Tm.size]; omega
theorem atAt_same {H H' : Hp} {v : V} {a : At} (h : AtAt H v a) (s : Same H H') : AtAt H' v a := by
  obtain ⟨p, xs, e, h1, h2⟩ := h
  exact ⟨p, xs, e, s _ _ h1, h2.mono fun b zs z => s _ _ z⟩
def AtsAt (H : Hp) : List V → List At → Prop
  | [], [] => True
  | v :: xs, a :: as => AtAt H v a ∧ AtsAt H xs as
  | _, _ => False
theorem AtsAt.len {H : Hp} : ∀ {xs : List V} {as : List At}, AtsAt H xs as → xs.length = as.length
  | [], [], _ => rfl
  | _ :: _, _ :: _, h => congrArg (· + 1) (AtsAt.len h.2)
theorem AtsAt.same {H H' : Hp} (s : Same H H') : ∀ {xs : List V} {as : List At}, AtsAt H xs as → AtsAt H' xs as
  | [], [], _ => trivial
  | _ :: _, _ :: _, h => ⟨atAt_same h.1 s, AtsAt.same s h.2⟩
theorem AtsAt.get {H : Hp} : ∀ {xs : List V} {as : List At} {i : Nat} {x : V}, AtsAt H xs as → xs[i]? = some x → ∃ a, as[i]? = some a ∧ AtAt H x a
  | v :: xs, a :: as, 0, x, h, e => ⟨a, rfl, by have : v = x := by simpa using e
                                                subst this; exact h.1⟩
  | _ :: xs, _ :: as, i + 1, x, h, e => by simpa using AtsAt.get h.2 (by simpa using e)
theorem AtsAt.append {H : Hp} : ∀ {xs ys : List V} {as bs : List At}, AtsAt H xs as → AtsAt H ys bs → AtsAt H (xs ++ ys) (as ++ bs)
  | [], _, [], _, _, h => h
  | _ :: xs, _, _ :: as, _, h, h' => ⟨h.1, AtsAt.append h.2 h'⟩
structure AtsOk (as : List At) : Prop where
  few : as.length ≤ 6
  ok : ∀ a ∈ as, AtOk 7 a
theorem atAt_mono {H H' : Hp} (e : ∀ a xs, H a = some (.tup xs) → H' a = some (.tup xs)) {v : V} {a : At} (h : AtAt H v a) : AtAt H' v a := by
  obtain ⟨p, xs, r, h1, h2⟩ := h
  exact ⟨p, xs, r, e _ _ h1, h2.mono e⟩
theorem AtsAt.mono {H H' : Hp} (e : ∀ a xs, H a = some (.tup xs) → H' a = some (.tup xs)) : ∀ {xs : List V} {as : List At}, AtsAt H xs as → AtsAt H' xs as
  | [], [], _ => trivial
  | _ :: _, _ :: _, h => ⟨atAt_mono e h.1, AtsAt.mono e h.2⟩
theorem all_dp {K : PySem.W.Frag} {H : Hp} : ∀ {xs : List V} {ts : List Tm}, AllAt H xs ts → DpAll K H xs (ts.map tmD)
  | [], [], _ => .nil
  | _ :: _, _ :: _, h => .cons (h.1.dat (b := (0 : Nat))).dp (all_dp h.2)
theorem at_dp {K : PySem.W.Frag} {H : Hp} {v : V} {a : At} (h : AtAt H v a) : Dp K H v (atD a) := by
  obtain ⟨p, xs, rfl, h1, h2⟩ := h
  exact .tup (.inl (.inl h1)) (.cons (.str _) (all_dp h2))
theorem ats_dp {K : PySem.W.Frag} {H : Hp} : ∀ {xs : List V} {as : List At}, AtsAt H xs as → DpAll K H xs (as.map atD)
  | [], [], _ => .nil
  | _ :: _, _ :: _, h => .cons (at_dp h.1) (ats_dp h.2)
theorem name_lay {x : Str} (h : NameOk x) : PyData.canLay0 (.str x) = true := by
  show x.cps.all (· < 0x110000) = true
  rw [Array.all_eq_true']
  intro c hc
  have := h.low c (Array.mem_toList_iff.mpr hc)
  exact decide_eq_true (by omega)
theorem tms_lay : ∀ {ts : List Tm}, (∀ t ∈ ts, t.size ≤ 7) → PyData.canLayAll0 (ts.map tmD) = true ∧ PyData.depthAll (ts.map tmD) ≤ 51
  | [], _ => ⟨rfl, by decide⟩
  | t :: ts, h => by
    have ih := tms_lay (ts := ts) fun u hu => h u (by simp [hu])
    have d1 := Tm.deep_lt t
    have z := h t (by simp)
    obtain ⟨c1, c2, _⟩ : (tmD t).canLay0 = true ∧ (tmD t).depth ≤ t.deep + 1 ∧ nd (tmD t) ≤ 2 * t.size := tm_ok t
    simp only [List.map_cons, PyData.canLayAll0, PyData.depthAll, c1, ih.1]
    exact ⟨rfl, by omega⟩
theorem at_lay {a : At} (ok : AtOk 7 a) : (atD a).canLay0 = true ∧ (atD a).depth ≤ 52 := by
  have h := tms_lay (ts := a.ts) fun t ht => (ok.sm t ht).2
  refine ⟨?_, ?_⟩
  · show PyData.canLayAll0 (.str a.nm :: a.ts.map tmD) = true
    simp only [PyData.canLayAll0, name_lay ok.nm, h.1]
    rfl
  · show PyData.depthAll (.str a.nm :: a.ts.map tmD) + 1 ≤ 52
    simp only [PyData.depthAll, PyData.depth]
    omega
theorem ats_lay : ∀ {as : List At}, (∀ a ∈ as, AtOk 7 a) → PyData.canLayAll0 (as.map atD) = true ∧ PyData.depthAll (as.map atD) ≤ 52
  | [], _ => ⟨rfl, by decide⟩
  | a :: as, h => by
    have ih := ats_lay (as := as) fun b hb => h b (by simp [hb])
    have z := at_lay (h a (by simp))
    simp only [List.map_cons, PyData.canLayAll0, PyData.depthAll, z.1, ih.1]
    exact ⟨rfl, by omega⟩
theorem ats_shaped {as : List At} (h : ∀ a ∈ as, AtOk 7 a) : SeqAt.shaped (.list (as.map atD)) = true := by
  have z := ats_lay h
  refine shaped_of ?_ ?_
  · show PyData.canLayAll0 _ = true
    exact z.1
  · show PyData.depthAll _ + 1 ≤ 64
    omega
theorem at_shaped {a : At} (h : AtOk 7 a) : SeqAt.shaped (atD a) = true := shaped_of (at_lay h).1 (by have := (at_lay h).2; omega)
theorem notin_ats {as : List At} {a : At} (h : a ∉ as) : (as.map atD).any (fun z => PyData.eqv z (atD a)) = false := by rw [in_ats, decide_eq_false h]
structure Sy where
  hs : List At
  gl : At
def SyAt (H : Hp) (v : V) (s : Sy) : Prop := ∃ (p q : Addr) (vg : V) (xs : List V), v = .ref p ∧ H p = some (.tup [.ref q, vg]) ∧ H q = some (.tup xs) ∧ AtsAt H xs s.hs ∧ AtAt H vg s.gl
structure SyOk (s : Sy) : Prop where
  hs : AtsOk s.hs
  nd : s.hs.Nodup
  gl : AtOk 7 s.gl
theorem syAt_mono {H H' : Hp} (e : ∀ a xs, H a = some (.tup xs) → H' a = some (.tup xs)) {v : V} {s : Sy} (h : SyAt H v s) : SyAt H' v s := by
  obtain ⟨p, q, vg, xs, rfl, h1, h2, h3, h4⟩ := h
  exact ⟨p, q, vg, xs, rfl, e _ _ h1, e _ _ h2, h3.mono e, atAt_mono e h4⟩
theorem SyAt.same {H H' : Hp} {v : V} {s : Sy} (h : SyAt H v s) (e : Same H H') : SyAt H' v s := syAt_mono (fun a xs z => e _ _ z) h
theorem cut_to {xs : List V} (n : Nat) : cutV xs none (some (n : Int)) = xs.take n := by
  unfold cutV
  rw [HT.sIx_none, HT.sIx_nat, List.drop_zero, Nat.sub_zero]
  rcases Nat.le_total n xs.length with h | h
  · rw [Nat.min_eq_left h]
  · rw [Nat.min_eq_right h, List.take_length, List.take_of_length_le h]
theorem cut_mid {xs : List V} (n m : Nat) : ∃ a b, cutV xs (some (n : Int)) (some (m : Int)) = (xs.drop (min n xs.length)).take b ∧ a = b := ⟨_, _, by unfold cutV; rw [HT.sIx_nat, HT.sIx_nat], rfl⟩
theorem eqv_lnil {ds : List PyData} : PyData.eqv (.list ds) (.list []) = ds.isEmpty := by
  cases ds <;> simp [PyData.eqv, PyData.eqvAll]
theorem ixN_int {n : Nat} {i : Int} (h : 0 ≤ i ∧ i < n) : ixN n i = some i.toNat := by unfold ixN; rw [if_pos h.1, if_pos h.2]
theorem but_none {H H' : Hp} {b : Addr} {j : Nat} (o : But b H H') (B : BoxAt H' b j) {D : Addr} (h : H' D = none) : H D = none := by
  cases e : H D with
  | none => rfl
  | some u =>
    have nb : D ≠ b := by
      rintro rfl
      obtain ⟨ys, hb⟩ := B.some
      rw [hb] at h; cases h
    have := o _ _ e nb
    rw [h] at this; cases this
theorem BoxAt.upd {H : Hp} {b D : Addr} {j : Nat} (B : BoxAt H b j) (n : D ≠ b) (o : HO) : BoxAt (L2.upd H D o) b j := by
  obtain ⟨x, y, z, h, r⟩ := B.ex
  exact ⟨x, y, z, by rw [upd_ne n.symm]; exact h, r⟩
def Low (x : Str) : Prop := ∀ c ∈ tl x, 97 ≤ c ∧ c ≤ 122
theorem low_cut {z : Str} (h : Low z) (lo hi : Option Int) : Low (cutS z lo hi) := by
  intro c hc
  have hc : c ∈ (z.cps.toList.drop (HT.sIx z.length 0 lo)).take (HT.sIx z.length z.length hi - HT.sIx z.length 0 lo) := hc
  exact h c (List.mem_of_mem_drop (List.mem_of_mem_take hc))
theorem cutS_parts {z : Str} {k : Nat} (h : k ≤ z.length) : (cutS z none (some (k : Int))).length = k ∧ (cutS z (some (k : Int)) none).length = z.length - k := by
  have e : z.cps.toList.length = z.length := Array.length_toList
  constructor
  · show (((z.cps.toList.drop (HT.sIx z.length 0 none)).take (HT.sIx z.length z.length (some (k : Int)) - HT.sIx z.length 0 none)).toArray).size = k
    rw [List.size_toArray, HT.sIx_none, HT.sIx_nat, List.length_take, List.length_drop, e]
    omega
  · show (((z.cps.toList.drop (HT.sIx z.length 0 (some (k : Int)))).take (HT.sIx z.length z.length none - HT.sIx z.length 0 (some (k : Int)))).toArray).size = _
    rw [List.size_toArray, HT.sIx_none, HT.sIx_nat, List.length_take, List.length_drop, e]
    omega
theorem low_append {a b : Str} (ha : Low a) (hb : Low b) : Low (a ++ b) := by
  intro c hc
  rw [tl_append] at hc
  rcases List.mem_append.mp hc with hc | hc
  · exact ha c hc
  · exact hb c hc
theorem low_one {c : Nat} (h : 97 ≤ c ∧ c ≤ 122) : Low ⟨#[c]⟩ := by
  intro d hd
  have hd : d ∈ [c] := hd
  simp at hd
  omega
theorem low_join : ∀ ys : List Str, (∀ y ∈ ys, y.length = 1 ∧ Low y) → (Txt.join "" ys).length = ys.length ∧ Low (Txt.join "" ys)
  | [], _ => ⟨by decide +kernel, fun c hc => by have : tl (Txt.join "" []) = [] := by decide +kernel
                                                rw [this] at hc; simp at hc⟩
  | [x], h => by rw [join1]; exact h x (by simp)
  | x :: y :: l, h => by
    have ih := low_join (y :: l) fun z hz => h z (by simp at hz ⊢; exact .inr hz)
    have hx := h x (by simp)
    rw [TL.join_eq] at ih ⊢
    have e0 : ("" : Str).length = 0 := by decide +kernel
    have le : Low ("" : Str) := fun c hc => by have : tl ("" : Str) = [] := by decide +kernel
                                               rw [this] at hc; simp at hc
    refine ⟨?_, low_append (low_append hx.2 le) ih.2⟩
    show (x ++ "" ++ Str.join "" (y :: l)).length = _
    rw [slen, slen, e0, hx.1, ih.1]
    simp only [List.length_cons]
    omega
theorem letter_at {i : Int} (h : 0 ≤ i ∧ i < 26) : ∃ c, atI letters.cps.toList i = some c ∧ (97 ≤ c ∧ c ≤ 122) ∧ (c : Int) = 97 + i := by
  have all : ∀ k : Fin 26, atI letters.cps.toList (k.val : Int) = some (97 + k.val) := by decide +kernel
  obtain ⟨k, rfl⟩ := Int.eq_ofNat_of_zero_le h.1
  exact ⟨_, all ⟨k, by omega⟩, ⟨by show 97 ≤ 97 + k; omega, by show 97 + k ≤ 122; omega⟩, by show ((97 + k : Nat) : Int) = _; omega⟩
/-- words alike but for one sign -/
def Named (pre post : Str) (r d : Int) (ws : List Str) : Prop := ∀ (x : Str) (k : Nat), ws[k]? = some x → ∃ c : Nat, x = pre ++ ⟨#[c]⟩ ++ post ∧ (c : Int) = 97 + (r + d * (k : Int)) % 26
theorem Named.snoc {pre post : Str} {r d : Int} {ws : List Str} (h : Named pre post r d ws) {y : Str} (hy : ∃ c : Nat, y = pre ++ ⟨#[c]⟩ ++ post ∧ (c : Int) = 97 + (r + d * (ws.length : Int)) % 26) : Named pre post r d (ws ++ [y]) := by
  intro x k hx
  by_cases hk : k < ws.length
  · rw [List.getElem?_append_left hk] at hx
    exact h x k hx
  · rw [List.getElem?_append_right (by omega)] at hx
    by_cases e : k = ws.length
    · subst e
      simp at hx
      subst hx
      exact hy
    · rw [List.getElem?_eq_none (by simp; omega)] at hx
      cases hx
theorem Named.len {pre post : Str} {r d : Int} {ws : List Str} (h : Named pre post r d ws) : ∀ x ∈ ws, x.length = pre.length + 1 + post.length := by
  intro x hx
  obtain ⟨k, hk, rfl⟩ := List.getElem_of_mem hx
  obtain ⟨c, e, _⟩ := h _ k (List.getElem?_eq_getElem hk)
  rw [e, slen, slen]
  rfl
theorem Named.nodup {pre post : Str} {r d : Int} {ws : List Str} (h : Named pre post r d ws) (w4 : ws.length ≤ 4) (hd : d = 1 ∨ d = 3 ∨ d = 7 ∨ d = 25) : ws.Nodup := by
  refine List.pairwise_iff_getElem.mpr fun i j hi hj lt e => ?_
  obtain ⟨c, e1, c1⟩ := h _ i (List.getElem?_eq_getElem hi)
  obtain ⟨c', e2, c2⟩ := h _ j (List.getElem?_eq_getElem hj)
  rw [e1, e2] at e
  have e := congrArg tl e
  simp only [tl_append, List.append_assoc] at e
  have e := List.append_cancel_left e
  have cc : c = c' := by
    have t1 : tl (⟨#[c]⟩ : Str) = [c] := rfl
    have t2 : tl (⟨#[c']⟩ : Str) = [c'] := rfl
    rw [t1, t2] at e
    simpa using e
  subst cc
  rw [c1] at c2
  have j4 : j = 1 ∨ j = 2 ∨ j = 3 := by omega
  have i4 : i = 0 ∨ i = 1 ∨ i = 2 := by omega
  rcases hd with rfl | rfl | rfl | rfl <;> omega
theorem iff_nodup {ws : List Str} (h : ws.Nodup) (l : ∀ x ∈ ws, ∀ y ∈ ws, x.length = y.length) : (ws.map fun x : Str => if x = ("if" : Str) then ("iff" : Str) else x).Nodup := by
  refine List.pairwise_map.mpr ?_
  refine List.Pairwise.imp_of_mem (R := (· ≠ ·)) (fun {a b} ha hb ne e => ?_) h
  have l2 : ("if" : Str).length = 2 := by decide +kernel
  have l3 : ("iff" : Str).length = 3 := by decide +kernel
  have lab := l a ha b hb
  by_cases h1 : a = ("if" : Str)
  · by_cases h2 : b = ("if" : Str)
    · exact ne (h1.trans h2.symm)
    · simp only [if_pos h1, if_neg h2] at e
      rw [← e, h1] at lab
      omega
  · by_cases h2 : b = ("if" : Str)
    · simp only [if_neg h1, if_pos h2] at e
      rw [e, h2] at lab
      omega
    · simp only [if_neg h1, if_neg h2] at e
      exact ne e
def spWords : Sp := fun vs H Q _ => ∃ (b : Addr) (j n : Nat), vs = [.ref b, .int (n : Nat)] ∧ 1 ≤ n ∧ n ≤ 4 ∧ BoxAt H b j ∧ j + 10 ≤ 1000000 ∧
  ∀ (p : Addr) (ws : List Str) (H' : Hp), H p = none → H' p = some (.lst (ws.map V.str)) → ws.length = n → (∀ x ∈ ws, NameOk x) → ws.Nodup → BoxAt H' b (j + 10) → But b H H' → Q (.ref p) H'
def rMod : R2 := rI (fun _ j => 0 < j) fun i j => .int (i % j)
def rMulI : R2 := rI CMul fun i j => .int (i * j)
def rAddI : R2 := rI0 fun i j => .int (i + j)
def rAddS : R2 := fun x y H Q => ∃ i j, x = .str i ∧ y = .str j ∧ i.length + j.length ≤ sizeLine ∧ Q (.str (i ++ j)) H
theorem op_modP {X : Cx} : OpR X (binaryOp .Mod) rMod := op_mod
theorem op_mulI {X : Cx} : OpR X (binaryOp .Mult) rMulI := op_mul
theorem op_addI {X : Cx} : OpR X (binaryOp .Add) rAddI := op_add
theorem op_addS {X : Cx} : OpR X (binaryOp .Add) rAddS := op_add_str
def teLetter : TE := tOp rIxS (tVar 2) (tCall spTake [] E0 (tCons (tVar 0) (tCons (tC (.int 26)) tNil)))
def teName : TE := tOp rAddS (tOp rAddS (tSl rSlS (tVar 5) tNoPart (tPart (tVar 6))) (tOp rIxS (tVar 2) (tOp rMod (tOp rAddI (tVar 3) (tOp rMulI (tVar 4) (tVar 8))) (tC (.int 26))))) (tSl rSlS (tVar 5) (tPart (tVar 6)) tNoPart)
def teIff : TE := tIf (tTest (tOp rEq (tVar 9) (tC (.str "if")))) (tC (.str "iff")) (tVar 9)
theorem TmAt.box {H H' : Hp} {b : Addr} {v : V} {t : Tm} {j : Nat} (T : TmAt H v t) (o : But b H H') (B : BoxAt H b j) : TmAt H' v t := by
  obtain ⟨ys, hb⟩ := B.some
  exact T.mono fun a xs z => o _ _ z (ne_of z hb (by intro e; cases e))
theorem AtAt.box {H H' : Hp} {b : Addr} {v : V} {a : At} {j : Nat} (T : AtAt H v a) (o : But b H H') (B : BoxAt H b j) : AtAt H' v a := by
  obtain ⟨ys, hb⟩ := B.some
  exact atAt_mono (fun a xs z => o _ _ z (ne_of z hb (by intro e; cases e))) T
theorem AtsAt.box {H H' : Hp} {b : Addr} {xs : List V} {as : List At} {j : Nat} (T : AtsAt H xs as) (o : But b H H') (B : BoxAt H b j) : AtsAt H' xs as := by
  obtain ⟨ys, hb⟩ := B.some
  exact T.mono fun a xs z => o _ _ z (ne_of z hb (by intro e; cases e))
section
variable {P : Program} {w : World} {K : PySem.W.Frag} {mg : Str → Option Value} {base : Heap}
abbrev NW : List Str := ["_law_box_here", "_law_count", "_law_letters", "_law_begun", "_law_by", "_law_tail", "_law_at", "_law_found", "_law_k", "_law_name"]
theorem scWords : FnScope NW ["_law_box_here", "_law_count"] (defScope sNames) := ⟨rfl, rfl, rfl, by decide +kernel, rfl, by decide +kernel, by decide +kernel⟩
theorem ok_words {f fT : Addr} {fd fdT : FuncData} (F : Fun K "_law_names" "_law_names" sNames f fd) (FT : Fun K "_law_take" "_law_take" sTake fT fdT) (bT : Binds K fdT ["_law_box_here", "_law_reach"] []) (mT : mg "_law_take" = some (.ref fT))
    (mRange : mg "range" = none) (mLen : mg "len" = none) : FnOk P w K mg base CX0 2 f fd ["_law_box_here", "_law_count"] spWords := by
  have GT : FnOk P w K mg base CX0 1 fT fdT ["_law_box_here", "_law_reach"] spTake := ok_take FT
  refine F.ok scWords (fun vs H Q E h => ?_) (fun cdv A outer s H vs Q E hr h => ?_)
  · obtain ⟨b, j, n, rfl, _⟩ := h
    rfl
  obtain ⟨b, j, n, rfl, n1, n4, B, hj, q⟩ := h
  refine ⟨_, pss_cons (ps_asg (pe_tup (pa_cons pe_str (pa_cons (pe_call GT hr (by rfl) mT FT.kp bT .nil pass0 (pa_cons (pv 0) (pa_cons pe_int pa_nil))) (pa_cons (pe_ix ix_list (pe_lst (pa_cons pe_int (pa_cons pe_int (pa_cons pe_int (pa_cons pe_int pa_nil))))) (pe_call GT hr (by rfl) mT FT.kp bT .nil pass0 (pa_cons (pv 0) (pa_cons pe_int pa_nil))) (fun _ _ => rfl)) pa_nil))))
      (pg_tup (by rfl) (pgs_cons (pg_name (i := 2) scWords.nd rfl (Or.inr rfl)) (pgs_cons (pg_name (i := 3) scWords.nd rfl (Or.inr rfl)) (pgs_cons (pg_name (i := 4) scWords.nd rfl (Or.inr rfl)) pgs_nil)))))
    (pss_cons (ps_set (i := 5) scWords.nd rfl (Or.inr rfl) (pe_bm PySem.F.plainAttrs_str PySem.F.slot_str_join PySem.F.type_str_join mt_join pe_str (pa_cons
      (pe_lc (own := [("_law_k", 8)]) (g := gName 8) (tt := tYes) (te := teLetter) rfl scWords.nd (pi_range1 (by rfl) mRange (pa_cons (pe_call GT hr (by rfl) mT FT.kp bT .nil pass0 (pa_cons (pv 0) (pa_cons pe_int pa_nil))) pa_nil))
        (blkOk_by (N := NW) (sc := defScope sNames) (by decide +kernel)) (fun _ _ _ _ _ => pg_name (i := 8) scWords.nd rfl (Or.inl rfl)) (fun _ _ _ _ _ => pts_nil)
        (fun _ _ _ _ _ => pe_ix ix_str (pv 2) (pe_call GT hr (by rfl) mT FT.kp bT .nil pass0 (pa_cons (pv 0) (pa_cons pe_int pa_nil))) (fun _ _ => rfl))) pa_nil)))
    (pss_cons (ps_set (i := 6) scWords.nd rfl (Or.inr rfl) (pe_call GT hr (by rfl) mT FT.kp bT .nil pass0 (pa_cons (pv 0) (pa_cons (pe_op op_addI (pe_callB call_len_str (by rfl) mLen PySem.boot_len (pa_cons (pv 5) pa_nil)) pe_int) pa_nil))))
    (pss_cons (ps_setLc (i := 7) (own := [("_law_k", 8)]) (g := gName 8) (tt := tYes) (te := teName) rfl scWords.nd rfl rfl (by rfl) (pi_range1 (by rfl) mRange (pa_cons (pv 1) pa_nil))
        (blkOk_by (N := NW) (sc := defScope sNames) (by decide +kernel)) (fun _ _ _ _ _ => pg_name (i := 8) scWords.nd rfl (Or.inl rfl)) (fun _ _ _ _ _ => pts_nil)
        (fun _ _ _ _ _ => pe_op op_addS (pe_op op_addS (pe_slice sl_str (pv 5) po_none (po_some (pv 6))) (pe_ix ix_str (pv 2) (pe_op op_modP (pe_op op_addI (pv 3) (pe_op op_mulI (pv 4) (pv 8))) pe_int) (fun _ _ => rfl))) (pe_slice sl_str (pv 5) (po_some (pv 6)) po_none)))
    (pss_one (ps_ret (pe_lc (own := [("_law_name", 9)]) (g := gName 9) (tt := tYes) (te := teIff) rfl scWords.nd (pi_list (pv 7))
        (blkOk_by (N := NW) (sc := defScope sNames) (by decide +kernel)) (fun _ _ _ _ _ => pg_name (i := 9) scWords.nd rfl (Or.inl rfl)) (fun _ _ _ _ _ => pts_nil)
        (fun _ _ _ _ _ => pe_ifExp (pt_cmpR op_eq (pv 9) pe_str (nomark _)) pe_str (pv 9)))))))), ?_⟩
  have big : (2000000 : Nat) ≤ sizeLine := by decide
  have l0 : ("" : Str).length = 0 := by decide +kernel
  have ll : letters.length = 26 := by decide +kernel
  refine ⟨_, rfl, b, _, j, rfl, B, by omega, by decide, by decide, fun r1 H1 a0 a1 B1 o1 => ?_⟩
  refine ⟨(by show 4 ≤ sizeLine; decide), fun d hd => ?_⟩
  have s2 := same_new hd (.lst [V.int 1, V.int 3, V.int 7, V.int 25])
  refine ⟨_, rfl, b, _, _, rfl, B1.same s2, by omega, by decide, by decide, fun r2 H3 b0 b1 B3 o3 => ?_⟩
  obtain ⟨y1, hb1⟩ := B1.some
  have db : d ≠ b := (ne_of_none hb1 hd).symm
  have hd3 := o3 _ _ upd_same db
  obtain ⟨by_, hat, hby⟩ : ∃ n : Int, atI [V.int 1, V.int 3, V.int 7, V.int 25] r2 = some (.int n) ∧ (n = 1 ∨ n = 3 ∨ n = 7 ∨ n = 25) := by
    rcases (by omega : r2 = 0 ∨ r2 = 1 ∨ r2 = 2 ∨ r2 = 3) with e | e | e | e <;> subst e
    · exact ⟨_, at_of (j := 0) rfl rfl, by omega⟩
    · exact ⟨_, at_of (j := 1) rfl rfl, by omega⟩
    · exact ⟨_, at_of (j := 2) rfl rfl, by omega⟩
    · exact ⟨_, at_of (j := 3) rfl rfl, by omega⟩
  refine ⟨d, _, _, _, rfl, rfl, .inl (.inl hd3), hat, (by show 3 ≤ sizeLine; decide), fun t ht => ?_⟩
  have s4 := same_new ht (.tup [V.str letters, V.int r1, V.int by_])
  refine ⟨t, _, rfl, .inl (.inl upd_same), rfl, _, _, rfl, _, _, rfl, _, _, rfl, rfl, ?_⟩
  have B4 := B3.same s4
  refine ⟨rfl, _, rfl, b, _, _, rfl, B4, by omega, by decide, by decide, fun m3 H6 c0 c1 B6 o6 => ?_⟩
  have o06 : But b H H6 := o1.trans ((but_of s2).trans (o3.trans ((but_of s4).trans o6)))
  refine ⟨_, rfl, by omega, by omega, fun D hD => lc_range (lo := 0) (fun i H7 => ∃ ys : List Str, H7 D = some (.lst (ys.map V.str)) ∧ ys.length = i ∧ (∀ y ∈ ys, y.length = 1 ∧ Low y) ∧ BoxAt H7 b (j + 3 + i) ∧ But b H H7)
    ⟨[], upd_same, rfl, by simp, (B6.same (same_new hD _)).more (by omega), o06.trans (but_of (same_new hD _))⟩ ?_ ?_⟩
  · rintro i H7 hi ⟨ys, h7, yl, yo, B7, o7⟩
    have Db : D ≠ b := by
      obtain ⟨y6, hb6⟩ := B6.some
      exact (ne_of_none hb6 hD).symm
    refine ⟨rfl, ?_⟩
    unfold teLetter
    refine ⟨_, rfl, _, rfl, b, _, _, rfl, B7, by omega, by decide, by decide, fun r H8 d0 d1 B8 o8 => ?_⟩
    obtain ⟨c, hc, cl, _⟩ := letter_at ⟨d0, d1⟩
    refine ⟨letters, _, c, rfl, rfl, by omega, hc, ys.map V.str, o8 _ _ h7 Db, by rw [List.length_map]; omega, ys ++ [⟨#[c]⟩], ?_, by simp [yl], ?_, (B8.upd Db _).more (by omega), ?_⟩
    · rw [upd_same, List.map_append]; rfl
    · intro y hy
      rcases List.mem_append.mp hy with hy | hy
      · exact yo y hy
      · obtain rfl : y = ⟨#[c]⟩ := by simpa using hy
        exact ⟨rfl, low_one cl⟩
    · intro x o z nb
      have xD : x ≠ D := ne_of_none z (but_none o06 B6 hD)
      rw [upd_ne xD]
      exact o8 _ _ (o7 _ _ z nb) nb
  · rintro H7 ⟨ys, h7, yl, yo, B7, o7⟩
    obtain ⟨jl, jw⟩ := low_join ys yo
    have sum1 : ∀ zs : List Str, (∀ y ∈ zs, y.length = 1 ∧ Low y) → (zs.map (·.length)).sum = zs.length := by
      intro zs
      induction zs with
      | nil => intro _; rfl
      | cons z zs ih =>
        intro h
        rw [List.map_cons, List.sum_cons, ih fun y hy => h y (by simp [hy]), (h z (by simp)).1, List.length_cons]
        omega
    refine ⟨"", D, ys, rfl, rfl, .inl (.inl (.inl h7)), by rw [l0, sum1 ys yo]; omega, ?_⟩
    generalize Txt.join "" ys = tail at jl jw
    have tl5 : tail.length ≤ 5 := by omega
    refine ⟨_, rfl, _, rfl, tail, rfl, by omega, _, _, rfl, rfl, b, _, _, rfl, B7, by omega, by omega, by omega, fun r8 H8 e0 e1 B8 o8 => ?_⟩
    obtain ⟨k, rfl⟩ := Int.eq_ofNat_of_zero_le e0
    obtain ⟨p1, p2⟩ := cutS_parts (z := tail) (k := k) (by omega)
    have w1 := low_cut jw none (some (k : Int))
    have w2 := low_cut jw (some (k : Int)) none
    have o08 := o7.trans o8
    refine ⟨_, rfl, _, rfl, by omega, by omega, fun D2 hD2 => lc_range (lo := 0) (fun i H9 => ∃ ws : List Str, H9 D2 = some (.lst (ws.map V.str)) ∧ ws.length = i ∧ (∀ x ∈ ws, 1 ≤ x.length ∧ x.length ≤ 6 ∧ Low x) ∧ Named (cutS tail none (some (k : Int))) (cutS tail (some (k : Int)) none) r1 by_ ws ∧ Same H8 H9) ⟨[], upd_same, rfl, by simp, fun x i h => by simp at h, same_new hD2 _⟩ ?_ ?_⟩
    · rintro i H9 hi ⟨ws, h9, wl, wo, wn, s9⟩
      refine ⟨rfl, ?_⟩
      unfold teName
      have i4 : i < 4 := by omega
      obtain ⟨c, hc, cl, ce⟩ := letter_at (i := (r1 + by_ * (0 + (i : Int))) % 26) (by omega)
      have one : (⟨#[c]⟩ : Str).length = 1 := rfl
      refine ⟨_, rfl, _, rfl, (k : Int), rfl, tail, rfl, by omega, ?_⟩
      refine ⟨_, rfl, _, rfl, _, rfl, _, rfl, _, _, rfl, rfl, .inl ⟨by omega, by omega⟩, _, _, rfl, rfl, _, _, rfl, rfl, (by show (0 : Int) < 26; decide), letters, _, c, rfl, rfl, by omega, hc, ?_⟩
      refine ⟨_, _, rfl, rfl, by rw [p1, one]; omega, ?_⟩
      refine ⟨_, rfl, _, rfl, (k : Int), rfl, tail, rfl, by omega, ?_⟩
      refine ⟨_, _, rfl, rfl, by rw [slen, p1, p2, one]; omega, ?_⟩
      refine ⟨ws.map V.str, h9, by rw [List.length_map]; omega, ws ++ [cutS tail none (some (k : Int)) ++ ⟨#[c]⟩ ++ cutS tail (some (k : Int)) none], by rw [upd_same, List.map_append]; rfl, by simp [wl], ?_, wn.snoc ⟨c, rfl, by rw [ce, wl]; simp⟩, ?_⟩
      · intro x hx
        rcases List.mem_append.mp hx with hx | hx
        · exact wo x hx
        · obtain rfl : x = _ := List.mem_singleton.mp hx
          refine ⟨?_, ?_, low_append (low_append w1 (low_one cl)) w2⟩
          · rw [slen, slen, p1, p2, one]; omega
          · rw [slen, slen, p1, p2, one]; omega
      · intro x o z
        rw [upd_ne (ne_of_none z hD2)]
        exact s9 _ _ z
    · rintro H9 ⟨ws, h9, wl, wo, wn, s9⟩
      have wl4 : ws.length = n := by rw [wl]; omega
      refine ⟨_, rfl, D2, rfl, ⟨_, .inl (.inl h9)⟩, fun D3 hD3 => lc_list (K := K) (a := D2) (xs := ws.map V.str) (fun i H10 => H10 D3 = some (.lst (((ws.take i).map fun x : Str => if x = ("if" : Str) then ("iff" : Str) else x).map V.str)) ∧ Same H9 H10) ⟨upd_same, same_new hD3 _⟩ (fun i H10 _ h => .inl (.inl (h.2 _ _ h9))) ?_ ?_⟩
      · rintro i x H10 hi ⟨h10, s10⟩
        rw [List.getElem?_map] at hi
        obtain ⟨y, hy, rfl⟩ : ∃ y, ws[i]? = some y ∧ x = .str y := by
          cases hq : ws[i]? with
          | none => rw [hq] at hi; cases hi
          | some p => rw [hq] at hi; exact ⟨p, rfl, by simpa using hi.symm⟩
        have tk : ws.take (i + 1) = ws.take i ++ [y] := by rw [List.take_add_one, hy]; rfl
        refine ⟨rfl, ?_⟩
        unfold teIff
        have fin : ∀ z : Str, z = (if y = ("if" : Str) then ("iff" : Str) else y) → ∃ acc, H10 D3 = some (.lst acc) ∧ acc.length < sizeLine ∧ (upd H10 D3 (.lst (acc ++ [V.str z]))) D3 = some (.lst (((ws.take (i + 1)).map fun x : Str => if x = ("if" : Str) then ("iff" : Str) else x).map V.str)) ∧ Same H9 (upd H10 D3 (.lst (acc ++ [V.str z]))) := by
          rintro z rfl
          refine ⟨_, h10, ?_, ?_, ?_⟩
          · rw [List.length_map, List.length_map, List.length_take]; omega
          · rw [upd_same, tk, List.map_append, List.map_append]; rfl
          · intro x o z
            rw [upd_ne (ne_of_none z hD3)]
            exact s10 _ _ z
        by_cases hif : y = ("if" : Str)
        · exact ⟨_, rfl, rfl, true, congrArg V.bl (decide_eq_true (by rw [hif])), iteT (fin _ (if_pos hif).symm)⟩
        · exact ⟨_, rfl, rfl, false, congrArg V.bl (decide_eq_false fun z => hif (V.str.inj z)), iteF ⟨_, rfl, fin _ (if_neg hif).symm⟩⟩
      · rintro H10 ⟨h10, s10⟩
        rw [List.length_map, List.take_length] at h10
        have o09 : But b H H9 := o08.trans (but_of s9)
        refine q D3 _ H10 (but_none o09 (B8.same s9) hD3) h10 (by rw [List.length_map, wl4]) ?_ (iff_nodup (wn.nodup (by omega) hby) fun x hx y hy => by rw [wn.len x hx, wn.len y hy]) (((B8.same s9).same s10).more (by omega)) (o09.trans (but_of s10))
        intro x hx
        obtain ⟨y, hy, rfl⟩ := List.mem_map.mp hx
        by_cases hif : y = ("if" : Str)
        · rw [if_pos hif]
          exact ⟨by decide +kernel, by decide +kernel, by decide +kernel, by decide +kernel⟩
        · rw [if_neg hif]
          obtain ⟨g1, g2, g3⟩ := wo y hy
          exact ⟨g1, g2, g3, hif⟩
end
end Rp

set_option maxHeartbeats 16000000
/-! The law's terms; atoms without copies. -/
namespace Rp
open PySem PySem.Spec PyProof.Rows L2 TL StX
theorem dp_ints {K : PySem.W.Frag} {H : Hp} : ∀ l : List Int, DpAll K H (l.map V.int) (l.map PyData.int)
  | [] => .nil
  | n :: l => .cons (.int n) (dp_ints l)
def spLTerm (n : Nat) : Sp := fun vs H Q _ => ∃ (b p : Addr) (ks : List Int) (j d : Nat), vs = [.ref b, .ref p, .int d] ∧ BoxAt H b j ∧ H p = some (.lst (ks.map V.int)) ∧ (∀ k ∈ ks, 0 ≤ k ∧ k ≤ 99) ∧ ks.length ≤ 200 ∧ p ≠ b ∧ d < n ∧ d ≤ 2 ∧ j + (4 * 2 ^ d - 1) ≤ 1000000 ∧
  ∀ (v : V) (t : Tm) (H' : Hp), TmAt H' v t → t.small → t.size + 1 ≤ 2 ^ (d + 1) → BoxAt H' b (j + (4 * 2 ^ d - 1)) → But b H H' → Q v H'
def spUnlikeL : Sp := fun vs H Q _ => ∃ (q : Addr) (xs : List V) (as : List At), vs = [.ref q] ∧ H q = some (.lst xs) ∧ AtsAt H xs as ∧ AtsOk as ∧
  ∀ (p : Addr) (ys : List V) (bs : List At) (H' : Hp), H' p = some (.tup ys) → AtsAt H' ys bs → AtsOk bs → bs.Nodup → bs.length ≤ as.length → Same H H' → Q (.ref p) H'
def teLeaf (K : PySem.W.Frag) : TE := tIf (tAnd (tTest (tOp (rNeD K) (tVar 1) (tLst tNil))) (tTest (tOp (rI0 fun i j => .bl (decide (j < i))) (tCall spTake [] E0 (tCons (tVar 0) (tCons (tC (.int 3)) tNil))) (tC (.int 0)))))
  (tCall spPick [] E0 (tCons (tVar 0) (tCons (tVar 1) tNil))) (tTup (tCons (tC (.str "0")) tNil))
theorem leaf_ok {K : PySem.W.Frag} {H : Hp} {b p : Addr} {ks : List Int} {j : Nat} {r : List (Option V)} {Q : V → Hp → Prop} (B : BoxAt H b j) (hp : H p = some (.lst (ks.map V.int))) (pk : ∀ k ∈ ks, 0 ≤ k ∧ k ≤ 99) (pl : ks.length ≤ 200) (pb : p ≠ b) (hj : j + 2 ≤ 1000000)
    (q : ∀ (v : V) (t : Tm) (H' : Hp), TmAt H' v t → t.small → t.size = 1 → BoxAt H' b (j + 2) → But b H H' → Q v H') : teLeaf K (some (.ref b) :: some (.ref p) :: r) H Q := by
  unfold teLeaf
  refine ⟨_, rfl, (by show 0 ≤ sizeLine; decide), fun l hl => ?_⟩
  have s1 := same_new hl (.lst ([] : List V))
  have B1 := B.same s1
  have hp1 := s1 _ _ hp
  refine ⟨.list (ks.map .int), .list [], .lst (.inl (.inl hp1)) (dp_ints ks), .lst (.inl (.inl upd_same)) .nil, ints_shaped _, ints_shaped [], !(ks.map PyData.int).isEmpty, congrArg (fun z => V.bl (!z)) eqv_lnil, ?_⟩
  generalize upd H l (.lst ([] : List V)) = H1 at s1 B1 hp1 ⊢
  have zero : ∀ (H2 : Hp) (j2 : Nat), BoxAt H2 b j2 → j2 ≤ j + 2 → But b H1 H2 → ∀ c, H2 c = none → Q (.ref c) (upd H2 c (.tup [V.str "0"])) := fun H2 j2 B2 le o2 c hc => by
    have s3 := same_new hc (.tup [V.str "0"])
    exact q (.ref c) .z _ (.z upd_same) (fun k hk => by simp [Tm.nums] at hk) rfl ((B2.same s3).more le) ((but_of s1).trans (o2.trans (but_of s3)))
  cases ks with
  | nil => exact iteF (iteF ⟨(by show 1 ≤ sizeLine; decide), fun c hc => zero H1 j B1 (by omega) (But.refl _ _) c hc⟩)
  | cons k0 ks =>
    refine iteT ?_
    refine ⟨_, rfl, b, _, j, rfl, B1, by omega, by decide, by decide, fun r3 H2 c0 c1 B2 o2 => ?_⟩
    have hp2 := o2 _ _ hp1 pb
    refine ⟨_, _, rfl, rfl, decide ((0 : Int) < r3), rfl, ?_⟩
    by_cases h3 : (0 : Int) < r3
    · rw [decide_eq_true h3]
      refine iteT ⟨_, rfl, _, rfl, b, p, _, _, rfl, B2, by omega, hp2, pb, by simp, by rw [List.length_map]; omega, fun v H3 hv B3 o3 => ?_⟩
      obtain ⟨m, hm, rfl⟩ := List.mem_map.mp hv
      have m9 := pk m hm
      exact q _ (.v m) H3 (.v m) (fun k hk => by simp [Tm.nums] at hk; subst hk; exact m9) rfl (B3.more (by omega)) ((but_of s1).trans (o2.trans o3))
    · rw [decide_eq_false h3]
      exact iteF ⟨(by show 1 ≤ sizeLine; decide), fun c hc => zero H2 _ B2 (by omega) o2 c hc⟩
section
variable {P : Program} {w : World} {K : PySem.W.Frag} {mg : Str → Option Value} {base : Heap}
abbrev NT : List Str := ["_law_box_here", "_law_pool", "_law_deep", "_law_way", "_law_one"]
theorem scLTerm : FnScope NT ["_law_box_here", "_law_pool", "_law_deep"] (defScope sTermL) := ⟨rfl, rfl, rfl, by decide +kernel, rfl, by decide +kernel, by decide +kernel⟩
theorem ok_lterm {n : Nat} {f fT fP : Addr} {fd fdT dP : FuncData} (F : Fun K "_law_term" "_law_term" sTermL f fd) (b2 : Binds K fd ["_law_box_here", "_law_pool", "_law_deep"] []) (mF : mg "_law_term" = some (.ref f))
    (G : FnOk P w K mg base CX0 (n + 2) f fd ["_law_box_here", "_law_pool", "_law_deep"] (spLTerm n))
    (GT : FnOk P w K mg base CX0 1 fT fdT ["_law_box_here", "_law_reach"] spTake) (kT : PySem.W.keepIn K (.ref fT) = true) (bT : Binds K fdT ["_law_box_here", "_law_reach"] []) (mT : mg "_law_take" = some (.ref fT))
    (GP : FnOk P w K mg base CX0 2 fP dP ["_law_box_here", "_law_things"] spPick) (kP : PySem.W.keepIn K (.ref fP) = true) (bP : Binds K dP ["_law_box_here", "_law_things"] []) (mP : mg "_law_pick" = some (.ref fP)) :
    FnOk P w K mg base CX0 (n + 3) f fd ["_law_box_here", "_law_pool", "_law_deep"] (spLTerm (n + 1)) := by
  refine F.ok scLTerm (fun vs H Q E h => ?_) (fun cdv A outer s H vs Q E hr h => ?_)
  · obtain ⟨b, p, ks, j, d, rfl, _⟩ := h
    rfl
  obtain ⟨b, p, ks, j, d, rfl, B, hp, pk, pl, pb, dn, d4, hj, q⟩ := h
  have r1 : Room 1 _ := hr.mono (by omega)
  have r2 : Room 2 _ := hr.mono (by omega)
  refine ⟨_, pss_cons (ps_set (i := 3) scLTerm.nd rfl (Or.inl rfl) (pe_call GT r1 rfl mT kT bT .nil pass0 (pa_cons (pv 0) (pa_cons pe_int pa_nil))))
    (pss_cons (ps_if (PW.pt (pw_or (pt_cmpR op_eq (pv 2) pe_int (nomark _)) (pw_or1 (pt_cmpR op_lt (pv 3) pe_int (nomark _))))) (pss_one (ps_ret (pe_ifExp (PW.pt (pw_and (pt_cmpR (op_neD hr.units) (pv 1) (pe_lst pa_nil) (nomark _))
        (pw_and1 (pt_cmpR op_gt (pe_call GT r1 rfl mT kT bT .nil pass0 (pa_cons (pv 0) (pa_cons pe_int pa_nil))) pe_int (nomark _)))))
        (pe_call GP r2 rfl mP kP bP .nil pass0 (pa_cons (pv 0) (pa_cons (pv 1) pa_nil))) (pe_tup (pa_cons pe_str pa_nil))))) pss_nil)
    (pss_cons (ps_if (pt_cmpR op_lt (pv 3) pe_int (nomark _)) (pss_one (ps_ret (pe_tup (pa_cons pe_str (pa_cons (pe_call G hr rfl mF F.kp b2 .nil pass0 (pa_cons (pv 0) (pa_cons (pv 1) (pa_cons (pe_op op_sub (pv 2) pe_int) pa_nil)))) pa_nil))))) pss_nil)
    (pss_cons (ps_set (i := 4) scLTerm.nd rfl (Or.inl rfl) (pe_call G hr rfl mF F.kp b2 .nil pass0 (pa_cons (pv 0) (pa_cons (pv 1) (pa_cons (pe_op op_sub (pv 2) pe_int) pa_nil)))))
    (pss_one (ps_ret (pe_tup (pa_cons pe_str (pa_cons (pv 4) (pa_cons (pe_call G hr rfl mF F.kp b2 .nil pass0 (pa_cons (pv 0) (pa_cons (pv 1) (pa_cons (pe_op op_sub (pv 2) pe_int) pa_nil)))) pa_nil))))))))), ?_⟩
  have p1 : 1 ≤ 2 ^ d := Nat.one_le_two_pow
  have p2 : 2 ^ (d + 1) = 2 * 2 ^ d := by rw [Nat.pow_succ]; omega
  refine ⟨_, rfl, b, _, j, rfl, B, by omega, by decide, by decide, fun way H1 w0 w5 B1 o1 => ?_⟩
  have hp1 := o1 _ _ hp pb
  by_cases h0 : d = 0
  · refine ⟨_, rfl, rfl, true, congrArg V.bl (decide_eq_true (by rw [h0]; rfl)), iteT ?_⟩
    exact leaf_ok B1 hp1 pk pl pb (by omega) fun v t H2 T sm sz B2 o2 => q v t H2 T sm (by omega) (B2.more (by omega)) (o1.trans o2)
  · refine ⟨_, rfl, rfl, false, congrArg V.bl (decide_eq_false (fun z => h0 (by injection z with z; omega))), iteF ?_⟩
    refine ⟨_, rfl, _, _, rfl, rfl, decide (way < 2), rfl, ?_⟩
    by_cases h2 : way < 2
    · rw [decide_eq_true h2]
      refine iteT ?_
      exact leaf_ok B1 hp1 pk pl pb (by omega) fun v t H2 T sm sz B2 o2 => q v t H2 T sm (by omega) (B2.more (by omega)) (o1.trans o2)
    · rw [decide_eq_false h2]
      refine iteF ?_
      obtain ⟨e, rfl⟩ : ∃ e, d = e + 1 := ⟨d - 1, by omega⟩
      have e1 : ([V.ref b, V.ref p, V.int (((e + 1 : Nat) : Int) - 1)] : List V) = [V.ref b, V.ref p, V.int (e : Nat)] := by rw [show (((e + 1 : Nat) : Int) - 1) = (e : Nat) by omega]
      have p0 : 1 ≤ 2 ^ e := Nat.one_le_two_pow
      have p3 : 2 ^ (e + 1) = 2 * 2 ^ e := by rw [Nat.pow_succ]; omega
      refine ⟨_, rfl, _, _, rfl, rfl, decide (way < 4), rfl, ?_⟩
      by_cases h3 : way < 4
      · rw [decide_eq_true h3]
        refine iteT ⟨_, rfl, _, rfl, _, rfl, _, _, rfl, rfl, b, p, ks, _, e, e1, B1, hp1, pk, pl, pb, by omega, by omega, by omega, fun v t H2 T sm sz B2 o2 => ?_⟩
        refine ⟨(by show 2 ≤ sizeLine; decide), fun c hc => ?_⟩
        have s3 := same_new hc (.tup [V.str "s", v])
        exact q (.ref c) (.s t) _ (.s upd_same (T.same s3)) sm (by rw [p2]; simp only [Tm.size]; omega) ((B2.same s3).more (by omega)) (o1.trans (o2.trans (but_of s3)))
      · rw [decide_eq_false h3]
        refine iteF ⟨_, rfl, _, rfl, _, rfl, _, _, rfl, rfl, b, p, ks, _, e, e1, B1, hp1, pk, pl, pb, by omega, by omega, by omega, fun v t H2 T sm sz B2 o2 => ?_⟩
        have hp2 := o2 _ _ hp1 pb
        refine ⟨_, rfl, _, rfl, _, rfl, _, rfl, _, _, rfl, rfl, b, p, ks, _, e, e1, B2, hp2, pk, pl, pb, by omega, by omega, by omega, fun v' t' H3 T' sm' sz' B3 o3 => ?_⟩
        refine ⟨(by show 3 ≤ sizeLine; decide), fun c hc => ?_⟩
        have s4 := same_new hc (.tup [V.str "f", v, v'])
        exact q (.ref c) (.f t t') _ (.f upd_same ((T.box o3 B2).same s4) (T'.same s4)) (fun k hk => by
            rcases List.mem_append.mp hk with hk | hk
            · exact sm k hk
            · exact sm' k hk) (by rw [p2]; simp only [Tm.size]; omega) ((B3.same s4).more (by omega)) (o1.trans (o2.trans (o3.trans (but_of s4))))
theorem lterm_ok {f fT fP : Addr} {fd fdT dP : FuncData} (F : Fun K "_law_term" "_law_term" sTermL f fd) (b2 : Binds K fd ["_law_box_here", "_law_pool", "_law_deep"] []) (mF : mg "_law_term" = some (.ref f))
    (GT : FnOk P w K mg base CX0 1 fT fdT ["_law_box_here", "_law_reach"] spTake) (kT : PySem.W.keepIn K (.ref fT) = true) (bT : Binds K fdT ["_law_box_here", "_law_reach"] []) (mT : mg "_law_take" = some (.ref fT))
    (GP : FnOk P w K mg base CX0 2 fP dP ["_law_box_here", "_law_things"] spPick) (kP : PySem.W.keepIn K (.ref fP) = true) (bP : Binds K dP ["_law_box_here", "_law_things"] []) (mP : mg "_law_pick" = some (.ref fP)) :
    ∀ n : Nat, FnOk P w K mg base CX0 (n + 2) f fd ["_law_box_here", "_law_pool", "_law_deep"] (spLTerm n)
  | 0 => none_left fun vs H Q E h => by
    obtain ⟨b, p, ks, j, d, _, _, _, _, _, _, h, _⟩ := h
    omega
  | n + 1 => ok_lterm F b2 mF (lterm_ok F b2 mF GT kT bT mT GP kP bP mP n) GT kT bT mT GP kP bP mP
theorem scUnlikeL2 : FnScope ["_law_atoms", "_law_found", "_law_atom_here"] ["_law_atoms"] (defScope sUnlikeL) := ⟨rfl, rfl, rfl, by decide +kernel, rfl, by decide +kernel, by decide +kernel⟩
theorem ok_unlikel {f : Addr} {fd : FuncData} (F : Fun K "_law_unlike" "_law_unlike" sUnlikeL f fd) (mTuple : mg "tuple" = none) : FnOk P w K mg base CX0 1 f fd ["_law_atoms"] spUnlikeL := by
  refine F.ok scUnlikeL2 (fun vs H Q E h => ?_) (fun cdv A outer s H vs Q E hr h => ?_)
  · obtain ⟨q, xs, as, rfl, _⟩ := h
    rfl
  obtain ⟨q, xs, as, rfl, hq, A1, ok, fin⟩ := h
  refine ⟨_, pss_cons (ps_set (i := 1) scUnlikeL2.nd rfl (Or.inl rfl) (pe_lst pa_nil))
    (pss_cons (ps_for PassesOwn.never rfl (pi_list (pv 0)) (pg_name (i := 2) scUnlikeL2.nd rfl (Or.inl rfl))
      (pss_one (ps_if (pt_cmpR (op_notInD (hu65 hr)) (pv 2) (pv 1) (by rfl)) (pss_one (ps_expr (pe_bm PySem.F.plainAttrs_list PySem.F.slot_list_append PySem.F.type_list_append mt_append (pv 1) (pa_cons (pv 2) pa_nil)))) pss_nil)))
    (pss_one (ps_ret (pe_callTy call_tuple_of (by rfl) mTuple (by decide +kernel) (pa_cons (pv 1) pa_nil))))), ?_⟩
  have big : (2000000 : Nat) ≤ sizeLine := by decide
  have xl := A1.len
  have o6 := ok.few
  refine ⟨(by show 0 ≤ sizeLine; decide), fun l hl => ?_⟩
  have s1 := same_new hl (.lst ([] : List V))
  have hq1 := s1 _ _ hq
  have lq : q ≠ l := ne_of_none hq hl
  refine ⟨_, rfl, q, rfl, ⟨_, .inl (.inl hq1)⟩, for_list (K := K) (a := q) (xs := xs) (fun i σ H2 => ∃ (x2 : Option V) (ys : List V) (bs : List At), σ = [some (.ref q), some (.ref l), x2] ∧ H2 l = some (.lst ys) ∧ AtsAt H2 ys bs ∧ AtsOk bs ∧ bs.Nodup ∧ bs.length ≤ i ∧ Same H H2)
    ⟨none, [], [], rfl, upd_same, trivial, ⟨by simp, by simp⟩, by simp, by simp, s1⟩ (fun i σ H2 _ ⟨_, _, _, _, _, _, _, _, _, h⟩ => .inl (.inl (h _ _ hq))) ?_ ?_⟩
  · rintro i x σ H2 hi ⟨x2, ys, bs, rfl, h2, A2, ok2, nd2, bl, s2⟩
    obtain ⟨a, ha, T⟩ := A1.get hi
    have am := List.mem_of_getElem? ha
    have li : i < as.length := (List.getElem?_eq_some_iff.mp ha).1
    have yl := A2.len
    have T2 := atAt_same T s2
    refine ⟨_, rfl, _, rfl, atD a, bs.map atD, at_dp T2, .lst (.inl (.inl h2)) (ats_dp A2), at_shaped (ok.ok a am), ats_shaped fun b hb => ok2.ok b hb, ?_⟩
    by_cases nin : a ∈ bs
    · refine ⟨false, by rw [in_ats, decide_eq_true nin]; rfl, iteF ?_⟩
      exact ⟨_, ys, bs, rfl, h2, A2, ok2, nd2, by omega, s2⟩
    · refine ⟨true, by rw [notin_ats nin]; rfl, iteT ?_⟩
      refine ⟨_, rfl, .inl ⟨rfl, _, .inl (.inl h2)⟩, _, rfl, l, _, _, rfl, rfl, h2, by omega, ?_⟩
      have keep : ∀ b zs, H2 b = some (.tup zs) → (upd H2 l (.lst (ys ++ [x]))) b = some (.tup zs) := fun b zs z => by rw [upd_ne (ne_of z h2 (by intro e; cases e))]; exact z
      refine ⟨_, ys ++ [x], bs ++ [a], rfl, upd_same, (A2.mono keep).append ⟨atAt_mono keep T2, trivial⟩, AtsOk.mk (by simp; omega) (fun c hc => ?_), ?_, by simp; omega, ?_⟩
      · rcases List.mem_append.mp hc with hc | hc
        · exact ok2.ok c hc
        · obtain rfl : c = a := by simpa using hc
          exact ok.ok c am
      · rw [List.nodup_append]
        exact ⟨nd2, by simp, fun x hx y hy e => by
          obtain rfl : y = a := by simpa using hy
          exact nin (e ▸ hx)⟩
      · intro c o z
        rw [upd_ne (ne_of_none z hl)]
        exact s2 _ _ z
  · rintro σ H2 ⟨x2, ys, bs, rfl, h2, A2, ok2, nd2, bl, s2⟩
    exact ⟨_, rfl, l, _, rfl, .inl ⟨.inl (.inl h2), fun p hp => fin p ys bs _ upd_same (A2.same (same_new hp _)) ok2 nd2 (by omega) (s2.trans (same_new hp _))⟩⟩
end
end Rp

set_option maxHeartbeats 16000000
/-! The law's shapes, atoms, sayings. -/
namespace Rp
open PySem PySem.Spec PyProof.Rows L2 TL StX
abbrev KVs := List (L2.Key × V)
def ShE (v : V) : Prop := ∃ m : Nat, v = .int (m : Nat) ∧ 1 ≤ m ∧ m ≤ 2
def ShOk (ws : List Str) (kvs : KVs) : Prop := ∀ x ∈ ws, ∃ v, valV kvs (.inr x) = some v ∧ ShE v
theorem merge_has : ∀ {more acc : KVs} {k : L2.Key}, (∀ kv ∈ more, ShE kv.2) → ((∃ v, valV acc k = some v ∧ ShE v) ∨ k ∈ more.map (·.1)) → ∃ v, valV (mergeK acc more) k = some v ∧ ShE v
  | [], acc, k, _, h => by
    rcases h with h | h
    · exact h
    · simp at h
  | kv :: more, acc, k, e, h => by
    have e1 : mergeK acc (kv :: more) = mergeK (putK acc kv.1 kv.2) more := rfl
    rw [e1]
    refine merge_has (fun z hz => e z (by simp [hz])) ?_
    by_cases z : k = kv.1
    · exact .inl ⟨kv.2, by rw [valV_put, if_pos z], e kv (by simp)⟩
    · rcases h with ⟨v, h1, h2⟩ | h
      · exact .inl ⟨v, by rw [valV_put, if_neg z]; exact h1, h2⟩
      · simp only [List.map_cons, List.mem_cons] at h
        exact .inr (h.resolve_left z)
def PairsAt (H : Hp) : List Addr → KVs → Prop
  | [], [] => True
  | p :: ps, kv :: kvs => H p = some (.tup [kV kv.1, kv.2]) ∧ PairsAt H ps kvs
  | _, _ => False
theorem PairsAt.mono {H H' : Hp} (e : ∀ a xs, H a = some (.tup xs) → H' a = some (.tup xs)) : ∀ {ps : List Addr} {kvs : KVs}, PairsAt H ps kvs → PairsAt H' ps kvs
  | [], [], _ => trivial
  | _ :: _, _ :: _, h => ⟨e _ _ h.1, PairsAt.mono e h.2⟩
theorem PairsAt.len {H : Hp} : ∀ {ps : List Addr} {kvs : KVs}, PairsAt H ps kvs → ps.length = kvs.length
  | [], [], _ => rfl
  | _ :: _, _ :: _, h => congrArg (· + 1) (PairsAt.len h.2)
theorem PairsAt.snoc {H : Hp} {p : Addr} {kv : L2.Key × V} (hp : H p = some (.tup [kV kv.1, kv.2])) : ∀ {ps : List Addr} {kvs : KVs}, PairsAt H ps kvs → PairsAt H (ps ++ [p]) (kvs ++ [kv])
  | [], [], _ => ⟨hp, trivial⟩
  | _ :: _, _ :: _, h => ⟨h.1, PairsAt.snoc hp h.2⟩
theorem PairsAt.paired {K : PySem.W.Frag} {H : Hp} : ∀ {ps : List Addr} {kvs : KVs}, PairsAt H ps kvs → Paired (fun p (kv : L2.Key × V) => SqT K H p [kV kv.1, kv.2]) ps kvs
  | [], [], _ => .nil
  | _ :: _, _ :: _, h => .cons (.inl (.inl h.1)) (PairsAt.paired h.2)
theorem ne_box {H : Hp} {a b : Addr} {j : Nat} (B : BoxAt H b j) (h : H a = none) : a ≠ b := by
  obtain ⟨y, hb⟩ := B.some
  exact (ne_of_none hb h).symm
theorem ne_boxT {H : Hp} {a b : Addr} {j : Nat} {o : HO} (B : BoxAt H b j) (h : H a = some o) (n : ∀ xs, o ≠ .lst xs) : a ≠ b := by
  obtain ⟨y, hb⟩ := B.some
  rintro rfl
  rw [hb] at h
  exact n _ (Option.some.inj h).symm
/-- tuples stay, a list taken anew -/
theorem keepU {H : Hp} {D : Addr} {xs : List V} {o : HO} (h : H D = some (.lst xs)) : ∀ q zs, H q = some (.tup zs) → (upd H D o) q = some (.tup zs) := fun q zs z => by
  rw [upd_ne (ne_of z h (by intro e; cases e))]; exact z
theorem keepB {H H' : Hp} {b : Addr} {j : Nat} (B : BoxAt H b j) (o : But b H H') : ∀ q zs, H q = some (.tup zs) → H' q = some (.tup zs) := fun q zs z => o _ _ z (ne_boxT B z (by intro xs e; cases e))
theorem but_new {H : Hp} {b D : Addr} {H0 H1 : Hp} {o : HO} (hD : H D = none) (h : But b H H0) (h' : ∀ x u, H0 x = some u → x ≠ b → H1 x = some u) : But b H (upd H1 D o) := by
  intro x u z nb
  rw [upd_ne (ne_of_none z hD)]
  exact h' _ _ (h _ _ z nb) nb
def spShapes : Sp := fun vs H Q _ => ∃ (b p : Addr) (ws : List Str) (j : Nat), vs = [.ref b, .ref p] ∧ BoxAt H b j ∧ H p = some (.lst (ws.map V.str)) ∧ p ≠ b ∧ ws.length ≤ 4 ∧ j + 4 ≤ 1000000 ∧
  ∀ (d : Addr) (kvs : KVs) (H' : Hp), H d = none → H' d = some (.dK kvs) → ShOk ws kvs → BoxAt H' b (j + 4) → But b H H' → Q (.ref d) H'
structure Wrd (H : Hp) (b d p pp : Addr) (ws : List Str) (ks : List Int) (kvs : KVs) : Prop where
  hd : H d = some (.dK kvs)
  sh : ShOk ws kvs
  hp : H p = some (.lst (ws.map V.str))
  hq : H pp = some (.lst (ks.map V.int))
  pk : ∀ k ∈ ks, 0 ≤ k ∧ k ≤ 99
  pl : ks.length ≤ 200
  pb : p ≠ b
  qb : pp ≠ b
  nm : ∀ x ∈ ws, NameOk x
  one : 1 ≤ ws.length
  four : ws.length ≤ 4
theorem Wrd.db {H : Hp} {b d p pp : Addr} {ws : List Str} {ks : List Int} {kvs : KVs} {j : Nat} (W : Wrd H b d p pp ws ks kvs) (B : BoxAt H b j) : d ≠ b := ne_boxT B W.hd (by intro xs e; cases e)
theorem Wrd.but {H H' : Hp} {b d p pp : Addr} {ws : List Str} {ks : List Int} {kvs : KVs} {j : Nat} (W : Wrd H b d p pp ws ks kvs) (B : BoxAt H b j) (o : But b H H') : Wrd H' b d p pp ws ks kvs :=
  ⟨o _ _ W.hd (W.db B), W.sh, o _ _ W.hp W.pb, o _ _ W.hq W.qb, W.pk, W.pl, W.pb, W.qb, W.nm, W.one, W.four⟩
theorem Wrd.same {H H' : Hp} {b d p pp : Addr} {ws : List Str} {ks : List Int} {kvs : KVs} (W : Wrd H b d p pp ws ks kvs) (o : Same H H') : Wrd H' b d p pp ws ks kvs :=
  ⟨o _ _ W.hd, W.sh, o _ _ W.hp, o _ _ W.hq, W.pk, W.pl, W.pb, W.qb, W.nm, W.one, W.four⟩
def spAtomL : Sp := fun vs H Q _ => ∃ (b d p pp : Addr) (ws : List Str) (ks : List Int) (kvs : KVs) (j m : Nat), vs = [.ref b, .ref d, .ref p, .ref pp, .int m] ∧ BoxAt H b j ∧ Wrd H b d p pp ws ks kvs ∧ m ≤ 2 ∧ j + 31 ≤ 1000000 ∧
  ∀ (v : V) (a : At) (H' : Hp), AtAt H' v a → AtOk 7 a → BoxAt H' b (j + 31) → But b H H' → Q v H'
def spSayingL : Sp := fun vs H Q _ => ∃ (b d p pp : Addr) (ws : List Str) (ks : List Int) (kvs : KVs) (j m : Nat), vs = [.ref b, .ref d, .ref p, .ref pp, .int m] ∧ BoxAt H b j ∧ Wrd H b d p pp ws ks kvs ∧ m ≤ 3 ∧ j + 150 ≤ 1000000 ∧
  ∀ (v : V) (s : Sy) (H' : Hp), SyAt H' v s → SyOk s → s.hs.length ≤ 3 → BoxAt H' b (j + 150) → But b H H' → Q v H'
section
variable {P : Program} {w : World} {K : PySem.W.Frag} {mg : Str → Option Value} {base : Heap}
theorem scShapes : FnScope ["_law_box_here", "_law_names_here", "_law_name"] ["_law_box_here", "_law_names_here"] (defScope sShapes) := ⟨rfl, rfl, rfl, by decide +kernel, rfl, by decide +kernel, by decide +kernel⟩
def tePair (K : PySem.W.Frag) : TE := tTup (tCons (tVar 2) (tCons (tOp (rIxL K) (tLst (tCons (tC (.int 1)) (tCons (tC (.int 1)) (tCons (tC (.int 1)) (tCons (tC (.int 2)) tNil))))) (tCall spTake [] E0 (tCons (tVar 0) (tCons (tC (.int 4)) tNil)))) tNil))
theorem ok_shapes {f fT : Addr} {fd fdT : FuncData} (F : Fun K "_law_shapes" "_law_shapes" sShapes f fd)
    (GT : FnOk P w K mg base CX0 1 fT fdT ["_law_box_here", "_law_reach"] spTake) (kT : PySem.W.keepIn K (.ref fT) = true) (bT : Binds K fdT ["_law_box_here", "_law_reach"] []) (mT : mg "_law_take" = some (.ref fT))
    (mDict : mg "dict" = none) : FnOk P w K mg base CX0 2 f fd ["_law_box_here", "_law_names_here"] spShapes := by
  refine F.ok scShapes (fun vs H Q E h => ?_) (fun cdv A outer s H vs Q E hr h => ?_)
  · obtain ⟨b, p, ws, j, rfl, _⟩ := h
    rfl
  obtain ⟨b, p, ws, j, rfl, B, hp, pb, w4, hj, q⟩ := h
  refine ⟨_, pss_one (ps_ret (pe_callTy (call_dictP rfl) (by rfl) mDict (by decide +kernel) (pa_cons (pe_lc (own := [("_law_name", 2)]) (g := gName 2) (tt := tYes) (te := tePair K) rfl scShapes.nd (pi_list (pv 1))
        (blkOk_by (N := ["_law_box_here", "_law_names_here", "_law_name"]) (sc := defScope sShapes) (by decide +kernel)) (fun _ _ _ _ _ => pg_name (i := 2) scShapes.nd rfl (Or.inl rfl)) (fun _ _ _ _ _ => pts_nil)
        (fun _ _ _ _ _ => pe_tup (pa_cons (pv 2) (pa_cons (pe_ix ix_list (pe_lst (pa_cons pe_int (pa_cons pe_int (pa_cons pe_int (pa_cons pe_int pa_nil))))) (pe_call GT hr (by rfl) mT kT bT .nil pass0 (pa_cons (pv 0) (pa_cons pe_int pa_nil))) (fun _ _ => rfl)) pa_nil)))) pa_nil))), ?_⟩
  have big : (2000000 : Nat) ≤ sizeLine := by decide
  refine ⟨_, rfl, p, rfl, ⟨_, .inl (.inl hp)⟩, fun D hD => lc_list (K := K) (a := p) (xs := ws.map V.str) (fun i H2 => ∃ (ps : List Addr) (kvs : KVs), H2 D = some (.lst (ps.map V.ref)) ∧ PairsAt H2 ps kvs ∧ kvs.map (·.1) = (ws.take i).map Sum.inr ∧ (∀ kv ∈ kvs, ShE kv.2) ∧ BoxAt H2 b (j + i) ∧ H2 p = some (.lst (ws.map V.str)) ∧ But b H H2)
    ⟨[], [], upd_same, trivial, rfl, by simp, (B.same (same_new hD _)).more (by omega), same_new hD _ _ _ hp, but_of (same_new hD _)⟩ (fun i H2 _ ⟨_, _, _, _, _, _, _, h, _⟩ => .inl (.inl h)) ?_ ?_⟩
  · rintro i x H2 hi ⟨ps, kvs, h2, A2, kl, ke, B2, hp2, o2⟩
    rw [List.getElem?_map] at hi
    obtain ⟨y, hy, rfl⟩ : ∃ y, ws[i]? = some y ∧ x = .str y := by
      cases hq : ws[i]? with
      | none => rw [hq] at hi; cases hi
      | some p => rw [hq] at hi; exact ⟨p, rfl, by simpa using hi.symm⟩
    have li : i < ws.length := (List.getElem?_eq_some_iff.mp hy).1
    have Db : D ≠ b := ne_box B hD
    have Dp : D ≠ p := (ne_of_none hp hD).symm
    have pl := A2.len
    have kl2 : kvs.length ≤ 4 := by
      have := congrArg List.length kl
      rw [List.length_map, List.length_map, List.length_take] at this
      omega
    refine ⟨rfl, ?_⟩
    unfold tePair
    refine ⟨_, rfl, (by show 4 ≤ sizeLine; decide), fun c hc => ?_⟩
    have s3 := same_new hc (.lst [V.int 1, V.int 1, V.int 1, V.int 2])
    have B3 := B2.same s3
    have cb : c ≠ b := ne_box B2 hc
    refine ⟨_, rfl, b, _, _, rfl, B3, by omega, by decide, by decide, fun r H4 r0 r4 B4 o4 => ?_⟩
    have hc4 := o4 _ _ upd_same cb
    obtain ⟨m, hat, hm⟩ : ∃ m : Nat, atI [V.int 1, V.int 1, V.int 1, V.int 2] r = some (.int (m : Nat)) ∧ 1 ≤ m ∧ m ≤ 2 := by
      rcases (by omega : r = 0 ∨ r = 1 ∨ r = 2 ∨ r = 3) with e | e | e | e <;> subst e
      · exact ⟨1, at_of (j := 0) rfl rfl, by omega, by omega⟩
      · exact ⟨1, at_of (j := 1) rfl rfl, by omega, by omega⟩
      · exact ⟨1, at_of (j := 2) rfl rfl, by omega, by omega⟩
      · exact ⟨2, at_of (j := 3) rfl rfl, by omega, by omega⟩
    refine ⟨c, _, _, _, rfl, rfl, .inl (.inl hc4), hat, (by show 2 ≤ sizeLine; decide), fun t ht => ?_⟩
    have s4 := same_new ht (.tup [V.str y, V.int (m : Nat)])
    have hD4 := s4 _ _ (o4 _ _ (s3 _ _ h2) Db)
    have keep : ∀ a zs, H2 a = some (.tup zs) → (upd (upd H4 t (.tup [V.str y, V.int (m : Nat)])) D (.lst (ps.map V.ref ++ [.ref t]))) a = some (.tup zs) := fun a zs z =>
      keepU hD4 _ _ (s4 _ _ (keepB B3 o4 _ _ (s3 _ _ z)))
    have tD : t ≠ D := (ne_of_none (o4 _ _ (s3 _ _ h2) Db) ht).symm
    refine ⟨_, hD4, by rw [List.length_map]; omega, ps ++ [t], kvs ++ [(.inr y, .int (m : Nat))], by rw [upd_same, List.map_append]; rfl, PairsAt.snoc (by rw [upd_ne tD, upd_same]; rfl) (A2.mono keep), ?_, ?_, ((B4.same s4).upd Db _).more (by omega), ?_, ?_⟩
    · have tk : ws.take (i + 1) = ws.take i ++ [y] := by rw [List.take_add_one, hy]; rfl
      rw [tk, List.map_append, List.map_append, kl]; rfl
    · intro kv hkv
      rcases List.mem_append.mp hkv with hkv | hkv
      · exact ke kv hkv
      · obtain rfl : kv = (.inr y, .int (m : Nat)) := by simpa using hkv
        exact ⟨m, rfl, hm.1, hm.2⟩
    · rw [upd_ne Dp.symm]
      exact s4 _ _ (o4 _ _ (s3 _ _ hp2) pb)
    · exact but_new hD o2 fun a o z nb => s4 _ _ (o4 _ _ (s3 _ _ z) nb)
  · rintro H2 ⟨ps, kvs, h2, A2, kl, ke, B2, hp2, o2⟩
    rw [List.length_map] at B2
    rw [List.length_map, List.take_length] at kl
    refine ⟨D, ps, kvs, rfl, .inl (.inl h2), A2.paired, fun d hd => ?_⟩
    have s3 := same_new hd (.dK (mergeK [] kvs))
    have hd0 : H d = none := but_none o2 B2 hd
    exact q d _ _ hd0 upd_same (fun x hx => merge_has ke (.inr (by rw [kl]; exact List.mem_map.mpr ⟨x, hx, rfl⟩))) ((B2.same s3).more (by omega)) (o2.trans (but_of s3))
abbrev NA : List Str := ["_law_box_here", "_law_shapes_here", "_law_names_here", "_law_pool", "_law_deep", "_law_word", "_law_part"]
theorem scAtomL : FnScope NA ["_law_box_here", "_law_shapes_here", "_law_names_here", "_law_pool", "_law_deep"] (defScope sAtomL) := ⟨rfl, rfl, rfl, by decide +kernel, rfl, by decide +kernel, by decide +kernel⟩
def teTm : TE := tCall (spLTerm 3) [] E0 (tCons (tVar 0) (tCons (tVar 3) (tCons (tVar 4) tNil)))
theorem ok_atoml {f fP fTm : Addr} {fd dP dTm : FuncData} (F : Fun K "_law_atom" "_law_atom" sAtomL f fd)
    (GP : FnOk P w K mg base CX0 2 fP dP ["_law_box_here", "_law_things"] spPick) (kP : PySem.W.keepIn K (.ref fP) = true) (bP : Binds K dP ["_law_box_here", "_law_things"] []) (mP : mg "_law_pick" = some (.ref fP))
    (GTm : FnOk P w K mg base CX0 5 fTm dTm ["_law_box_here", "_law_pool", "_law_deep"] (spLTerm 3)) (kTm : PySem.W.keepIn K (.ref fTm) = true) (bTm : Binds K dTm ["_law_box_here", "_law_pool", "_law_deep"] []) (mTm : mg "_law_term" = some (.ref fTm))
    (mRange : mg "range" = none) (mTuple : mg "tuple" = none) : FnOk P w K mg base CX0 6 f fd ["_law_box_here", "_law_shapes_here", "_law_names_here", "_law_pool", "_law_deep"] spAtomL := by
  refine F.ok scAtomL (fun vs H Q E h => ?_) (fun cdv A outer s H vs Q E hr h => ?_)
  · obtain ⟨b, d, p, pp, ws, ks, kvs, j, m, rfl, _⟩ := h
    rfl
  obtain ⟨b, d, p, pp, ws, ks, kvs, j, m, rfl, B, W, m2, hj, q⟩ := h
  have r2 : Room 2 _ := hr.mono (by decide)
  refine ⟨_, pss_cons (ps_set (i := 5) scAtomL.nd rfl (Or.inl rfl) (pe_call GP r2 rfl mP kP bP .nil pass0 (pa_cons (pv 0) (pa_cons (pv 2) pa_nil))))
    (pss_one (ps_ret (pe_op op_catT (pe_tup (pa_cons (pv 5) pa_nil)) (pe_callTy call_tuple_of (by rfl) mTuple (by decide +kernel) (pa_cons
      (pe_lc (own := [("_law_part", 6)]) (g := gName 6) (tt := tYes) (te := teTm) rfl scAtomL.nd (pi_range1 (by rfl) mRange (pa_cons (pe_dget (hu_of hr) (pv 1) (pv 5) (fun _ _ => rfl)) pa_nil)) (blkOk_by (N := NA) (sc := defScope sAtomL) (by decide +kernel))
        (fun _ _ _ _ _ => pg_name (i := 6) scAtomL.nd rfl (Or.inl rfl)) (fun _ _ _ _ _ => pts_nil) (fun _ _ _ _ _ => pe_call GTm hr (by rfl) mTm kTm bTm .nil pass0 (pa_cons (pv 0) (pa_cons (pv 3) (pa_cons (pv 4) pa_nil))))) pa_nil))))), ?_⟩
  have big : (2000000 : Nat) ≤ sizeLine := by decide
  have pw1 : 2 ^ m ≤ 2 ^ 2 := Nat.pow_le_pow_right (by decide) m2
  have pw2 : 2 ^ (m + 1) ≤ 2 ^ 3 := Nat.pow_le_pow_right (by decide) (by omega)
  have w4 := W.four
  have w1 := W.one
  refine ⟨_, rfl, _, rfl, b, p, _, j, rfl, B, by omega, W.hp, W.pb, by rw [List.length_map]; omega, by rw [List.length_map]; omega, fun v H1 hv B1 o1 => ?_⟩
  obtain ⟨x, hx, rfl⟩ := List.mem_map.mp hv
  have W1 := W.but B o1
  obtain ⟨_, hval, mm, rfl, mm1, mm2⟩ := W1.sh x hx
  refine ⟨_, rfl, (by show 1 ≤ sizeLine; decide), fun t ht => ?_⟩
  have s2 := same_new ht (.tup [V.str x])
  have W2 := W1.same s2
  have B2 := B1.same s2
  refine ⟨_, rfl, _, rfl, d, _, rfl, by rw [← hval]; exact DGet.k (k := Sum.inr x) W2.hd, _, rfl, by omega, by omega, fun D hD => lc_range (lo := 0) (fun e H3 => ∃ (xs : List V) (ts : List Tm), H3 D = some (.lst xs) ∧ AllAt H3 xs ts ∧ ts.length = e ∧ (∀ u ∈ ts, u.small ∧ u.size ≤ 7) ∧ BoxAt H3 b (j + 1 + 15 * e) ∧ But b (upd H1 t (.tup [V.str x])) H3)
    ⟨[], [], upd_same, trivial, rfl, by simp, (B2.same (same_new hD _)).more (by omega), but_of (same_new hD _)⟩ ?_ ?_⟩
  · rintro e H3 he ⟨xs, ts, h3, A3, tl, tk, B3, o3⟩
    have Db : D ≠ b := ne_box B2 hD
    have xl := A3.len
    have W3 := W2.but B2 o3
    refine ⟨rfl, ?_⟩
    unfold teTm
    refine ⟨_, rfl, _, rfl, _, rfl, b, pp, ks, _, m, rfl, B3, W3.hq, W3.pk, W3.pl, W3.qb, by omega, m2, by omega, fun v u H4 T sm sz B4 o4 => ?_⟩
    have h4 := o4 _ _ h3 Db
    refine ⟨xs, h4, by omega, xs ++ [v], ts ++ [u], upd_same, (A3.mono fun q zs z => keepU h4 _ _ (keepB B3 o4 _ _ z)).append ⟨T.mono (keepU h4), trivial⟩, by simp [tl], fun y hy => ?_, (B4.upd Db _).more (by omega), ?_⟩
    · rcases List.mem_append.mp hy with hy | hy
      · exact tk y hy
      · obtain rfl : y = u := by simpa using hy
        exact ⟨sm, by omega⟩
    · exact but_new hD o3 o4
  · rintro H3 ⟨xs, ts, h3, A3, tl, tk, B3, o3⟩
    have tl2 : ts.length = mm := by rw [tl]; omega
    have xl := A3.len
    refine ⟨D, xs, rfl, .inl ⟨.inl (.inl h3), fun g hg => ?_⟩⟩
    have s4 := same_new hg (.tup xs)
    have ht3 := keepB B2 o3 _ _ (upd_same : (upd H1 t (.tup [V.str x])) t = _)
    refine ⟨t, g, [V.str x], xs, rfl, rfl, .inl (.inl (s4 _ _ ht3)), .inl (.inl upd_same), by simp, by simp; omega, fun e => ?_, fun _ t2 ht2 => ?_⟩
    · rw [e] at xl; simp at xl; omega
    · have s5 := same_new ht2 (.tup ([V.str x] ++ xs))
      exact q _ ⟨x, ts⟩ _ ⟨t2, xs, rfl, upd_same, A3.mono fun q zs z => s5 _ _ (s4 _ _ z)⟩ ⟨W.nm x hx, by show 1 ≤ ts.length; omega, by show ts.length ≤ 2; omega, tk⟩ (((B3.same s4).same s5).more (by omega))
        (o1.trans ((but_of s2).trans (o3.trans ((but_of s4).trans (but_of s5)))))
abbrev NSy : List Str := ["_law_box_here", "_law_shapes_here", "_law_names_here", "_law_pool", "_law_count", "_law_hyps", "_law_turn"]
theorem scSayingL : FnScope NSy ["_law_box_here", "_law_shapes_here", "_law_names_here", "_law_pool", "_law_count"] (defScope sSayingL) := ⟨rfl, rfl, rfl, by decide +kernel, rfl, by decide +kernel, by decide +kernel⟩
def teAtom : TE := tCall spAtomL [] E0 (tCons (tVar 0) (tCons (tVar 1) (tCons (tVar 2) (tCons (tVar 3) (tCons (tCall spTake [] E0 (tCons (tVar 0) (tCons (tC (.int 2)) tNil))) tNil)))))
theorem ok_sayingl {f fT fA fU : Addr} {fd dT dA dU : FuncData} (F : Fun K "_law_saying" "_law_saying" sSayingL f fd)
    (GT : FnOk P w K mg base CX0 1 fT dT ["_law_box_here", "_law_reach"] spTake) (kT : PySem.W.keepIn K (.ref fT) = true) (bT : Binds K dT ["_law_box_here", "_law_reach"] []) (mT : mg "_law_take" = some (.ref fT))
    (GA : FnOk P w K mg base CX0 6 fA dA ["_law_box_here", "_law_shapes_here", "_law_names_here", "_law_pool", "_law_deep"] spAtomL) (kA : PySem.W.keepIn K (.ref fA) = true) (bA : Binds K dA ["_law_box_here", "_law_shapes_here", "_law_names_here", "_law_pool", "_law_deep"] []) (mA : mg "_law_atom" = some (.ref fA))
    (GU : FnOk P w K mg base CX0 1 fU dU ["_law_atoms"] spUnlikeL) (kU : PySem.W.keepIn K (.ref fU) = true) (bU : Binds K dU ["_law_atoms"] []) (mU : mg "_law_unlike" = some (.ref fU))
    (mRange : mg "range" = none) : FnOk P w K mg base CX0 7 f fd ["_law_box_here", "_law_shapes_here", "_law_names_here", "_law_pool", "_law_count"] spSayingL := by
  refine F.ok scSayingL (fun vs H Q E h => ?_) (fun cdv A outer s H vs Q E hr h => ?_)
  · obtain ⟨b, d, p, pp, ws, ks, kvs, j, m, rfl, _⟩ := h
    rfl
  obtain ⟨b, d, p, pp, ws, ks, kvs, j, m, rfl, B, W, m3, hj, q⟩ := h
  have r1 : Room 1 _ := hr.mono (by decide)
  refine ⟨_, pss_cons (ps_setLc (i := 5) (own := [("_law_turn", 6)]) (g := gName 6) (tt := tYes) (te := teAtom) rfl scSayingL.nd rfl rfl (by rfl) (pi_range1 (by rfl) mRange (pa_cons (pe_call GT r1 (by rfl) mT kT bT .nil pass0 (pa_cons (pv 0) (pa_cons (pe_op op_addI (pv 4) pe_int) pa_nil))) pa_nil))
        (blkOk_by (N := NSy) (sc := defScope sSayingL) (by decide +kernel)) (fun _ _ _ _ _ => pg_name (i := 6) scSayingL.nd rfl (Or.inl rfl)) (fun _ _ _ _ _ => pts_nil)
        (fun _ _ _ _ _ => pe_call GA hr (by rfl) mA kA bA .nil pass0 (pa_cons (pv 0) (pa_cons (pv 1) (pa_cons (pv 2) (pa_cons (pv 3) (pa_cons (pe_call GT r1 (by rfl) mT kT bT .nil pass0 (pa_cons (pv 0) (pa_cons pe_int pa_nil))) pa_nil)))))))
    (pss_one (ps_ret (pe_tup (pa_cons (pe_call GU r1 (by rfl) mU kU bU .nil pass0 (pa_cons (pv 5) pa_nil)) (pa_cons (pe_call GA hr (by rfl) mA kA bA .nil pass0 (pa_cons (pv 0) (pa_cons (pv 1) (pa_cons (pv 2) (pa_cons (pv 3) (pa_cons (pe_call GT r1 (by rfl) mT kT bT .nil pass0 (pa_cons (pv 0) (pa_cons pe_int pa_nil))) pa_nil)))))) pa_nil))))), ?_⟩
  have big : (2000000 : Nat) ≤ sizeLine := by decide
  refine ⟨_, rfl, _, rfl, _, _, rfl, rfl, b, _, j, rfl, B, by omega, by omega, by omega, fun c H1 c0 c1 B1 o1 => ?_⟩
  have W1 := W.but B o1
  refine ⟨_, rfl, by omega, by omega, fun D hD => lc_range (lo := 0) (fun e H3 => ∃ (xs : List V) (as : List At), H3 D = some (.lst xs) ∧ AtsAt H3 xs as ∧ as.length = e ∧ (∀ a ∈ as, AtOk 7 a) ∧ BoxAt H3 b (j + 1 + 32 * e) ∧ But b H1 H3)
    ⟨[], [], upd_same, trivial, rfl, by simp, (B1.same (same_new hD _)).more (by omega), but_of (same_new hD _)⟩ ?_ ?_⟩
  · rintro e H3 he ⟨xs, as, h3, A3, al, ao, B3, o3⟩
    have Db : D ≠ b := ne_box B1 hD
    have xl := A3.len
    have W3 := W1.but B1 o3
    refine ⟨rfl, ?_⟩
    unfold teAtom
    refine ⟨_, rfl, _, rfl, _, rfl, _, rfl, _, rfl, b, _, _, rfl, B3, by omega, by decide, by decide, fun z H4 z0 z1 B4 o4 => ?_⟩
    obtain ⟨mz, rfl⟩ := Int.eq_ofNat_of_zero_le z0
    have W4 := W3.but B3 o4
    refine ⟨b, d, p, pp, ws, ks, kvs, _, mz, rfl, B4, W4, by omega, by omega, fun v a H5 A5 ok5 B5 o5 => ?_⟩
    have h5 := o5 _ _ (o4 _ _ h3 Db) Db
    refine ⟨xs, h5, by omega, xs ++ [v], as ++ [a], upd_same, (A3.mono fun q zs z => keepU h5 _ _ (keepB B4 o5 _ _ (keepB B3 o4 _ _ z))).append ⟨atAt_mono (keepU h5) A5, trivial⟩, by simp [al], fun y hy => ?_, (B5.upd Db _).more (by omega), ?_⟩
    · rcases List.mem_append.mp hy with hy | hy
      · exact ao y hy
      · obtain rfl : y = a := by simpa using hy
        exact ok5
    · exact but_new hD o3 (o4.trans o5)
  · rintro H3 ⟨xs, as, h3, A3, al, ao, B3, o3⟩
    have al3 : as.length ≤ 3 := by omega
    have W3 := W1.but B1 o3
    refine ⟨_, rfl, D, xs, as, rfl, h3, A3, AtsOk.mk (by omega) ao, fun g ys bs H4 hg A4 ok4 nd4 l4 s4 => ?_⟩
    have B4 := B3.same s4
    have W4 := W3.same s4
    refine ⟨_, rfl, _, rfl, _, rfl, _, rfl, _, rfl, b, _, _, rfl, B4, by omega, by decide, by decide, fun z H5 z0 z1 B5 o5 => ?_⟩
    obtain ⟨mz, rfl⟩ := Int.eq_ofNat_of_zero_le z0
    have W5 := W4.but B4 o5
    refine ⟨b, d, p, pp, ws, ks, kvs, _, mz, rfl, B5, W5, by omega, by omega, fun v a H6 A6 ok6 B6 o6 => ⟨(by show 2 ≤ sizeLine; decide), fun t ht => ?_⟩⟩
    have s7 := same_new ht (.tup [V.ref g, v])
    exact q _ ⟨bs, a⟩ _ ⟨t, g, v, ys, rfl, upd_same, s7 _ _ (keepB B5 o6 _ _ (keepB B4 o5 _ _ hg)), A4.mono fun q zs z => s7 _ _ (keepB B5 o6 _ _ (keepB B4 o5 _ _ z)), atAt_same A6 s7⟩ ⟨ok4, nd4, ok6⟩ (by show bs.length ≤ 3; omega) ((B6.same s7).more (by omega))
      (o1.trans (o3.trans ((but_of s4).trans (o5.trans (o6.trans (but_of s7))))))
end
end Rp

set_option maxHeartbeats 16000000
/-! The law's bindings. -/
namespace Rp
open PySem PySem.Spec PyProof.Rows L2 TL StX
abbrev Prs := List (Int × Tm)
/-- pairs stand as the values xs -/
def PrAt (H : Hp) : List V → Prs → Prop
  | [], [] => True
  | x :: xs, (n, t) :: ps => (∃ (b : Addr) (y : V), x = .ref b ∧ H b = some (.tup [.int n, y]) ∧ TmAt H y t) ∧ PrAt H xs ps
  | _, _ => False
theorem PrAt.len {H : Hp} : ∀ {xs : List V} {ps : Prs}, PrAt H xs ps → xs.length = ps.length
  | [], [], _ => rfl
  | _ :: _, _ :: _, h => congrArg (· + 1) (PrAt.len h.2)
theorem PrAt.mono {H H' : Hp} (e : ∀ a xs, H a = some (.tup xs) → H' a = some (.tup xs)) : ∀ {xs : List V} {ps : Prs}, PrAt H xs ps → PrAt H' xs ps
  | [], [], _ => trivial
  | _ :: _, _ :: _, h => ⟨let ⟨b, y, e1, e2, e3⟩ := h.1; ⟨b, y, e1, e _ _ e2, e3.mono e⟩, PrAt.mono e h.2⟩
theorem PrAt.append {H : Hp} : ∀ {xs ys : List V} {ps qs : Prs}, PrAt H xs ps → PrAt H ys qs → PrAt H (xs ++ ys) (ps ++ qs)
  | [], _, [], _, _, h => h
  | _ :: _, _, _ :: _, _, h, h' => ⟨h.1, PrAt.append h.2 h'⟩
theorem PrAt.get {H : Hp} : ∀ {xs : List V} {ps : Prs} {i : Nat} {x : V}, PrAt H xs ps → xs[i]? = some x → ∃ p, ps[i]? = some p ∧ ∃ (b : Addr) (y : V), x = .ref b ∧ H b = some (.tup [.int p.1, y]) ∧ TmAt H y p.2
  | _ :: _, (n, t) :: _, 0, _, h, e => by simp at e; subst e; exact ⟨(n, t), rfl, h.1⟩
  | _ :: _, _ :: _, _ + 1, _, h, e => by simpa using PrAt.get h.2 (by simpa using e)
/-- a BINDING stands as v -/
def BiAt (H : Hp) (v : V) (ps : Prs) : Prop := ∃ (a : Addr) (xs : List V), v = .ref a ∧ H a = some (.tup xs) ∧ PrAt H xs ps
structure PrOk (ps : Prs) : Prop where
  num : ∀ p ∈ ps, 0 ≤ p.1 ∧ p.1 ≤ 99
  sm : ∀ p ∈ ps, p.2.small
  sz : ∀ p ∈ ps, p.2.size ≤ 7
  up : (ps.map (·.1)).Pairwise (· < ·)
  few : ps.length ≤ 4
theorem PrAt.get0 {H : Hp} {xs : List V} {ps : Prs} {i : Nat} {x : V} (h : PrAt H xs ps) (e : xs[i]? = some x) : ∃ p, ps[i]? = some p ∧ ∃ b y, x = .ref b ∧ H b = some (.tup [.int p.1, y]) ∧ TmAt H y p.2 := h.get e
theorem PrAt.snoc {H : Hp} {x : V} {p : Int × Tm} (hp : ∃ (b : Addr) (y : V), x = .ref b ∧ H b = some (.tup [.int p.1, y]) ∧ TmAt H y p.2) : ∀ {xs : List V} {ps : Prs}, PrAt H xs ps → PrAt H (xs ++ [x]) (ps ++ [p])
  | [], [], _ => ⟨hp, trivial⟩
  | _ :: _, _ :: _, h => ⟨h.1, PrAt.snoc hp h.2⟩
abbrev poolV : List V := ([0, 1, 99] : List Int).map V.int
theorem pool_ok : (∀ k ∈ ([0, 1, 99] : List Int), 0 ≤ k ∧ k ≤ 99) ∧ ([0, 1, 99] : List Int).length ≤ 200 := ⟨by decide, by decide⟩
abbrev spotV : List V := [.int 0, .int 2, .int 99]
def spPuts : Sp := fun vs H Q _ => ∃ (b sp pp : Addr) (j : Nat), vs = [.ref b, .ref sp, .ref pp] ∧ BoxAt H b j ∧ H sp = some (.lst spotV) ∧ H pp = some (.lst poolV) ∧ sp ≠ b ∧ pp ≠ b ∧ j + 80 ≤ 1000000 ∧
  ∀ (v : V) (ps : Prs) (H' : Hp), BiAt H' v ps → PrOk ps → BoxAt H' b (j + 80) → But b H H' → Q v H'
section
variable {P : Program} {w : World} {K : PySem.W.Frag} {mg : Str → Option Value} {base : Heap}
theorem scPuts : FnScope ["_law_box_here", "_law_spots", "_law_pool", "_law_one"] ["_law_box_here", "_law_spots", "_law_pool"] (defScope sPuts) := ⟨rfl, rfl, rfl, by decide +kernel, rfl, by decide +kernel, by decide +kernel⟩
def tePut : TE := tTup (tCons (tVar 3) (tCons (tCall (spLTerm 3) [] E0 (tCons (tVar 0) (tCons (tVar 2) (tCons (tCall spTake [] E0 (tCons (tVar 0) (tCons (tC (.int 3)) tNil))) tNil)))) tNil))
def ttPut : TT := tTest (tOp (rI0 fun i j => .bl (decide (j < i))) (tCall spTake [] E0 (tCons (tVar 0) (tCons (tC (.int 4)) tNil))) (tC (.int 0)))
theorem ok_puts {f fT fTm : Addr} {fd dT dTm : FuncData} (F : Fun K "_law_puts" "_law_puts" sPuts f fd)
    (GT : FnOk P w K mg base CX0 1 fT dT ["_law_box_here", "_law_reach"] spTake) (kT : PySem.W.keepIn K (.ref fT) = true) (bT : Binds K dT ["_law_box_here", "_law_reach"] []) (mT : mg "_law_take" = some (.ref fT))
    (GTm : FnOk P w K mg base CX0 5 fTm dTm ["_law_box_here", "_law_pool", "_law_deep"] (spLTerm 3)) (kTm : PySem.W.keepIn K (.ref fTm) = true) (bTm : Binds K dTm ["_law_box_here", "_law_pool", "_law_deep"] []) (mTm : mg "_law_term" = some (.ref fTm))
    (mTuple : mg "tuple" = none) : FnOk P w K mg base CX0 6 f fd ["_law_box_here", "_law_spots", "_law_pool"] spPuts := by
  refine F.ok scPuts (fun vs H Q E h => ?_) (fun cdv A outer s H vs Q E hr h => ?_)
  · obtain ⟨b, sp, pp, j, rfl, _⟩ := h
    rfl
  obtain ⟨b, sp, pp, j, rfl, B, hs, hp, sb, pb, hj, q⟩ := h
  have r1 : Room 1 _ := hr.mono (by decide)
  refine ⟨_, pss_one (ps_ret (pe_callTy call_tuple_of (by rfl) mTuple (by decide +kernel) (pa_cons
      (pe_lc (own := [("_law_one", 3)]) (g := gName 3) (tt := ttPut) (te := tePut) rfl scPuts.nd (pi_list (pv 1)) (blkOk_by (N := ["_law_box_here", "_law_spots", "_law_pool", "_law_one"]) (sc := defScope sPuts) (by decide +kernel))
        (fun _ _ _ _ _ => pg_name (i := 3) scPuts.nd rfl (Or.inl rfl)) (fun _ _ _ _ _ => pts_one (pt_cmpR op_gt (pe_call GT r1 (by rfl) mT kT bT .nil pass0 (pa_cons (pv 0) (pa_cons pe_int pa_nil))) pe_int (nomark _)))
        (fun _ _ _ _ _ => pe_tup (pa_cons (pv 3) (pa_cons (pe_call GTm hr (by rfl) mTm kTm bTm .nil pass0 (pa_cons (pv 0) (pa_cons (pv 2) (pa_cons (pe_call GT r1 (by rfl) mT kT bT .nil pass0 (pa_cons (pv 0) (pa_cons pe_int pa_nil))) pa_nil)))) pa_nil)))) pa_nil))), ?_⟩
  have big : (2000000 : Nat) ≤ sizeLine := by decide
  refine ⟨_, rfl, sp, rfl, ⟨_, .inl (.inl hs)⟩, fun D hD => lc_list (K := K) (a := sp) (xs := spotV) (fun i H2 => ∃ (xs : List V) (ps : Prs), H2 D = some (.lst xs) ∧ PrAt H2 xs ps ∧ (ps.map (·.1)).Sublist (([0, 2, 99] : List Int).take i) ∧ (∀ p ∈ ps, p.2.small ∧ p.2.size ≤ 7) ∧ BoxAt H2 b (j + 17 * i) ∧ H2 sp = some (.lst spotV) ∧ H2 pp = some (.lst poolV) ∧ But b H H2)
    ⟨[], [], upd_same, trivial, .slnil, by simp, (B.same (same_new hD _)).more (by omega), same_new hD _ _ _ hs, same_new hD _ _ _ hp, but_of (same_new hD _)⟩ (fun i H2 _ ⟨_, _, _, _, _, _, _, h, _⟩ => .inl (.inl h)) ?_ ?_⟩
  · rintro i x H2 hi ⟨xs, ps, h2, A2, sub, po, B2, hs2, hp2, o2⟩
    have Db : D ≠ b := ne_box B hD
    have Dp : D ≠ pp := (ne_of_none hp hD).symm
    have Ds : D ≠ sp := (ne_of_none hs hD).symm
    have i3 : i < 3 := (List.getElem?_eq_some_iff.mp hi).1
    have xl := A2.len
    have sl := sub.length_le
    rw [List.length_map, List.length_take] at sl
    obtain ⟨n, rfl, tk⟩ : ∃ n : Int, x = .int n ∧ ([0, 2, 99] : List Int).take (i + 1) = ([0, 2, 99] : List Int).take i ++ [n] := by
      match i, i3 with
      | 0, _ => exact ⟨0, by simpa using hi.symm, rfl⟩
      | 1, _ => exact ⟨2, by simpa using hi.symm, rfl⟩
      | 2, _ => exact ⟨99, by simpa using hi.symm, rfl⟩
    refine ⟨rfl, ?_⟩
    unfold ttPut tePut
    refine ⟨_, rfl, b, _, _, rfl, B2, by omega, by decide, by decide, fun r H3 c0 c1 B3 o3 => ?_⟩
    refine ⟨_, _, rfl, rfl, decide ((0 : Int) < r), rfl, ?_⟩
    have h3 := o3 _ _ h2 Db
    have hp3 := o3 _ _ hp2 pb
    by_cases hr0 : (0 : Int) < r
    · rw [decide_eq_true hr0]
      refine iteT ?_
      refine ⟨_, rfl, _, rfl, _, rfl, _, rfl, b, _, _, rfl, B3, by omega, by decide, by decide, fun z H4 z0 z1 B4 o4 => ?_⟩
      obtain ⟨mz, rfl⟩ := Int.eq_ofNat_of_zero_le z0
      have m2 : mz ≤ 2 := by omega
      have pw1 : 2 ^ mz ≤ 2 ^ 2 := Nat.pow_le_pow_right (by decide) m2
      have pw2 : 2 ^ (mz + 1) ≤ 2 ^ 3 := Nat.pow_le_pow_right (by decide) (by omega)
      refine ⟨b, pp, [0, 1, 99], _, mz, rfl, B4, o4 _ _ hp3 pb, pool_ok.1, pool_ok.2, pb, by omega, m2, by omega, fun v t H5 T sm sz B5 o5 => ⟨(by show 2 ≤ sizeLine; decide), fun c hc => ?_⟩⟩
      have s6 := same_new hc (.tup [V.int n, v])
      have h6 := s6 _ _ (o5 _ _ (o4 _ _ h3 Db) Db)
      have cD : c ≠ D := (ne_of_none (o5 _ _ (o4 _ _ h3 Db) Db) hc).symm
      refine ⟨xs, h6, by omega, xs ++ [.ref c], ps ++ [(n, t)], upd_same, PrAt.snoc ⟨c, v, rfl, by rw [upd_ne cD, upd_same], (T.same s6).mono (keepU h6)⟩ (A2.mono fun q zs z => keepU h6 _ _ (s6 _ _ (keepB B4 o5 _ _ (keepB B3 o4 _ _ (keepB B2 o3 _ _ z))))), ?_, ?_, ((B5.same s6).upd Db _).more (by omega), ?_, ?_, ?_⟩
      · rw [tk, List.map_append]
        exact sub.append (List.Sublist.refl _)
      · intro p hp
        rcases List.mem_append.mp hp with hp | hp
        · exact po p hp
        · obtain rfl : p = (n, t) := by simpa using hp
          exact ⟨sm, by show t.size ≤ 7; omega⟩
      · rw [upd_ne Ds.symm]
        exact s6 _ _ (o5 _ _ (o4 _ _ (o3 _ _ hs2 sb) sb) sb)
      · rw [upd_ne Dp.symm]
        exact s6 _ _ (o5 _ _ (o4 _ _ hp3 pb) pb)
      · exact but_new hD o2 (o3.trans (o4.trans (o5.trans (but_of s6))))
    · rw [decide_eq_false hr0]
      refine iteF ?_
      exact ⟨xs, ps, h3, A2.mono (keepB B2 o3), by rw [tk]; exact sub.trans (List.sublist_append_left _ _), po, B3.more (by omega), o3 _ _ hs2 sb, hp3, o2.trans o3⟩
  · rintro H2 ⟨xs, ps, h2, A2, sub, po, B2, hs2, hp2, o2⟩
    have sub : (ps.map (·.1)).Sublist ([0, 2, 99] : List Int) := sub
    have xl := A2.len
    have sl := sub.length_le
    rw [List.length_map] at sl
    have B2 : BoxAt H2 b (j + 17 * 3) := B2
    have mem : ∀ p ∈ ps, p.1 ∈ ([0, 2, 99] : List Int) := fun p hp => sub.subset (List.mem_map.mpr ⟨p, hp, rfl⟩)
    refine ⟨D, xs, rfl, .inl ⟨.inl (.inl h2), fun g hg => ?_⟩⟩
    have s4 := same_new hg (.tup xs)
    refine q _ ps _ ⟨g, xs, rfl, upd_same, A2.mono fun q zs z => s4 _ _ z⟩ ⟨fun p hp => ?_, fun p hp => (po p hp).1, fun p hp => (po p hp).2, ?_, by simp only [List.length_cons, List.length_nil] at sl; omega⟩ ((B2.same s4).more (by omega)) (o2.trans (but_of s4))
    · have := mem p hp
      simp only [List.mem_cons, List.not_mem_nil, or_false] at this
      omega
    · exact List.Pairwise.sublist sub (by decide)
end
end Rp

set_option maxHeartbeats 8000000
/-! ATOMs, SAYINGs, BINDINGs as data: how large; what is shown of data. -/
namespace Rp
open PySem PySem.Spec PyProof.Rows L2 TL RZ StX
theorem dat_tup {H : Hp} {b c : Addr} {xs : List V} {ds : List PyData} (h : H c = some (.tup xs)) (A : DAtAll H b xs ds) : DAt H b (.ref c) (.tuple ds) := by unfold DAt; exact ⟨c, xs, rfl, .inl h, A⟩
theorem dat_str {H : Hp} {b : Addr} {x : Str} : DAt H b (.str x) (.str x) := by unfold DAt; rfl
theorem dat_int {H : Hp} {b : Addr} {n : Int} : DAt H b (.int n) (.int n) := by unfold DAt; rfl
theorem AllAt.dat {H : Hp} {b : Addr} : ∀ {xs : List V} {ts : List Tm}, AllAt H xs ts → DAtAll H b xs (ts.map tmD)
  | [], [], _ => .nil
  | _ :: _, _ :: _, h => .cons h.1.dat (AllAt.dat h.2)
theorem AtAt.dat {H : Hp} {b : Addr} {v : V} {a : At} (h : AtAt H v a) : DAt H b v (atD a) := by
  obtain ⟨p, xs, rfl, hp, A⟩ := h
  exact dat_tup hp (.cons dat_str A.dat)
theorem AtsAt.dat {H : Hp} {b : Addr} : ∀ {xs : List V} {as : List At}, AtsAt H xs as → DAtAll H b xs (as.map atD)
  | [], [], _ => .nil
  | _ :: _, _ :: _, h => .cons h.1.dat (AtsAt.dat h.2)
def syD (s : Sy) : PyData := .tuple [.tuple (s.hs.map atD), atD s.gl]
theorem SyAt.dat {H : Hp} {b : Addr} {v : V} {s : Sy} (h : SyAt H v s) : DAt H b v (syD s) := by
  obtain ⟨p, q, vg, xs, rfl, hp, hq, A, G⟩ := h
  exact dat_tup hp (.cons (dat_tup hq A.dat) (.cons G.dat .nil))
def prD (p : Int × Tm) : PyData := .tuple [.int p.1, tmD p.2]
def biD (ps : Prs) : PyData := .tuple (ps.map prD)
theorem PrAt.dat {H : Hp} {b : Addr} : ∀ {xs : List V} {ps : Prs}, PrAt H xs ps → DAtAll H b xs (ps.map prD)
  | [], [], _ => .nil
  | _ :: _, (n, t) :: _, ⟨⟨c, y, e, hc, T⟩, r⟩ => by
    subst e
    exact .cons (dat_tup hc (.cons dat_int (.cons T.dat .nil))) (PrAt.dat r)
theorem BiAt.dat {H : Hp} {b : Addr} {v : V} {ps : Prs} (h : BiAt H v ps) : DAt H b v (biD ps) := by
  obtain ⟨a, xs, rfl, ha, A⟩ := h
  exact dat_tup ha A.dat
/-! how large -/
theorem low_asc {x : Str} {L : Nat} (h : NameOk x) (hL : 6 ≤ L) : Asc L x := ⟨Nat.le_trans h.few hL, fun c hc => by have := h.low c hc; omega⟩
theorem fq_tm {L : Nat} (hL : 1 ≤ L) : ∀ {t : Tm}, t.small → Fq (t.deep + 1) (fun _ => 6) L (tmD t)
  | .v n, h => (fq_int (k := 0) (by have := h n (by simp [Tm.nums]); omega)).more (by omega) (fun _ => Nat.le_refl _) (Nat.le_refl _)
  | .z, _ => fq_tup.mpr ⟨by simp, fun d hd => by
      obtain rfl : d = .str "0" := by simpa using hd
      exact Asc.fq ((asc_of (L := 1) (by decide +kernel)).more hL)⟩
  | .s t, h => fq_tup.mpr ⟨by simp, fun d hd => by
      simp only [List.mem_cons, List.not_mem_nil, or_false] at hd
      rcases hd with rfl | rfl
      · exact Asc.fq ((asc_of (L := 1) (by decide +kernel)).more hL)
      · exact fq_tm hL (t := t) fun n hn => h n hn⟩
  | .f l r, h => fq_tup.mpr ⟨by simp, fun d hd => by
      simp only [List.mem_cons, List.not_mem_nil, or_false] at hd
      rcases hd with rfl | rfl | rfl
      · exact Asc.fq ((asc_of (L := 1) (by decide +kernel)).more hL)
      · exact (fq_tm hL (t := l) fun n hn => h n (by simp [Tm.nums, hn])).more (by simp only [Tm.deep]; omega) (fun _ => Nat.le_refl _) (Nat.le_refl _)
      · exact (fq_tm hL (t := r) fun n hn => h n (by simp [Tm.nums, hn])).more (by simp only [Tm.deep]; omega) (fun _ => Nat.le_refl _) (Nat.le_refl _)⟩
theorem fq_tm7 {t : Tm} (h : t.small) (z : t.size ≤ 7) : Fq 7 (fun _ => 6) 7 (tmD t) ∧ nd (tmD t) ≤ 14 := by
  have dl := Tm.deep_lt t
  have n := (tm_ok t).2.2
  exact ⟨(fq_tm (by decide) h).more (by omega) (fun _ => Nat.le_refl _) (Nat.le_refl _), by omega⟩
theorem ndAll_le_mul {n : Nat} : ∀ {ds : List PyData}, (∀ d ∈ ds, nd d ≤ n) → ndAll ds ≤ n * ds.length
  | [], _ => by simp [ndAll]
  | d :: ds, h => by
    have h1 := h d (by simp)
    have h2 := ndAll_le_mul (ds := ds) fun e he => h e (by simp [he])
    simp only [ndAll, List.length_cons, Nat.mul_add]
    omega
theorem fq_at7 {a : At} (ok : AtOk 7 a) : Fq 8 (fun _ => 6) 7 (atD a) ∧ nd (atD a) ≤ 30 ∧ IsAm (atD a) := by
  have o1 := ok.one
  have o2 := ok.two
  refine ⟨fq_tup.mpr ⟨by simp; omega, fun d hd => ?_⟩, ?_, isAm_at.mpr ⟨a, rfl, ⟨ok.nm, ok.one, ok.two, fun t ht => (ok.sm t ht).1⟩⟩⟩
  · rcases List.mem_cons.mp hd with rfl | hd
    · exact (Asc.fq (k := 0) (low_asc ok.nm (by decide))).more (by omega) (fun _ => Nat.le_refl _) (Nat.le_refl _)
    · obtain ⟨t, ht, rfl⟩ := List.mem_map.mp hd
      exact (fq_tm7 (ok.sm t ht).1 (ok.sm t ht).2).1
  · have z := ndAll_le_mul (n := 14) (ds := a.ts.map tmD) fun d hd => by
      obtain ⟨t, ht, rfl⟩ := List.mem_map.mp hd
      exact (fq_tm7 (ok.sm t ht).1 (ok.sm t ht).2).2
    rw [List.length_map] at z
    have y : 14 * a.ts.length ≤ 28 := by omega
    show nd (.tuple (.str a.nm :: a.ts.map tmD)) ≤ 30
    simp only [nd, ndAll]
    omega
theorem fq_sy {s : Sy} (ok : SyOk s) (h3 : s.hs.length ≤ 3) : Fq 10 (fun _ => 6) 7 (syD s) ∧ nd (syD s) ≤ 122 ∧ IsSy (syD s) := by
  have each : ∀ d ∈ s.hs.map atD, Fq 8 (fun _ => 6) 7 d ∧ nd d ≤ 30 ∧ IsAm d := fun d hd => by
    obtain ⟨a, ha, rfl⟩ := List.mem_map.mp hd
    exact fq_at7 (ok.hs.ok a ha)
  obtain ⟨g1, g2, g3⟩ := fq_at7 ok.gl
  refine ⟨fq_tup.mpr ⟨by simp, fun d hd => ?_⟩, ?_, ⟨_, _, rfl, ⟨by rw [List.length_map]; omega, fun d hd => (each d hd).2.2, g3, nodup_atD.mpr ok.nd⟩⟩⟩
  · simp only [List.mem_cons, List.not_mem_nil, or_false] at hd
    rcases hd with rfl | rfl
    · exact fq_tup.mpr ⟨by rw [List.length_map]; show _ ≤ 6; omega, fun d hd => (each d hd).1⟩
    · exact g1.more (by omega) (fun _ => Nat.le_refl _) (Nat.le_refl _)
  · have z := ndAll_le_mul (n := 30) (ds := s.hs.map atD) fun d hd => (each d hd).2.1
    rw [List.length_map] at z
    have y : 30 * s.hs.length ≤ 90 := by omega
    show nd (.tuple [.tuple (s.hs.map atD), atD s.gl]) ≤ 122
    simp only [nd, ndAll]
    omega
theorem adj_pw {ks : List Int} (h : ks.Pairwise (· < ·)) : adjB ks = true := by
  unfold adjB
  rw [List.all_eq_true]
  intro j hj
  have hj := List.mem_range.mp hj
  have h1 : j < ks.length := by omega
  have h2 : j + 1 < ks.length := by omega
  rw [List.getD_eq_getElem?_getD, List.getD_eq_getElem?_getD, List.getElem?_eq_getElem h1, List.getElem?_eq_getElem h2]
  exact decide_eq_true (List.pairwise_iff_getElem.mp h j (j + 1) h1 h2 (by omega))
theorem fq_bi {ps : Prs} (ok : PrOk ps) : Fq 9 (fun _ => 6) 7 (biD ps) ∧ nd (biD ps) ≤ 65 ∧ IsBdD (biD ps) := by
  have few := ok.few
  have each : ∀ d ∈ ps.map prD, Fq 8 (fun _ => 6) 7 d ∧ nd d ≤ 16 ∧ IsPr d := fun d hd => by
    obtain ⟨p, hp, rfl⟩ := List.mem_map.mp hd
    obtain ⟨t1, t2⟩ := fq_tm7 (ok.sm p hp) (ok.sz p hp)
    have nm := ok.num p hp
    refine ⟨fq_tup.mpr ⟨by simp, fun d hd => ?_⟩, ?_, ⟨p.1, tmD p.2, rfl, nm.1, nm.2, ⟨p.2, rfl, ok.sm p hp⟩⟩⟩
    · simp only [List.mem_cons, List.not_mem_nil, or_false] at hd
      rcases hd with rfl | rfl
      · exact (fq_int (k := 0) (by omega)).more (by omega) (fun _ => Nat.le_refl _) (Nat.le_refl _)
      · exact t1
    · show nd (.tuple [.int p.1, tmD p.2]) ≤ 16
      simp only [nd, ndAll]
      omega
  refine ⟨fq_tup.mpr ⟨by rw [List.length_map]; show _ ≤ 6; omega, fun d hd => (each d hd).1⟩, ?_, ⟨_, rfl, fun d hd => (each d hd).2.2, ?_⟩⟩
  · have z := ndAll_le_mul (n := 16) (ds := ps.map prD) fun d hd => (each d hd).2.1
    rw [List.length_map] at z
    have y : 16 * ps.length ≤ 64 := by omega
    show nd (.tuple (ps.map prD)) ≤ 65
    simp only [nd]
    omega
  · rw [List.map_map]
    have e : keyD ∘ prD = fun p : Int × Tm => p.1 := rfl
    rw [e]
    exact adj_pw ok.up
/-! what is shown -/
mutual
theorem sh_shownL {L : Nat} (hL : L ≤ 30) : ∀ {d : PyData} {W : Nat → Nat}, shG W L d → d.hasDict = false → d.showable = true ∧ d.intsShort 13 = true ∧ d.weight + 1 ≤ 40 * nd d
  | .none, _, _, _ => ⟨rfl, rfl, by decide⟩
  | .bool b, _, _, _ => ⟨rfl, rfl, by simp [PyData.weight, nd]⟩
  | .int i, _, h, _ => by
    unfold shG at h
    have a : i.natAbs ≤ 2000 := by omega
    have b : i.natAbs.log2 ≤ 11 := by
      by_cases h0 : i.natAbs = 0
      · rw [h0]; decide
      · exact Nat.le_of_lt_succ ((Nat.log2_lt h0).mpr (by omega))
    refine ⟨?_, ?_, ?_⟩
    · simp only [PyData.showable, decide_eq_true_eq]; omega
    · simp only [PyData.intsShort, decide_eq_true_eq]; exact PyData.shown_int_le (by omega)
    · simp only [PyData.weight, nd]; split <;> omega
  | .str x, _, h, _ => by
    unfold shG at h
    have : x.cps.size ≤ L := h.1
    refine ⟨rfl, rfl, ?_⟩
    simp only [PyData.weight, nd]
    omega
  | .list ds, _, h, n => by
    unfold shG at h
    have z := shs_shownL hL h.2 (by simpa [PyData.hasDict] using n)
    simp only [PyData.showable, PyData.intsShort, PyData.weight, nd]
    exact ⟨z.1, z.2.1, by omega⟩
  | .tuple ds, _, h, n => by
    unfold shG at h
    have z := shs_shownL hL h.2 (by simpa [PyData.hasDict] using n)
    simp only [PyData.showable, PyData.intsShort, PyData.weight, nd]
    exact ⟨z.1, z.2.1, by omega⟩
  | .dict _, _, _, n => by simp [PyData.hasDict] at n
theorem shs_shownL {L : Nat} (hL : L ≤ 30) : ∀ {ds : List PyData} {W : Nat → Nat}, shGs W L ds → PyData.hasDictAll ds = false → PyData.showableAll ds = true ∧ PyData.intsShortAll 13 ds = true ∧ PyData.weightAll ds ≤ 40 * ndAll ds
  | [], _, _, _ => ⟨rfl, rfl, by decide⟩
  | d :: ds, _, h, n => by
    unfold shGs at h
    rw [PyData.hasDictAll, Bool.or_eq_false_iff] at n
    have a := sh_shownL hL h.1 n.1
    have b := shs_shownL hL h.2 n.2
    simp only [PyData.showableAll, PyData.intsShortAll, PyData.weightAll, ndAll, Bool.and_eq_true]
    exact ⟨⟨a.1, b.1⟩, ⟨a.2.1, b.2.1⟩, by omega⟩
end
theorem fq_shownL {k L : Nat} {W : Nat → Nat} {d : PyData} (h : Fq k W L d) (N : d.hasDict = false) (hk : k ≤ 60) (hL : L ≤ 30) (hn : nd d ≤ 25000) : d.showable = true ∧ d.hasDict = false ∧ d.depth ≤ 64 ∧ d.shown.length ≤ sizeLine := by
  obtain ⟨h2, h3, h5⟩ := sh_shownL hL h.sh N
  have dp := h.dp
  have big : (15728653 : Nat) ≤ sizeLine := by decide
  refine ⟨h2, N, by omega, Nat.le_trans (shown_le13 ?_ h3) big⟩
  unfold PyData.layable0
  rw [h.lay, decide_eq_true (by omega : d.depth ≤ 64), decide_eq_true (by omega : d.weight ≤ 2 ^ 20)]
  rfl
mutual
theorem DAt.nodict {H : Hp} {b : Addr} : ∀ {d : PyData} {v : V}, DAt H b v d → d.hasDict = false
  | .none, _, _ => rfl
  | .bool _, _, _ => rfl
  | .int _, _, _ => rfl
  | .str _, _, _ => rfl
  | .list ds, _, h => by
    unfold DAt at h
    obtain ⟨a, xs, _, _, _, h⟩ := h
    exact DAtAll.nodict h
  | .tuple ds, _, h => by
    unfold DAt at h
    obtain ⟨a, xs, _, _, h⟩ := h
    exact DAtAll.nodict h
  | .dict _, _, h => by unfold DAt at h; exact h.elim
theorem DAtAll.nodict {H : Hp} {b : Addr} : ∀ {ds : List PyData} {xs : List V}, DAtAll H b xs ds → PyData.hasDictAll ds = false
  | [], _, _ => rfl
  | d :: ds, _, h => by
    unfold DAtAll at h
    obtain ⟨x, r, _, h1, h2⟩ := h
    rw [PyData.hasDictAll, DAt.nodict h1, DAtAll.nodict h2]
    rfl
end

end Rp

set_option maxHeartbeats 16000000
/-! STEPs and CHARTs as types. -/
namespace Rp
open PySem PySem.Spec PyProof.Rows L2 TL StX
inductive St where
  | by_
  | spl (k : Nat)
  | use (k : Nat)
  | bck (l : Nat) (b : Prs)
  | cut (a : At)
  | asy (s : Sy) (b : Prs)
  | len (x : Str) (b : Prs)
namespace St
def word : St → Str
  | by_ => "by" | spl _ => "split" | use _ => "use" | bck _ _ => "back" | cut _ => "cut" | asy _ _ => "as" | len _ _ => "lean"
end St
def PtAt (H : Hp) : St → List V → Prop
  | .by_, ys => ys = []
  | .spl k, ys => ys = [.int k]
  | .use k, ys => ys = [.int k]
  | .bck l b, ys => ∃ vb, ys = [.int l, vb] ∧ BiAt H vb b
  | .cut a, ys => ∃ va, ys = [va] ∧ AtAt H va a
  | .asy s b, ys => ∃ v vb, ys = [v, vb] ∧ SyAt H v s ∧ BiAt H vb b
  | .len x b, ys => ∃ vb, ys = [.str x, vb] ∧ BiAt H vb b
def StAt (H : Hp) (v : V) (st : St) : Prop := ∃ (p : Addr) (ys : List V), v = .ref p ∧ H p = some (.tup (.str st.word :: ys)) ∧ PtAt H st ys
def StOk : St → Prop
  | .by_ => True
  | .spl k => k ≤ 1000
  | .use k => k ≤ 1000
  | .bck l b => l ≤ 1000 ∧ PrOk b
  | .cut a => AtOk 7 a
  | .asy s b => (SyOk s ∧ s.hs.length ≤ 3) ∧ PrOk b
  | .len x b => NameOk x ∧ PrOk b
theorem biAt_mono {H H' : Hp} (e : ∀ a xs, H a = some (.tup xs) → H' a = some (.tup xs)) {v : V} {b : Prs} (h : BiAt H v b) : BiAt H' v b := by
  obtain ⟨a, xs, rfl, h1, h2⟩ := h
  exact ⟨a, xs, rfl, e _ _ h1, h2.mono e⟩
theorem biAt_same {H H' : Hp} {v : V} {b : Prs} (h : BiAt H v b) (s : Same H H') : BiAt H' v b := biAt_mono (fun a xs z => s _ _ z) h
theorem ptAt_mono {H H' : Hp} (e : ∀ a xs, H a = some (.tup xs) → H' a = some (.tup xs)) : ∀ {st : St} {ys : List V}, PtAt H st ys → PtAt H' st ys
  | .by_, _, h => h
  | .spl _, _, h => h
  | .use _, _, h => h
  | .bck _ _, _, ⟨vb, e1, e2⟩ => ⟨vb, e1, biAt_mono e e2⟩
  | .cut _, _, ⟨va, e1, e2⟩ => ⟨va, e1, atAt_mono e e2⟩
  | .asy _ _, _, ⟨v, vb, e1, e2, e3⟩ => ⟨v, vb, e1, syAt_mono e e2, biAt_mono e e3⟩
  | .len _ _, _, ⟨vb, e1, e2⟩ => ⟨vb, e1, biAt_mono e e2⟩
theorem stAt_mono {H H' : Hp} (e : ∀ a xs, H a = some (.tup xs) → H' a = some (.tup xs)) {v : V} {st : St} (h : StAt H v st) : StAt H' v st := by
  obtain ⟨p, ys, rfl, h1, h2⟩ := h
  exact ⟨p, ys, rfl, e _ _ h1, ptAt_mono e h2⟩
theorem StAt.same {H H' : Hp} {v : V} {st : St} (h : StAt H v st) (s : Same H H') : StAt H' v st := stAt_mono (fun a xs z => s _ _ z) h
def StsAt (H : Hp) : List V → List St → Prop
  | [], [] => True
  | v :: xs, a :: as => StAt H v a ∧ StsAt H xs as
  | _, _ => False
theorem StsAt.len {H : Hp} : ∀ {xs : List V} {as : List St}, StsAt H xs as → xs.length = as.length
  | [], [], _ => rfl
  | _ :: _, _ :: _, h => congrArg (· + 1) (StsAt.len h.2)
theorem StsAt.mono {H H' : Hp} (e : ∀ a xs, H a = some (.tup xs) → H' a = some (.tup xs)) : ∀ {xs : List V} {as : List St}, StsAt H xs as → StsAt H' xs as
  | [], [], _ => trivial
  | _ :: _, _ :: _, h => ⟨stAt_mono e h.1, StsAt.mono e h.2⟩
theorem StsAt.same {H H' : Hp} {xs : List V} {as : List St} (h : StsAt H xs as) (s : Same H H') : StsAt H' xs as := h.mono fun a xs z => s _ _ z
theorem StsAt.get {H : Hp} : ∀ {xs : List V} {as : List St} {i : Nat} {x : V}, StsAt H xs as → xs[i]? = some x → ∃ a, as[i]? = some a ∧ StAt H x a
  | v :: xs, a :: as, 0, x, h, e => ⟨a, rfl, by have : v = x := by simpa using e
                                                subst this; exact h.1⟩
  | _ :: xs, _ :: as, i + 1, x, h, e => by simpa using StsAt.get h.2 (by simpa using e)
theorem StsAt.append {H : Hp} : ∀ {xs ys : List V} {as bs : List St}, StsAt H xs as → StsAt H ys bs → StsAt H (xs ++ ys) (as ++ bs)
  | [], _, [], _, _, h => h
  | _ :: xs, _, _ :: as, _, h, h' => ⟨h.1, StsAt.append h.2 h'⟩
structure Ch where
  sy : Sy
  sts : List St
def ChAt (H : Hp) (v : V) (c : Ch) : Prop := ∃ (p q : Addr) (vs : V) (xs : List V), v = .ref p ∧ H p = some (.tup [vs, .ref q]) ∧ SyAt H vs c.sy ∧ H q = some (.tup xs) ∧ StsAt H xs c.sts
structure ChOk (c : Ch) : Prop where
  sy : SyOk c.sy
  ok : ∀ st ∈ c.sts, StOk st
  few : c.sts.length ≤ 28
  h3 : c.sy.hs.length ≤ 3
theorem chAt_mono {H H' : Hp} (e : ∀ a xs, H a = some (.tup xs) → H' a = some (.tup xs)) {v : V} {c : Ch} (h : ChAt H v c) : ChAt H' v c := by
  obtain ⟨p, q, vs, xs, rfl, h1, h2, h3, h4⟩ := h
  exact ⟨p, q, vs, xs, rfl, e _ _ h1, syAt_mono e h2, e _ _ h3, h4.mono e⟩
theorem ChAt.same {H H' : Hp} {v : V} {c : Ch} (h : ChAt H v c) (s : Same H H') : ChAt H' v c := chAt_mono (fun a xs z => s _ _ z) h
theorem str_eqD {a b : Str} (h : a = b) : V.bl (decide (V.str a = V.str b)) = V.bl true := by rw [h]; exact congrArg V.bl (decide_eq_true rfl)
theorem str_neD {a b : Str} (h : a ≠ b) : V.bl (decide (V.str a = V.str b)) = V.bl false := congrArg V.bl (decide_eq_false fun z => h (V.str.inj z))
end Rp

set_option maxHeartbeats 32000000
/-! The law's wild steps. -/
namespace Rp
open PySem PySem.Spec PyProof.Rows L2 TL StX
structure WI (R : Hp → Prop) (Hs H : Hp) (b d p pp l : Addr) (ws : List Str) (kvs : KVs) (xs : List V) (sts : List St) (n : Nat) : Prop where
  W : Wrd H b d p pp ws [0, 1, 99] kvs
  B : BoxAt H b n
  hl : H l = some (.lst xs)
  lb : l ≠ b
  lp : p ≠ l
  lq : pp ≠ l
  A : StsAt H xs sts
  o : But b Hs H
  r : R H
  mono : ∀ {H1 H2 : Hp}, (∀ a zs, H1 a = some (.tup zs) → H2 a = some (.tup zs)) → R H1 → R H2
theorem WI.but {R : Hp → Prop} {Hs H H' : Hp} {b d p pp l : Addr} {ws : List Str} {kvs : KVs} {xs : List V} {sts : List St} {n n' : Nat} (I : WI R Hs H b d p pp l ws kvs xs sts n) (o : But b H H') (B' : BoxAt H' b n') : WI R Hs H' b d p pp l ws kvs xs sts n' :=
  ⟨I.W.but I.B o, B', o _ _ I.hl I.lb, I.lb, I.lp, I.lq, I.A.mono (keepB I.B o), I.o.trans o, I.mono (keepB I.B o) I.r, I.mono⟩
theorem WI.new {R : Hp → Prop} {Hs H : Hp} {b d p pp l c : Addr} {ob : HO} {ws : List Str} {kvs : KVs} {xs : List V} {sts : List St} {n : Nat} (I : WI R Hs H b d p pp l ws kvs xs sts n) (hc : H c = none) : WI R Hs (upd H c ob) b d p pp l ws kvs xs sts n :=
  I.but (but_of (same_new hc _)) (I.B.same (same_new hc _))
theorem WI.set {R : Hp → Prop} {Hs H : Hp} {b d p pp l : Addr} {ws : List Str} {kvs : KVs} {xs : List V} {sts : List St} {n : Nat} (I : WI R Hs H b d p pp l ws kvs xs sts n) (S : Hp → Prop) (s : S H) (m : ∀ {H1 H2 : Hp}, (∀ a zs, H1 a = some (.tup zs) → H2 a = some (.tup zs)) → S H1 → S H2) : WI S Hs H b d p pp l ws kvs xs sts n :=
  ⟨I.W, I.B, I.hl, I.lb, I.lp, I.lq, I.A, I.o, s, m⟩
theorem WI.more {R : Hp → Prop} {Hs H : Hp} {b d p pp l : Addr} {ws : List Str} {kvs : KVs} {xs : List V} {sts : List St} {n n' : Nat} (I : WI R Hs H b d p pp l ws kvs xs sts n) (h : n ≤ n') : WI R Hs H b d p pp l ws kvs xs sts n' :=
  ⟨I.W, I.B.more h, I.hl, I.lb, I.lp, I.lq, I.A, I.o, I.r, I.mono⟩
/-- a dict taken anew -/
theorem WI.dic {R : Hp → Prop} {Hs H : Hp} {b d p pp l g : Addr} {ob : HO} {kv : KVs} {ws : List Str} {kvs : KVs} {xs : List V} {sts : List St} {n : Nat} (I : WI R Hs H b d p pp l ws kvs xs sts n) (hs : Hs g = none) (hg : H g = some (.dK kv)) (dg : d ≠ g) (gb : g ≠ b) : WI R Hs (L2.upd H g ob) b d p pp l ws kvs xs sts n :=
  have k : ∀ a zs, H a = some (.tup zs) → (L2.upd H g ob) a = some (.tup zs) := fun a zs z => by rw [upd_ne (ne_of z hg (by intro e; cases e))]; exact z
  ⟨⟨by rw [upd_ne dg]; exact I.W.hd, I.W.sh, by rw [upd_ne (ne_of I.W.hp hg (by intro e; cases e))]; exact I.W.hp, by rw [upd_ne (ne_of I.W.hq hg (by intro e; cases e))]; exact I.W.hq, I.W.pk, I.W.pl, I.W.pb, I.W.qb, I.W.nm, I.W.one, I.W.four⟩,
    I.B.upd gb _, by rw [upd_ne (ne_of I.hl hg (by intro e; cases e))]; exact I.hl, I.lb, I.lp, I.lq, I.A.mono k, but_new hs I.o fun _ _ z _ => z, I.mono k I.r, I.mono⟩
/-- one more -/
theorem WI.app {R : Hp → Prop} {Hs H : Hp} {b d p pp l : Addr} {ws : List Str} {kvs : KVs} {xs : List V} {sts : List St} {n : Nat} (I : WI R Hs H b d p pp l ws kvs xs sts n) (hs : Hs l = none) {v : V} {st : St} (T : StAt H v st) :
    WI R Hs (upd H l (.lst (xs ++ [v]))) b d p pp l ws kvs (xs ++ [v]) (sts ++ [st]) n where
  W := ⟨by rw [upd_ne (ne_of I.W.hd I.hl (by intro e; cases e))]; exact I.W.hd, I.W.sh, by rw [upd_ne I.lp]; exact I.W.hp, by rw [upd_ne I.lq]; exact I.W.hq, I.W.pk, I.W.pl, I.W.pb, I.W.qb, I.W.nm, I.W.one, I.W.four⟩
  B := I.B.upd I.lb _
  hl := upd_same
  lb := I.lb
  lp := I.lp
  lq := I.lq
  A := (I.A.mono (keepU I.hl)).append ⟨stAt_mono (keepU I.hl) T, trivial⟩
  o := but_new hs I.o fun _ _ z _ => z
  r := I.mono (keepU I.hl) I.r
  mono := I.mono
def spWild : Sp := fun vs H Q _ => ∃ (b d p : Addr) (ws : List Str) (kvs : KVs) (j : Nat), vs = [.ref b, .ref p, .ref d] ∧ BoxAt H b j ∧ H d = some (.dK kvs) ∧ ShOk ws kvs ∧ H p = some (.lst (ws.map V.str)) ∧ p ≠ b ∧ (∀ x ∈ ws, NameOk x) ∧ ws.length = 4 ∧ j + 7500 ≤ 1000000 ∧
  ∀ (g : Addr) (xs : List V) (sts : List St) (H' : Hp), H' g = some (.tup xs) → StsAt H' xs sts → (∀ st ∈ sts, StOk st) → sts.length ≤ 28 → BoxAt H' b (j + 7500) → But b H H' → Q (.ref g) H'
theorem mem7 {v : V} (h : v ∈ (["by", "split", "use", "back", "cut", "as", "lean", "back", "lean"] : List Str).map V.str) : v = .str "by" ∨ v = .str "split" ∨ v = .str "use" ∨ v = .str "back" ∨ v = .str "cut" ∨ v = .str "as" ∨ v = .str "lean" := by
  simp only [List.map_cons, List.map_nil, List.mem_cons, List.not_mem_nil, or_false] at h
  rcases h with h | h | h | h | h | h | h | h | h <;> simp [h]
theorem two_get (u x y : V) (k : Str) : valV (mergeK [] ([(.inr "by", u), (.inr "split", x), (.inr "use", y)] : KVs)) (.inr k) = if k = "use" then some y else if k = "split" then some x else if k = "by" then some u else none := by
  show valV (putK (putK (putK ([] : KVs) (.inr "by") u) (.inr "split") x) (.inr "use") y) (.inr k) = _
  rw [valV_put, valV_put, valV_put]
  by_cases h : k = "use"
  · rw [if_pos (by rw [h]), if_pos h]
  · rw [if_neg (fun z => h (Sum.inr.inj z)), if_neg h]
    by_cases h' : k = "split"
    · rw [if_pos (by rw [h']), if_pos h']
    · rw [if_neg (fun z => h' (Sum.inr.inj z)), if_neg h']
      by_cases h2 : k = "by"
      · rw [if_pos (by rw [h2]), if_pos h2]
      · rw [if_neg (fun z => h2 (Sum.inr.inj z)), if_neg h2]
        rfl
section
variable {P : Program} {w : World} {K : PySem.W.Frag} {mg : Str → Option Value} {base : Heap}
abbrev NWi : List Str := ["_law_box_here", "_law_words", "_law_shapes_here", "_law_found", "_law_pool", "_law_turn", "_law_word", "_law_binding", "_law_parts", "_law_first"]
theorem scWild : FnScope NWi ["_law_box_here", "_law_words", "_law_shapes_here"] (defScope sWild) := ⟨rfl, rfl, rfl, by decide +kernel, rfl, by decide +kernel, by decide +kernel⟩
theorem ok_wild {f fT fP fPu fS fA : Addr} {fd dT dP dPu dS dA : FuncData} (F : Fun K "_law_wild" "_law_wild" sWild f fd)
    (GT : FnOk P w K mg base CX0 1 fT dT ["_law_box_here", "_law_reach"] spTake) (kT : PySem.W.keepIn K (.ref fT) = true) (bT : Binds K dT ["_law_box_here", "_law_reach"] []) (mT : mg "_law_take" = some (.ref fT))
    (GP : FnOk P w K mg base CX0 2 fP dP ["_law_box_here", "_law_things"] spPick) (kP : PySem.W.keepIn K (.ref fP) = true) (bP : Binds K dP ["_law_box_here", "_law_things"] []) (mP : mg "_law_pick" = some (.ref fP))
    (GPu : FnOk P w K mg base CX0 6 fPu dPu ["_law_box_here", "_law_spots", "_law_pool"] spPuts) (kPu : PySem.W.keepIn K (.ref fPu) = true) (bPu : Binds K dPu ["_law_box_here", "_law_spots", "_law_pool"] []) (mPu : mg "_law_puts" = some (.ref fPu))
    (GS : FnOk P w K mg base CX0 7 fS dS ["_law_box_here", "_law_shapes_here", "_law_names_here", "_law_pool", "_law_count"] spSayingL) (kS : PySem.W.keepIn K (.ref fS) = true) (bS : Binds K dS ["_law_box_here", "_law_shapes_here", "_law_names_here", "_law_pool", "_law_count"] []) (mS : mg "_law_saying" = some (.ref fS))
    (GA : FnOk P w K mg base CX0 6 fA dA ["_law_box_here", "_law_shapes_here", "_law_names_here", "_law_pool", "_law_deep"] spAtomL) (kA : PySem.W.keepIn K (.ref fA) = true) (bA : Binds K dA ["_law_box_here", "_law_shapes_here", "_law_names_here", "_law_pool", "_law_deep"] []) (mA : mg "_law_atom" = some (.ref fA))
    (mRange : mg "range" = none) (mTuple : mg "tuple" = none) : FnOk P w K mg base CX0 8 f fd ["_law_box_here", "_law_words", "_law_shapes_here"] spWild := by
  refine F.ok scWild (fun vs H Q E h => ?_) (fun cdv A outer s H vs Q E hr h => ?_)
  · obtain ⟨b, d, p, ws, kvs, j, rfl, _⟩ := h
    rfl
  obtain ⟨b, d, p, ws, kvs, j, rfl, B, hd, sh, hp, pb, nm, w4, hj, q⟩ := h
  have r1 : Room 1 _ := hr.mono (by decide)
  have r2 : Room 2 _ := hr.mono (by decide)
  have r6 : Room 6 _ := hr.mono (by decide)
  refine ⟨_, pss_cons (ps_par (i := 3) (j := 4) rfl scWild.nd rfl rfl (by decide) rfl rfl (pa_cons (pe_lst pa_nil) (pa_cons (pe_lst (pa_cons pe_int (pa_cons pe_int (pa_cons pe_int pa_nil)))) pa_nil)) (by rfl))
    (pss_cons (ps_for PassesOwn.never rfl (pi_range1 (by rfl) mRange (pa_cons (pe_call GT r1 rfl mT kT bT .nil pass0 (pa_cons (pv 0) (pa_cons pe_int pa_nil))) pa_nil)) (pg_name (i := 5) scWild.nd rfl (Or.inl rfl))
      (pss_cons (ps_set (i := 6) scWild.nd rfl (Or.inl rfl) (pe_call GP r2 rfl mP kP bP .nil pass0 (pa_cons (pv 0) (pa_cons (pe_lst (pa_cons pe_str (pa_cons pe_str (pa_cons pe_str (pa_cons pe_str (pa_cons pe_str (pa_cons pe_str (pa_cons pe_str (pa_cons pe_str (pa_cons pe_str pa_nil)))))))))) pa_nil))))
      (pss_cons (ps_set (i := 7) scWild.nd rfl (Or.inl rfl) (pe_call GPu r6 rfl mPu kPu bPu .nil pass0 (pa_cons (pv 0) (pa_cons (pe_lst (pa_cons pe_int (pa_cons pe_int (pa_cons pe_int pa_nil)))) (pa_cons (pv 4) pa_nil)))))
      (pss_cons (ps_set (i := 8) scWild.nd rfl (Or.inl rfl) (pe_dget2 (hu_of hr) (pe_disp (pps_cons pe_str (pe_tup pa_nil) (pps_cons pe_str (pe_tup (pa_cons (pe_call GT r1 rfl mT kT bT .nil pass0 (pa_cons (pv 0) (pa_cons pe_int pa_nil))) pa_nil))
          (pps_cons pe_str (pe_tup (pa_cons (pe_call GT r1 rfl mT kT bT .nil pass0 (pa_cons (pv 0) (pa_cons pe_int pa_nil))) pa_nil)) pps_nil))) rfl rfl (by intro z; cases z) (by decide)) (pv 6) (pe_tup pa_nil) ⟨rfl, rfl, rfl, rfl⟩))
      (pss_cons (ps_if (pt_cmpR op_in_seq (pv 6) (pe_tup (pa_cons pe_str (pa_cons pe_str (pa_cons pe_str pa_nil)))) (by rfl))
        (pss_cons (ps_set (i := 9) scWild.nd rfl (Or.inl rfl) (pe_ifExp (pt_cmpR op_eq (pv 6) pe_str (nomark _)) (pe_call GT r1 rfl mT kT bT .nil pass0 (pa_cons (pv 0) (pa_cons pe_int pa_nil))) (pe_call GP r2 rfl mP kP bP .nil pass0 (pa_cons (pv 0) (pa_cons (pv 1) pa_nil)))))
        (pss_one (ps_set (i := 8) scWild.nd rfl (Or.inl rfl) (pe_tup (pa_cons (pe_ifExp (pt_cmpR op_eq (pv 6) pe_str (nomark _)) (pe_call GS hr rfl mS kS bS .nil pass0 (pa_cons (pv 0) (pa_cons (pv 2) (pa_cons (pv 1) (pa_cons (pv 4) (pa_cons pe_int pa_nil)))))) (pv 9)) (pa_cons (pv 7) pa_nil)))))) pss_nil)
      (pss_cons (ps_if (pt_cmpR op_eq (pv 6) pe_str (nomark _))
        (pss_one (ps_set (i := 8) scWild.nd rfl (Or.inl rfl) (pe_tup (pa_cons (pe_call GA r6 rfl mA kA bA .nil pass0 (pa_cons (pv 0) (pa_cons (pv 2) (pa_cons (pv 1) (pa_cons (pv 4) (pa_cons pe_int pa_nil)))))) pa_nil)))) pss_nil)
      (pss_one (ps_expr (pe_bm PySem.F.plainAttrs_list PySem.F.slot_list_append PySem.F.type_list_append mt_append (pv 3) (pa_cons (pe_op op_catT (pe_tup (pa_cons (pv 6) pa_nil)) (pv 8)) pa_nil)))))))))) 
    (pss_one (ps_ret (pe_callTy call_tuple_of (by rfl) mTuple (by decide +kernel) (pa_cons (pv 3) pa_nil))))), ?_⟩
  have big : (2000000 : Nat) ≤ sizeLine := by decide
  refine ⟨(by show 0 ≤ sizeLine; decide), fun l hl => ⟨(by show 3 ≤ sizeLine; decide), fun pp hpp => ⟨_, _, rfl, ?_⟩⟩⟩
  have s1 := same_new hl (.lst ([] : List V))
  have s2 := same_new hpp (.lst [V.int 0, V.int 1, V.int 99])
  have hl2 := s2 _ _ (upd_same : (upd H l (.lst ([] : List V))) l = _)
  have B2 := (B.same s1).same s2
  have I0 : WI (fun _ => True) H (upd (upd H l (.lst [])) pp (.lst [V.int 0, V.int 1, V.int 99])) b d p pp l ws kvs [] [] (j + 250 * 0) :=
    ⟨⟨s2 _ _ (s1 _ _ hd), sh, s2 _ _ (s1 _ _ hp), upd_same, pool_ok.1, pool_ok.2, pb, ne_box (B.same s1) hpp, nm, by omega, by omega⟩, B2.more (by omega), hl2, ne_box B hl, (ne_of_none hp hl), (ne_of_none upd_same hpp).symm, trivial, (but_of s1).trans (but_of s2), trivial, fun _ h => h⟩
  generalize upd (upd H l (.lst [])) pp (.lst [V.int 0, V.int 1, V.int 99]) = H0 at I0 ⊢
  refine ⟨_, rfl, b, _, _, rfl, I0.B, by omega, by decide, by decide, fun n0 H0' n1 n2 B0' o0' => ?_⟩
  have I0' := I0.but o0' B0'
  obtain ⟨n, rfl⟩ := Int.eq_ofNat_of_zero_le n1
  have n29 : n ≤ 28 := by omega
  refine ⟨_, rfl, by omega, by omega, for_range (lo := 0) (fun i σ H3 => ∃ (x6 x7 x8 x9 x10 : Option V) (xs : List V) (sts : List St), σ = [some (.ref b), some (.ref p), some (.ref d), some (.ref l), some (.ref pp), x6, x7, x8, x9, x10] ∧
      WI (fun _ => True) H H3 b d p pp l ws kvs xs sts (j + 1 + 250 * i) ∧ sts.length = i ∧ (∀ st ∈ sts, StOk st)) ⟨_, _, _, _, _, [], [], rfl, I0'.more (by omega), rfl, by simp⟩ ?_ ?_⟩
  · rintro i σ H3 hi ⟨x6, x7, x8, x9, x10, xs, sts, rfl, I3, sl, so⟩
    have i29 : i < 28 := by omega
    have xl := I3.A.len
    -- the word
    refine ⟨_, rfl, (by show 9 ≤ sizeLine; decide), fun c hc => ?_⟩
    have I4 := I3.new (ob := .lst ((["by", "split", "use", "back", "cut", "as", "lean", "back", "lean"] : List Str).map V.str)) hc
    have cb : c ≠ b := ne_box I3.B hc
    refine ⟨b, c, (["by", "split", "use", "back", "cut", "as", "lean", "back", "lean"] : List Str).map V.str, _, rfl, I4.B, by omega, upd_same, cb, by decide, by decide, fun v H5 hv B5 o5 => ?_⟩
    have I5 := I4.but o5 B5
    obtain ⟨wd, rfl⟩ : ∃ wd : Str, v = .str wd := by
      obtain ⟨x, _, rfl⟩ := List.mem_map.mp hv
      exact ⟨x, rfl⟩
    have hw := mem7 hv
    -- the binding
    refine ⟨_, rfl, (by show 3 ≤ sizeLine; decide), fun e he => ?_⟩
    have I6 := I5.new (ob := .lst spotV) he
    have eb : e ≠ b := ne_box I5.B he
    refine ⟨_, rfl, b, e, pp, _, rfl, I6.B, upd_same, I6.W.hq, eb, I6.W.qb, by omega, fun vb ps H7 Bi7 po B7 o7 => ?_⟩
    have I7 := (I6.but o7 B7).set (fun H => BiAt H vb ps) Bi7 (fun m h => biAt_mono m h)
    -- the parts
    intro g hg
    have I8 := I7.new (ob := .dK []) hg
    refine ⟨(by show 0 ≤ sizeLine; decide), fun tb htb => ?_⟩
    have I8' := I8.new (ob := .tup ([] : List V)) htb
    have g8 := same_new htb (.tup ([] : List V)) _ _ (upd_same : (upd H7 g (.dK [])) g = _)
    have w8 : (upd (upd H7 g (.dK [])) tb (.tup ([] : List V))) tb = some (.tup ([] : List V)) := upd_same
    generalize upd (upd H7 g (.dK [])) tb (.tup ([] : List V)) = H8 at I8' g8 w8 ⊢
    refine ⟨_, rfl, b, _, _, rfl, I8'.B, by omega, by decide, by decide, fun z1 H9 a0 a1 B9 o9 => ⟨(by show 1 ≤ sizeLine; decide), fun t1 ht1 => ?_⟩⟩
    have gb : g ≠ b := ne_box I7.B hg
    have dg : d ≠ g := ne_of_none I7.W.hd hg
    have Hg : H g = none := but_none I7.o I7.B hg
    obtain ⟨k1, rfl⟩ := Int.eq_ofNat_of_zero_le a0
    have I9 := I8'.but o9 B9
    have w9 := keepB I8'.B o9 _ _ w8
    have g9 := o9 _ _ g8 gb
    have I10 := I9.new (ob := .tup [V.int (k1 : Nat)]) ht1
    have g10 := same_new ht1 (.tup [V.int (k1 : Nat)]) _ _ g9
    have w10 := same_new ht1 (.tup [V.int (k1 : Nat)]) _ _ w9
    have t10 : (upd H9 t1 (.tup [V.int (k1 : Nat)])) t1 = some (.tup [V.int (k1 : Nat)]) := upd_same
    generalize upd H9 t1 (.tup [V.int (k1 : Nat)]) = H10 at I10 g10 t10 w10 ⊢
    refine ⟨_, rfl, b, _, _, rfl, I10.B, by omega, by decide, by decide, fun z2 H11 b0 b1 B11 o11 => ⟨(by show 1 ≤ sizeLine; decide), fun t2 ht2 => ?_⟩⟩
    have I11 := I10.but o11 B11
    obtain ⟨k2, rfl⟩ := Int.eq_ofNat_of_zero_le b0
    have g11 := o11 _ _ g10 gb
    have t11 := keepB I10.B o11 _ _ t10
    have w11 := keepB I10.B o11 _ _ w10
    have I12 := I11.new (ob := .tup [V.int (k2 : Nat)]) ht2
    have g12 := same_new ht2 (.tup [V.int (k2 : Nat)]) _ _ g11
    have t12 := same_new ht2 (.tup [V.int (k2 : Nat)]) _ _ t11
    have w12 := same_new ht2 (.tup [V.int (k2 : Nat)]) _ _ w11
    have u12 : (upd H11 t2 (.tup [V.int (k2 : Nat)])) t2 = some (.tup [V.int (k2 : Nat)]) := upd_same
    generalize upd H11 t2 (.tup [V.int (k2 : Nat)]) = H12 at I12 g12 t12 u12 w12 ⊢
    refine ⟨g12, ([(.inr "by", V.ref tb), (.inr "split", V.ref t1), (.inr "use", V.ref t2)] : KVs), rfl, (by show 3 ≤ 15; decide), ?_⟩
    have g13 : (L2.upd H12 g (.dK (mergeK [] ([(.inr "by", V.ref tb), (.inr "split", V.ref t1), (.inr "use", V.ref t2)] : KVs)))) g = some (.dK (mergeK [] ([(.inr "by", V.ref tb), (.inr "split", V.ref t1), (.inr "use", V.ref t2)] : KVs))) := upd_same
    have I13 := I12.dic (ob := .dK (mergeK [] ([(.inr "by", V.ref tb), (.inr "split", V.ref t1), (.inr "use", V.ref t2)] : KVs))) Hg g12 dg gb
    have t1g : t1 ≠ g := ne_of t12 g12 (by intro e; cases e)
    have t2g : t2 ≠ g := ne_of u12 g12 (by intro e; cases e)
    have w13 : (L2.upd H12 g (.dK (mergeK [] ([(.inr "by", V.ref tb), (.inr "split", V.ref t1), (.inr "use", V.ref t2)] : KVs)))) tb = some (.tup ([] : List V)) := by rw [upd_ne (ne_of w12 g12 (by intro e; cases e))]; exact w12
    have t13 : (L2.upd H12 g (.dK (mergeK [] ([(.inr "by", V.ref tb), (.inr "split", V.ref t1), (.inr "use", V.ref t2)] : KVs)))) t1 = some (.tup [V.int (k1 : Nat)]) := by rw [upd_ne t1g]; exact t12
    have u13 : (L2.upd H12 g (.dK (mergeK [] ([(.inr "by", V.ref tb), (.inr "split", V.ref t1), (.inr "use", V.ref t2)] : KVs)))) t2 = some (.tup [V.int (k2 : Nat)]) := by rw [upd_ne t2g]; exact u12
    generalize L2.upd H12 g (.dK (mergeK [] ([(.inr "by", V.ref tb), (.inr "split", V.ref t1), (.inr "use", V.ref t2)] : KVs))) = H13 at g13 I13 t13 u13 w13 ⊢
    refine ⟨g, rfl, .inl ⟨_, .inl g13⟩, _, rfl, (by show 0 ≤ sizeLine; decide), fun ez hez => ⟨_, DGet.k (k := Sum.inr wd) (same_new hez _ _ _ g13), ?_⟩⟩
    have I14 := I13.new (ob := .tup ([] : List V)) hez
    have t14 := same_new hez (.tup ([] : List V)) _ _ t13
    have w14 := same_new hez (.tup ([] : List V)) _ _ w13
    have u14 := same_new hez (.tup ([] : List V)) _ _ u13
    have e14 : (L2.upd H13 ez (.tup ([] : List V))) ez = some (.tup ([] : List V)) := upd_same
    rw [two_get]
    generalize L2.upd H13 ez (.tup ([] : List V)) = H14 at I14 t14 u14 e14 w14 ⊢
    clear I0 I4 I5 I6 I7 I8 I9 I10 I11 I12 I13
    rcases hw with h | h | h | h | h | h | h
    · obtain rfl : wd = "by" := V.str.inj h
      rw [if_neg (by decide +kernel), if_neg (by decide +kernel), if_pos rfl]
      refine ⟨_, rfl, (by show 3 ≤ sizeLine; decide), fun g3 hg3 => ⟨g3, _, rfl, .inr (.inl (.inl upd_same)), rfl, rfl, false, by show V.bl (inV (.str "by") [.str "back", .str "lean", .str "as"]) = V.bl false; decide +kernel, iteF ?_⟩⟩
      have I16 := I14.new (ob := .tup [V.str "back", .str "lean", .str "as"]) hg3
      have sG := same_new hg3 (.tup [V.str "back", .str "lean", .str "as"])
      have htp := sG _ _ w14
      generalize L2.upd H14 g3 (.tup [V.str "back", .str "lean", .str "as"]) = H16 at I16 htp ⊢
      refine ⟨_, rfl, rfl, false, str_neD (by show ("by" : Str) ≠ "cut"; decide +kernel), iteF ?_⟩
      refine ⟨_, rfl, .inl ⟨rfl, _, .inl (.inl I16.hl)⟩, _, rfl, (by show 1 ≤ sizeLine; decide), fun c2 hc2 => ⟨_, rfl, c2, tb, [V.str "by"], [], rfl, rfl, .inl (.inl upd_same), .inl (.inl (same_new hc2 _ _ _ (htp))), by simp, by simp; omega, fun _ => ?_, fun z => absurd rfl z⟩⟩
      have I20 := I16.new (ob := .tup [V.str "by"]) hc2
      have T : StAt (L2.upd H16 c2 (.tup [V.str "by"])) (.ref c2) St.by_ := ⟨c2, [], rfl, upd_same, rfl⟩
      refine ⟨l, _, _, rfl, rfl, I20.hl, by omega, ?_⟩
      refine ⟨_, _, _, _, _, xs ++ [.ref c2], sts ++ [St.by_], rfl, ((I20.set (fun _ => True) trivial fun _ h => h).app hl T).more (by omega), by simp [sl], fun st hst => ?_⟩
      rcases List.mem_append.mp hst with hst | hst
      · exact so st hst
      · obtain rfl : st = St.by_ := by simpa using hst
        exact trivial
    · obtain rfl : wd = "split" := V.str.inj h
      rw [if_neg (by decide +kernel), if_pos rfl]
      refine ⟨_, rfl, (by show 3 ≤ sizeLine; decide), fun g3 hg3 => ⟨g3, _, rfl, .inr (.inl (.inl upd_same)), rfl, rfl, false, by show V.bl (inV (.str "split") [.str "back", .str "lean", .str "as"]) = V.bl false; decide +kernel, iteF ?_⟩⟩
      have I16 := I14.new (ob := .tup [V.str "back", .str "lean", .str "as"]) hg3
      have sG := same_new hg3 (.tup [V.str "back", .str "lean", .str "as"])
      have htp := sG _ _ t14
      generalize L2.upd H14 g3 (.tup [V.str "back", .str "lean", .str "as"]) = H16 at I16 htp ⊢
      refine ⟨_, rfl, rfl, false, str_neD (by show ("split" : Str) ≠ "cut"; decide +kernel), iteF ?_⟩
      refine ⟨_, rfl, .inl ⟨rfl, _, .inl (.inl I16.hl)⟩, _, rfl, (by show 1 ≤ sizeLine; decide), fun c2 hc2 => ⟨_, rfl, c2, t1, [V.str "split"], [V.int (k1 : Nat)], rfl, rfl, .inl (.inl upd_same), .inl (.inl (same_new hc2 _ _ _ (htp))), by simp, by simp; omega, fun z => (by cases z), fun _ u hu => ?_⟩⟩
      have I20 := (I16.new (ob := .tup [V.str "split"]) hc2).new (ob := .tup ([V.str "split"] ++ [V.int (k1 : Nat)])) hu
      have sU := (same_new hc2 (.tup [V.str "split"])).trans (same_new hu (.tup ([V.str "split"] ++ [V.int (k1 : Nat)])))
      have T : StAt (L2.upd (L2.upd H16 c2 (.tup [V.str "split"])) u (.tup ([V.str "split"] ++ [V.int (k1 : Nat)]))) (.ref u) (St.spl k1) := ⟨u, [V.int (k1 : Nat)], rfl, upd_same, rfl⟩
      refine ⟨l, _, _, rfl, rfl, I20.hl, by omega, ?_⟩
      refine ⟨_, _, _, _, _, xs ++ [.ref u], sts ++ [(St.spl k1)], rfl, ((I20.set (fun _ => True) trivial fun _ h => h).app hl T).more (by omega), by simp [sl], fun st hst => ?_⟩
      rcases List.mem_append.mp hst with hst | hst
      · exact so st hst
      · obtain rfl : st = (St.spl k1) := by simpa using hst
        exact (show k1 ≤ 1000 by omega)
    · obtain rfl : wd = "use" := V.str.inj h
      rw [if_pos rfl]
      refine ⟨_, rfl, (by show 3 ≤ sizeLine; decide), fun g3 hg3 => ⟨g3, _, rfl, .inr (.inl (.inl upd_same)), rfl, rfl, false, by show V.bl (inV (.str "use") [.str "back", .str "lean", .str "as"]) = V.bl false; decide +kernel, iteF ?_⟩⟩
      have I16 := I14.new (ob := .tup [V.str "back", .str "lean", .str "as"]) hg3
      have sG := same_new hg3 (.tup [V.str "back", .str "lean", .str "as"])
      have htp := sG _ _ u14
      generalize L2.upd H14 g3 (.tup [V.str "back", .str "lean", .str "as"]) = H16 at I16 htp ⊢
      refine ⟨_, rfl, rfl, false, str_neD (by show ("use" : Str) ≠ "cut"; decide +kernel), iteF ?_⟩
      refine ⟨_, rfl, .inl ⟨rfl, _, .inl (.inl I16.hl)⟩, _, rfl, (by show 1 ≤ sizeLine; decide), fun c2 hc2 => ⟨_, rfl, c2, t2, [V.str "use"], [V.int (k2 : Nat)], rfl, rfl, .inl (.inl upd_same), .inl (.inl (same_new hc2 _ _ _ (htp))), by simp, by simp; omega, fun z => (by cases z), fun _ u hu => ?_⟩⟩
      have I20 := (I16.new (ob := .tup [V.str "use"]) hc2).new (ob := .tup ([V.str "use"] ++ [V.int (k2 : Nat)])) hu
      have sU := (same_new hc2 (.tup [V.str "use"])).trans (same_new hu (.tup ([V.str "use"] ++ [V.int (k2 : Nat)])))
      have T : StAt (L2.upd (L2.upd H16 c2 (.tup [V.str "use"])) u (.tup ([V.str "use"] ++ [V.int (k2 : Nat)]))) (.ref u) (St.use k2) := ⟨u, [V.int (k2 : Nat)], rfl, upd_same, rfl⟩
      refine ⟨l, _, _, rfl, rfl, I20.hl, by omega, ?_⟩
      refine ⟨_, _, _, _, _, xs ++ [.ref u], sts ++ [(St.use k2)], rfl, ((I20.set (fun _ => True) trivial fun _ h => h).app hl T).more (by omega), by simp [sl], fun st hst => ?_⟩
      rcases List.mem_append.mp hst with hst | hst
      · exact so st hst
      · obtain rfl : st = (St.use k2) := by simpa using hst
        exact (show k2 ≤ 1000 by omega)
    · obtain rfl : wd = "back" := V.str.inj h
      rw [if_neg (by decide +kernel), if_neg (by decide +kernel), if_neg (by decide +kernel)]
      refine ⟨_, rfl, (by show 3 ≤ sizeLine; decide), fun g3 hg3 => ⟨g3, _, rfl, .inr (.inl (.inl upd_same)), rfl, rfl, true, by show V.bl (inV (.str "back") [.str "back", .str "lean", .str "as"]) = V.bl true; decide +kernel, iteT ?_⟩⟩
      have I16 := I14.new (ob := .tup [V.str "back", .str "lean", .str "as"]) hg3
      have sG := same_new hg3 (.tup [V.str "back", .str "lean", .str "as"])
      refine ⟨_, rfl, rfl, true, str_eqD rfl, iteT ⟨_, rfl, b, _, _, rfl, I16.B, by omega, by decide, by decide, fun z3 H17 c0 c1 B17 o17 => ?_⟩⟩
      have I17 := I16.but o17 B17
      obtain ⟨k3, rfl⟩ := Int.eq_ofNat_of_zero_le c0
      refine ⟨_, rfl, rfl, false, str_neD (by show ("back" : Str) ≠ "as"; decide +kernel), iteF ⟨_, rfl, _, rfl, (by show 2 ≤ sizeLine; decide), fun tp htp0 => ?_⟩⟩
      have I18 := I17.new (ob := .tup [V.int (k3 : Nat), vb]) htp0
      have htp : (L2.upd H17 tp (.tup [V.int (k3 : Nat), vb])) tp = some (.tup [V.int (k3 : Nat), vb]) := upd_same
      generalize L2.upd H17 tp (.tup [V.int (k3 : Nat), vb]) = H18 at I18 htp ⊢
      refine ⟨_, rfl, rfl, false, str_neD (by show ("back" : Str) ≠ "cut"; decide +kernel), iteF ?_⟩
      refine ⟨_, rfl, .inl ⟨rfl, _, .inl (.inl I18.hl)⟩, _, rfl, (by show 1 ≤ sizeLine; decide), fun c2 hc2 => ⟨_, rfl, c2, tp, [V.str "back"], [V.int (k3 : Nat), vb], rfl, rfl, .inl (.inl upd_same), .inl (.inl (same_new hc2 _ _ _ (htp))), by simp, by simp; omega, fun z => (by cases z), fun _ u hu => ?_⟩⟩
      have I20 := (I18.new (ob := .tup [V.str "back"]) hc2).new (ob := .tup ([V.str "back"] ++ [V.int (k3 : Nat), vb])) hu
      have sU := (same_new hc2 (.tup [V.str "back"])).trans (same_new hu (.tup ([V.str "back"] ++ [V.int (k3 : Nat), vb])))
      have T : StAt (L2.upd (L2.upd H18 c2 (.tup [V.str "back"])) u (.tup ([V.str "back"] ++ [V.int (k3 : Nat), vb]))) (.ref u) (St.bck k3 ps) := ⟨u, [V.int (k3 : Nat), vb], rfl, upd_same, ⟨vb, rfl, biAt_same I18.r sU⟩⟩
      refine ⟨l, _, _, rfl, rfl, I20.hl, by omega, ?_⟩
      refine ⟨_, _, _, _, _, xs ++ [.ref u], sts ++ [(St.bck k3 ps)], rfl, ((I20.set (fun _ => True) trivial fun _ h => h).app hl T).more (by omega), by simp [sl], fun st hst => ?_⟩
      rcases List.mem_append.mp hst with hst | hst
      · exact so st hst
      · obtain rfl : st = (St.bck k3 ps) := by simpa using hst
        exact ⟨by omega, po⟩
    · obtain rfl : wd = "cut" := V.str.inj h
      rw [if_neg (by decide +kernel), if_neg (by decide +kernel), if_neg (by decide +kernel)]
      refine ⟨_, rfl, (by show 3 ≤ sizeLine; decide), fun g3 hg3 => ⟨g3, _, rfl, .inr (.inl (.inl upd_same)), rfl, rfl, false, by show V.bl (inV (.str "cut") [.str "back", .str "lean", .str "as"]) = V.bl false; decide +kernel, iteF ?_⟩⟩
      have I16 := I14.new (ob := .tup [V.str "back", .str "lean", .str "as"]) hg3
      have sG := same_new hg3 (.tup [V.str "back", .str "lean", .str "as"])
      refine ⟨_, rfl, rfl, true, str_eqD rfl, iteT ⟨_, rfl, _, rfl, _, rfl, _, rfl, b, d, p, pp, ws, [0, 1, 99], kvs, _, 1, rfl, I16.B, I16.W, by omega, by omega, fun va a H17 A17 ok17 B17 o17 => ⟨(by show 1 ≤ sizeLine; decide), fun tp htp0 => ?_⟩⟩⟩
      have I17 := I16.but o17 B17
      have I18 := I17.new (ob := .tup [va]) htp0
      have htp : (L2.upd H17 tp (.tup [va])) tp = some (.tup [va]) := upd_same
      have A18 := atAt_same A17 (same_new htp0 (.tup [va]))
      generalize L2.upd H17 tp (.tup [va]) = H18 at I18 htp A18 ⊢
      refine ⟨_, rfl, .inl ⟨rfl, _, .inl (.inl I18.hl)⟩, _, rfl, (by show 1 ≤ sizeLine; decide), fun c2 hc2 => ⟨_, rfl, c2, tp, [V.str "cut"], [va], rfl, rfl, .inl (.inl upd_same), .inl (.inl (same_new hc2 _ _ _ (htp))), by simp, by simp; omega, fun z => (by cases z), fun _ u hu => ?_⟩⟩
      have I20 := (I18.new (ob := .tup [V.str "cut"]) hc2).new (ob := .tup ([V.str "cut"] ++ [va])) hu
      have sU := (same_new hc2 (.tup [V.str "cut"])).trans (same_new hu (.tup ([V.str "cut"] ++ [va])))
      have T : StAt (L2.upd (L2.upd H18 c2 (.tup [V.str "cut"])) u (.tup ([V.str "cut"] ++ [va]))) (.ref u) (St.cut a) := ⟨u, [va], rfl, upd_same, ⟨va, rfl, atAt_same A18 sU⟩⟩
      refine ⟨l, _, _, rfl, rfl, I20.hl, by omega, ?_⟩
      refine ⟨_, _, _, _, _, xs ++ [.ref u], sts ++ [(St.cut a)], rfl, ((I20.set (fun _ => True) trivial fun _ h => h).app hl T).more (by omega), by simp [sl], fun st hst => ?_⟩
      rcases List.mem_append.mp hst with hst | hst
      · exact so st hst
      · obtain rfl : st = (St.cut a) := by simpa using hst
        exact ok17
    · obtain rfl : wd = "as" := V.str.inj h
      rw [if_neg (by decide +kernel), if_neg (by decide +kernel), if_neg (by decide +kernel)]
      refine ⟨_, rfl, (by show 3 ≤ sizeLine; decide), fun g3 hg3 => ⟨g3, _, rfl, .inr (.inl (.inl upd_same)), rfl, rfl, true, by show V.bl (inV (.str "as") [.str "back", .str "lean", .str "as"]) = V.bl true; decide +kernel, iteT ?_⟩⟩
      have I16 := I14.new (ob := .tup [V.str "back", .str "lean", .str "as"]) hg3
      have sG := same_new hg3 (.tup [V.str "back", .str "lean", .str "as"])
      refine ⟨_, rfl, rfl, false, str_neD (by show ("as" : Str) ≠ "back"; decide +kernel), iteF ⟨_, rfl, _, rfl, b, p, _, _, rfl, I16.B, by omega, I16.W.hp, I16.W.pb, by rw [List.length_map]; omega, by rw [List.length_map]; omega, fun v17 H17 hv17 B17 o17 => ?_⟩⟩
      have I17 := I16.but o17 B17
      obtain ⟨x, hx, rfl⟩ := List.mem_map.mp hv17
      refine ⟨_, rfl, rfl, true, str_eqD rfl, iteT ⟨_, rfl, _, rfl, _, rfl, _, rfl, b, d, p, pp, ws, [0, 1, 99], kvs, _, 2, rfl, I17.B, I17.W, by omega, by omega, fun vS sy H19 S19 ok19 h319 B19 o19 => ⟨_, rfl, (by show 2 ≤ sizeLine; decide), fun tp htp0 => ?_⟩⟩⟩
      have I19 := I17.but o19 B19
      have I18 := I19.new (ob := .tup [vS, vb]) htp0
      have htp : (L2.upd H19 tp (.tup [vS, vb])) tp = some (.tup [vS, vb]) := upd_same
      have S18 := S19.same (same_new htp0 (.tup [vS, vb]))
      generalize L2.upd H19 tp (.tup [vS, vb]) = H18 at I18 htp S18 ⊢
      refine ⟨_, rfl, rfl, false, str_neD (by show ("as" : Str) ≠ "cut"; decide +kernel), iteF ?_⟩
      refine ⟨_, rfl, .inl ⟨rfl, _, .inl (.inl I18.hl)⟩, _, rfl, (by show 1 ≤ sizeLine; decide), fun c2 hc2 => ⟨_, rfl, c2, tp, [V.str "as"], [vS, vb], rfl, rfl, .inl (.inl upd_same), .inl (.inl (same_new hc2 _ _ _ (htp))), by simp, by simp; omega, fun z => (by cases z), fun _ u hu => ?_⟩⟩
      have I20 := (I18.new (ob := .tup [V.str "as"]) hc2).new (ob := .tup ([V.str "as"] ++ [vS, vb])) hu
      have sU := (same_new hc2 (.tup [V.str "as"])).trans (same_new hu (.tup ([V.str "as"] ++ [vS, vb])))
      have T : StAt (L2.upd (L2.upd H18 c2 (.tup [V.str "as"])) u (.tup ([V.str "as"] ++ [vS, vb]))) (.ref u) (St.asy sy ps) := ⟨u, [vS, vb], rfl, upd_same, ⟨vS, vb, rfl, S18.same sU, biAt_same I18.r sU⟩⟩
      refine ⟨l, _, _, rfl, rfl, I20.hl, by omega, ?_⟩
      refine ⟨_, _, _, _, _, xs ++ [.ref u], sts ++ [(St.asy sy ps)], rfl, ((I20.set (fun _ => True) trivial fun _ h => h).app hl T).more (by omega), by simp [sl], fun st hst => ?_⟩
      rcases List.mem_append.mp hst with hst | hst
      · exact so st hst
      · obtain rfl : st = (St.asy sy ps) := by simpa using hst
        exact ⟨⟨ok19, h319⟩, po⟩
    · obtain rfl : wd = "lean" := V.str.inj h
      rw [if_neg (by decide +kernel), if_neg (by decide +kernel), if_neg (by decide +kernel)]
      refine ⟨_, rfl, (by show 3 ≤ sizeLine; decide), fun g3 hg3 => ⟨g3, _, rfl, .inr (.inl (.inl upd_same)), rfl, rfl, true, by show V.bl (inV (.str "lean") [.str "back", .str "lean", .str "as"]) = V.bl true; decide +kernel, iteT ?_⟩⟩
      have I16 := I14.new (ob := .tup [V.str "back", .str "lean", .str "as"]) hg3
      have sG := same_new hg3 (.tup [V.str "back", .str "lean", .str "as"])
      refine ⟨_, rfl, rfl, false, str_neD (by show ("lean" : Str) ≠ "back"; decide +kernel), iteF ⟨_, rfl, _, rfl, b, p, _, _, rfl, I16.B, by omega, I16.W.hp, I16.W.pb, by rw [List.length_map]; omega, by rw [List.length_map]; omega, fun v17 H17 hv17 B17 o17 => ?_⟩⟩
      have I17 := I16.but o17 B17
      obtain ⟨x, hx, rfl⟩ := List.mem_map.mp hv17
      refine ⟨_, rfl, rfl, false, str_neD (by show ("lean" : Str) ≠ "as"; decide +kernel), iteF ⟨_, rfl, _, rfl, (by show 2 ≤ sizeLine; decide), fun tp htp0 => ?_⟩⟩
      have I18 := I17.new (ob := .tup [V.str x, vb]) htp0
      have htp : (L2.upd H17 tp (.tup [V.str x, vb])) tp = some (.tup [V.str x, vb]) := upd_same
      generalize L2.upd H17 tp (.tup [V.str x, vb]) = H18 at I18 htp ⊢
      refine ⟨_, rfl, rfl, false, str_neD (by show ("lean" : Str) ≠ "cut"; decide +kernel), iteF ?_⟩
      refine ⟨_, rfl, .inl ⟨rfl, _, .inl (.inl I18.hl)⟩, _, rfl, (by show 1 ≤ sizeLine; decide), fun c2 hc2 => ⟨_, rfl, c2, tp, [V.str "lean"], [V.str x, vb], rfl, rfl, .inl (.inl upd_same), .inl (.inl (same_new hc2 _ _ _ (htp))), by simp, by simp; omega, fun z => (by cases z), fun _ u hu => ?_⟩⟩
      have I20 := (I18.new (ob := .tup [V.str "lean"]) hc2).new (ob := .tup ([V.str "lean"] ++ [V.str x, vb])) hu
      have sU := (same_new hc2 (.tup [V.str "lean"])).trans (same_new hu (.tup ([V.str "lean"] ++ [V.str x, vb])))
      have T : StAt (L2.upd (L2.upd H18 c2 (.tup [V.str "lean"])) u (.tup ([V.str "lean"] ++ [V.str x, vb]))) (.ref u) (St.len x ps) := ⟨u, [V.str x, vb], rfl, upd_same, ⟨vb, rfl, biAt_same I18.r sU⟩⟩
      refine ⟨l, _, _, rfl, rfl, I20.hl, by omega, ?_⟩
      refine ⟨_, _, _, _, _, xs ++ [.ref u], sts ++ [(St.len x ps)], rfl, ((I20.set (fun _ => True) trivial fun _ h => h).app hl T).more (by omega), by simp [sl], fun st hst => ?_⟩
      rcases List.mem_append.mp hst with hst | hst
      · exact so st hst
      · obtain rfl : st = (St.len x ps) := by simpa using hst
        exact ⟨I16.W.nm x hx, po⟩
  · rintro σ H3 ⟨x6, x7, x8, x9, x10, xs, sts, rfl, I3, sl, so⟩
    have sl : sts.length = n := sl
    have xl := I3.A.len
    refine ⟨_, rfl, l, xs, rfl, .inl ⟨.inl (.inl I3.hl), fun g hg => ?_⟩⟩
    have I4 := I3.new (ob := .tup xs) hg
    exact q g xs sts _ upd_same I4.A so (by omega) (I4.B.more (by omega)) I4.o
end
end Rp

set_option maxHeartbeats 16000000
/-! Displays of ints, texts, names and tuples. -/
namespace Rp
open PySem PySem.Spec PyProof.Rows L2 TL StX
mutual
inductive Lt where
  | i (n : Int)
  | s (x : Str)
  | v (k : Nat)
  | t (l : Lts)
inductive Lts where
  | nil
  | cons (a : Lt) (r : Lts)
end
mutual
def Lt.te : Lt → TE
  | .i n => tC (.int n)
  | .s x => tC (.str x)
  | .v k => tVar k
  | .t l => tTup l.ta
def Lts.ta : Lts → TA
  | .nil => tNil
  | .cons a r => tCons a.te r.ta
end
def Lts.len : Lts → Nat
  | .nil => 0
  | .cons _ r => r.len + 1
mutual
def Lt.ok (σ : L2.St) : Lt → Prop
  | .i _ => True
  | .s _ => True
  | .v k => ∃ v, σ[k]? = some (some v)
  | .t l => l.len ≤ 1000 ∧ l.ok σ
def Lts.ok (σ : L2.St) : Lts → Prop
  | .nil => True
  | .cons a r => a.ok σ ∧ r.ok σ
end
mutual
def LtAt (σ : L2.St) (H : Hp) : Lt → V → Prop
  | .i n, v => v = .int n
  | .s x, v => v = .str x
  | .v k, v => σ[k]? = some (some v)
  | .t l, v => ∃ (a : Addr) (xs : List V), v = .ref a ∧ H a = some (.tup xs) ∧ LtsAt σ H l xs
def LtsAt (σ : L2.St) (H : Hp) : Lts → List V → Prop
  | .nil, xs => xs = []
  | .cons a r, xs => ∃ (v : V) (ys : List V), xs = v :: ys ∧ LtAt σ H a v ∧ LtsAt σ H r ys
end
mutual
theorem LtAt.mono {σ : L2.St} {H H' : Hp} (e : ∀ a xs, H a = some (.tup xs) → H' a = some (.tup xs)) : ∀ {L : Lt} {v : V}, LtAt σ H L v → LtAt σ H' L v
  | .i _, _, h => h
  | .s _, _, h => h
  | .v _, _, h => h
  | .t _, _, ⟨a, xs, e1, e2, h⟩ => ⟨a, xs, e1, e _ _ e2, LtsAt.mono e h⟩
theorem LtsAt.mono {σ : L2.St} {H H' : Hp} (e : ∀ a xs, H a = some (.tup xs) → H' a = some (.tup xs)) : ∀ {L : Lts} {v : List V}, LtsAt σ H L v → LtsAt σ H' L v
  | .nil, _, h => h
  | .cons _ _, _, ⟨v, ys, e1, h1, h2⟩ => ⟨v, ys, e1, LtAt.mono e h1, LtsAt.mono e h2⟩
end
theorem LtsAt.len {σ : L2.St} {H : Hp} : ∀ {L : Lts} {v : List V}, LtsAt σ H L v → v.length = L.len
  | .nil, _, h => by rw [show _ = [] from h]; rfl
  | .cons _ _, _, ⟨v, ys, e1, h1, h2⟩ => by rw [e1, List.length_cons, LtsAt.len h2]; rfl
mutual
theorem Lt.run {σ : L2.St} : ∀ (L : Lt) {H : Hp} {Q : V → Hp → Prop}, L.ok σ → (∀ (v : V) (H' : Hp), LtAt σ H' L v → Same H H' → Q v H') → L.te σ H Q
  | .i n, H, Q, _, q => q _ H rfl (Same.refl H)
  | .s x, H, Q, _, q => q _ H rfl (Same.refl H)
  | .v k, H, Q, ⟨v, hv⟩, q => ⟨v, hv, q v H hv (Same.refl H)⟩
  | .t l, H, Q, ⟨hl, hok⟩, q => Lts.run l hok fun xs H1 hx s1 => by
    have big : (1000 : Nat) ≤ sizeLine := by decide
    refine ⟨by rw [LtsAt.len hx]; exact Nat.le_trans hl big, fun p hp => ?_⟩
    have s2 := same_new hp (.tup xs)
    exact q _ _ ⟨p, xs, rfl, upd_same, LtsAt.mono (fun a zs z => s2 _ _ z) hx⟩ (s1.trans s2)
theorem Lts.run {σ : L2.St} : ∀ (L : Lts) {H : Hp} {Q : List V → Hp → Prop}, L.ok σ → (∀ (v : List V) (H' : Hp), LtsAt σ H' L v → Same H H' → Q v H') → L.ta σ H Q
  | .nil, H, Q, _, q => q _ H rfl (Same.refl H)
  | .cons a r, H, Q, ⟨h1, h2⟩, q => Lt.run a h1 fun v H1 hv s1 => Lts.run r h2 fun xs H2 hx s2 =>
    q _ _ ⟨v, xs, rfl, LtAt.mono (fun a zs z => s2 _ _ z) hv, hx⟩ (s1.trans s2)
end
theorem seq_asgL {te : TE} {g : TG} {rest : TS} {D : Ends} {σ : L2.St} {H : Hp} (h : te σ H fun v H1 => g v σ H1 fun σ2 H2 => rest D σ2 H2) : tSeq (tAsg te g) rest D σ H := h
theorem cons1 {te : TE} {σ : L2.St} {H : Hp} {Q : List V → Hp → Prop} (h : te σ H fun v H1 => Q [v] H1) : tCons te tNil σ H Q := h
theorem lst1 {te : TE} {σ : L2.St} {H : Hp} {Q : V → Hp → Prop} (h : te σ H fun v H1 => 1 ≤ sizeLine ∧ ∀ p, H1 p = none → Q (.ref p) (upd H1 p (.lst [v]))) : tLst (tCons te tNil) σ H Q := h
theorem ret_cat1 {te : TE} {i : Nat} {D : Ends} {σ : L2.St} {H : Hp} {v : V} (hv : σ[i]? = some (some v)) (h : te σ H fun u H1 => 1 ≤ sizeLine ∧ ∀ p, H1 p = none → rCat v (.ref p) (upd H1 p (.lst [u])) D.rt) : tRet (tOp rCat (tVar i) (tLst (tCons te tNil))) D σ H := ⟨v, hv, h⟩
theorem Lt.runE {σ : L2.St} (L : Lt) (te : TE) (e : L.te = te) {H : Hp} {Q : V → Hp → Prop} (h : L.ok σ) (q : ∀ (v : V) (H' : Hp), LtAt σ H' L v → Same H H' → Q v H') : te σ H Q := e ▸ Lt.run L h q
abbrev DTm (σ : L2.St) (L : Lt) (t : Tm) : Prop := ∀ {H : Hp} {v : V}, LtAt σ H L v → TmAt H v t
abbrev DTms (σ : L2.St) (L : Lts) (t : List Tm) : Prop := ∀ {H : Hp} {v : List V}, LtsAt σ H L v → AllAt H v t
abbrev DAm (σ : L2.St) (L : Lt) (t : At) : Prop := ∀ {H : Hp} {v : V}, LtAt σ H L v → AtAt H v t
abbrev DAts (σ : L2.St) (L : Lts) (t : List At) : Prop := ∀ {H : Hp} {v : List V}, LtsAt σ H L v → AtsAt H v t
abbrev DSy (σ : L2.St) (L : Lt) (t : Sy) : Prop := ∀ {H : Hp} {v : V}, LtAt σ H L v → SyAt H v t
abbrev DPr (σ : L2.St) (L : Lts) (t : Prs) : Prop := ∀ {H : Hp} {v : List V}, LtsAt σ H L v → PrAt H v t
abbrev DBi (σ : L2.St) (L : Lt) (t : Prs) : Prop := ∀ {H : Hp} {v : V}, LtAt σ H L v → BiAt H v t
abbrev DSt (σ : L2.St) (L : Lt) (t : St) : Prop := ∀ {H : Hp} {v : V}, LtAt σ H L v → StAt H v t
abbrev DSts (σ : L2.St) (L : Lts) (t : List St) : Prop := ∀ {H : Hp} {v : List V}, LtsAt σ H L v → StsAt H v t
section
variable {σ : L2.St}
theorem dt_i (n : Int) : DTm σ (.i n) (.v n) := fun {H v} h => by rw [show v = _ from h]; exact .v n
theorem dt_z : DTm σ (.t (.cons (.s "0") .nil)) .z := fun {H v} h => by
  obtain ⟨a, _, rfl, h1, _, _, rfl, rfl, rfl⟩ := h
  exact .z h1
theorem dt_s {L : Lt} {t : Tm} (h : DTm σ L t) : DTm σ (.t (.cons (.s "s") (.cons L .nil))) (.s t) := fun {H v} h' => by
  obtain ⟨a, _, rfl, h1, _, _, rfl, rfl, v, _, rfl, h2, rfl⟩ := h'
  exact .s h1 (h h2)
theorem dts_nil : DTms σ .nil [] := fun {H v} h => by rw [show v = _ from h]; trivial
theorem dts_cons {L : Lt} {l : Lts} {t : Tm} {ts : List Tm} (h : DTm σ L t) (h' : DTms σ l ts) : DTms σ (.cons L l) (t :: ts) := fun {H v} z => by
  obtain ⟨a, xs, rfl, h1, h2⟩ := z
  exact ⟨h h1, h' h2⟩
theorem d_at {k : Nat} {l : Lts} {x : Str} {ts : List Tm} (hk : σ[k]? = some (some (.str x))) (h : DTms σ l ts) : DAm σ (.t (.cons (.v k) l)) ⟨x, ts⟩ := fun {H v} z => by
  obtain ⟨a, _, rfl, h1, u, xs, rfl, h2, h3⟩ := z
  have e : some (some (V.str x)) = some (some u) := hk.symm.trans h2
  obtain rfl : V.str x = u := Option.some.inj (Option.some.inj e)
  exact ⟨a, xs, rfl, h1, h h3⟩
theorem dats_nil : DAts σ .nil [] := fun {H v} h => by rw [show v = _ from h]; trivial
theorem dats_cons {L : Lt} {l : Lts} {t : At} {ts : List At} (h : DAm σ L t) (h' : DAts σ l ts) : DAts σ (.cons L l) (t :: ts) := fun {H v} z => by
  obtain ⟨a, xs, rfl, h1, h2⟩ := z
  exact ⟨h h1, h' h2⟩
theorem d_sy {L : Lt} {l : Lts} {g : At} {hs : List At} (h : DAts σ l hs) (h' : DAm σ L g) : DSy σ (.t (.cons (.t l) (.cons L .nil))) ⟨hs, g⟩ := fun {H v} z => by
  obtain ⟨a, _, rfl, h1, _, _, rfl, ⟨b, xs, rfl, h2, h3⟩, u, _, rfl, h4, rfl⟩ := z
  exact ⟨a, b, u, xs, rfl, h1, h2, h h3, h' h4⟩
theorem dpr_nil : DPr σ .nil [] := fun {H v} h => by rw [show v = _ from h]; trivial
theorem dpr_cons {L : Lt} {l : Lts} {n : Int} {t : Tm} {ts : Prs} (h : DTm σ L t) (h' : DPr σ l ts) : DPr σ (.cons (.t (.cons (.i n) (.cons L .nil))) l) ((n, t) :: ts) := fun {H v} z => by
  obtain ⟨_, xs, rfl, ⟨b, _, rfl, h1, _, _, rfl, rfl, u, _, rfl, h2, rfl⟩, h3⟩ := z
  exact ⟨⟨b, u, rfl, h1, h h2⟩, h' h3⟩
theorem d_bi {l : Lts} {ps : Prs} (h : DPr σ l ps) : DBi σ (.t l) ps := fun {H v} z => by
  obtain ⟨a, xs, rfl, h1, h2⟩ := z
  exact ⟨a, xs, rfl, h1, h h2⟩
theorem d_by : DSt σ (.t (.cons (.s "by") .nil)) .by_ := fun {H v} h => by
  obtain ⟨a, _, rfl, h1, _, _, rfl, rfl, rfl⟩ := h
  exact ⟨a, [], rfl, h1, rfl⟩
theorem d_spl (k : Nat) : DSt σ (.t (.cons (.s "split") (.cons (.i (k : Nat)) .nil))) (.spl k) := fun {H v} h => by
  obtain ⟨a, _, rfl, h1, _, _, rfl, rfl, _, _, rfl, rfl, rfl⟩ := h
  exact ⟨a, _, rfl, h1, rfl⟩
theorem d_use (k : Nat) : DSt σ (.t (.cons (.s "use") (.cons (.i (k : Nat)) .nil))) (.use k) := fun {H v} h => by
  obtain ⟨a, _, rfl, h1, _, _, rfl, rfl, _, _, rfl, rfl, rfl⟩ := h
  exact ⟨a, _, rfl, h1, rfl⟩
theorem d_bck (k : Nat) {L : Lt} {b : Prs} (h : DBi σ L b) : DSt σ (.t (.cons (.s "back") (.cons (.i (k : Nat)) (.cons L .nil)))) (.bck k b) := fun {H v} z => by
  obtain ⟨a, _, rfl, h1, _, _, rfl, rfl, _, _, rfl, rfl, vb, _, rfl, h2, rfl⟩ := z
  exact ⟨a, _, rfl, h1, vb, rfl, h h2⟩
theorem d_cut {L : Lt} {b : At} (h : DAm σ L b) : DSt σ (.t (.cons (.s "cut") (.cons L .nil))) (.cut b) := fun {H v} z => by
  obtain ⟨a, _, rfl, h1, _, _, rfl, rfl, vb, _, rfl, h2, rfl⟩ := z
  exact ⟨a, _, rfl, h1, vb, rfl, h h2⟩
theorem d_as {L M : Lt} {s : Sy} {b : Prs} (h : DSy σ L s) (h' : DBi σ M b) : DSt σ (.t (.cons (.s "as") (.cons L (.cons M .nil)))) (.asy s b) := fun {H v} z => by
  obtain ⟨a, _, rfl, h1, _, _, rfl, rfl, u, _, rfl, h2, vb, _, rfl, h3, rfl⟩ := z
  exact ⟨a, _, rfl, h1, u, vb, rfl, h h2, h' h3⟩
theorem dsts_nil : DSts σ .nil [] := fun {H v} h => by rw [show v = _ from h]; trivial
theorem dsts_cons {L : Lt} {l : Lts} {t : St} {ts : List St} (h : DSt σ L t) (h' : DSts σ l ts) : DSts σ (.cons L l) (t :: ts) := fun {H v} z => by
  obtain ⟨a, xs, rfl, h1, h2⟩ := z
  exact ⟨h h1, h' h2⟩
def StPt (H : Hp) (v : V) (sts : List St) : Prop := ∃ (q : Addr) (xs : List V), v = .ref q ∧ H q = some (.tup xs) ∧ StsAt H xs sts
theorem StPt.mono {H H' : Hp} (e : ∀ a xs, H a = some (.tup xs) → H' a = some (.tup xs)) {v : V} {sts : List St} (h : StPt H v sts) : StPt H' v sts := by
  obtain ⟨q, xs, rfl, h1, h2⟩ := h
  exact ⟨q, xs, rfl, e _ _ h1, h2.mono e⟩
theorem stpt {l : Lts} {sts : List St} (h : DSts σ l sts) {H : Hp} {v : V} (z : LtAt σ H (.t l) v) : StPt H v sts := by
  obtain ⟨a, xs, rfl, h1, h2⟩ := z
  exact ⟨a, xs, rfl, h1, h h2⟩
theorem ch_lit {L M : Lt} {s : Sy} {sts : List St} (h : DSy σ L s) {H : Hp} {v : V} (z : LtAt σ H (.t (.cons L (.cons M .nil))) v) (h' : ∀ u, LtAt σ H M u → StPt H u sts) : ChAt H v ⟨s, sts⟩ := by
  obtain ⟨a, _, rfl, h1, u, _, rfl, h2, w, _, rfl, h3, rfl⟩ := z
  obtain ⟨q, xs, rfl, h4, h5⟩ := h' w h3
  exact ⟨a, q, u, xs, rfl, h1, h h2, h4, h5⟩
theorem at_ok {x : Str} {ts : List Tm} (h : NameOk x) (h1 : 1 ≤ ts.length) (h2 : ts.length ≤ 2) (h3 : ∀ t ∈ ts, t.small ∧ t.size ≤ 7) : AtOk 7 ⟨x, ts⟩ := ⟨h, h1, h2, h3⟩
end
def ChsAt (H : Hp) : List V → List Ch → Prop
  | [], [] => True
  | v :: xs, a :: as => ChAt H v a ∧ ChsAt H xs as
  | _, _ => False
theorem ChsAt.mono {H H' : Hp} (e : ∀ a xs, H a = some (.tup xs) → H' a = some (.tup xs)) : ∀ {xs : List V} {as : List Ch}, ChsAt H xs as → ChsAt H' xs as
  | [], [], _ => trivial
  | _ :: _, _ :: _, h => ⟨chAt_mono e h.1, ChsAt.mono e h.2⟩
theorem ChsAt.get {H : Hp} : ∀ {xs : List V} {as : List Ch} {i : Nat} {x : V}, ChsAt H xs as → xs[i]? = some x → ∃ a, as[i]? = some a ∧ ChAt H x a
  | v :: xs, a :: as, 0, x, h, e => ⟨a, rfl, by have : v = x := by simpa using e
                                                subst this; exact h.1⟩
  | _ :: xs, _ :: as, i + 1, x, h, e => by simpa using ChsAt.get h.2 (by simpa using e)
theorem ChsAt.len {H : Hp} : ∀ {xs : List V} {as : List Ch}, ChsAt H xs as → xs.length = as.length
  | [], [], _ => rfl
  | _ :: _, _ :: _, h => congrArg (· + 1) (ChsAt.len h.2)
theorem ChsAt.append {H : Hp} : ∀ {xs ys : List V} {as bs : List Ch}, ChsAt H xs as → ChsAt H ys bs → ChsAt H (xs ++ ys) (as ++ bs)
  | [], _, [], _, _, h => h
  | _ :: xs, _, _ :: as, _, h, h' => ⟨h.1, ChsAt.append h.2 h'⟩
end Rp

set_option maxHeartbeats 32000000
/-! The law's known charts, its bad ones. -/
namespace Rp
open PySem PySem.Spec PyProof.Rows L2 TL StX
def spCharts : Sp := fun vs H Q _ => ∃ (p : Addr) (x1 x2 x3 x4 : Str), vs = [.ref p] ∧ H p = some (.lst [.str x1, .str x2, .str x3, .str x4]) ∧ NameOk x1 ∧ NameOk x2 ∧ NameOk x3 ∧ NameOk x4 ∧ x2 ≠ x3 ∧
  ∀ (l : Addr) (xs : List V) (cs : List Ch) (H' : Hp), H' l = some (.lst xs) → ChsAt H' xs cs → (∀ c ∈ cs, ChOk c) → 1 ≤ cs.length → cs.length ≤ 4 → Same H H' → Q (.ref l) H'
section
variable {P : Program} {w : World} {K : PySem.W.Frag} {mg : Str → Option Value} {base : Heap}
theorem scsKnown : FnScope ["_law_names_here", "_law_nat", "_law_even", "_law_odd", "_law_less", "_law_steps", "_law_found"] ["_law_names_here"] (defScope sKnown) := ⟨rfl, rfl, rfl, by decide +kernel, rfl, by decide +kernel, by decide +kernel⟩
theorem ok_known {f : Addr} {fd : FuncData} (F : Fun K "_law_known_charts" "_law_known_charts" sKnown f fd) : FnOk P w K mg base CX0 1 f fd ["_law_names_here"] spCharts := by
  refine F.ok scsKnown (fun vs H Q E h => ?_) (fun cdv A outer s H vs Q E hr h => ?_)
  · obtain ⟨p, x1, x2, x3, x4, rfl, _⟩ := h
    rfl
  obtain ⟨p, x1, x2, x3, x4, rfl, hp, n1, n2, n3, n4, n23, q⟩ := h
  refine ⟨_, pss_cons (ps_asg (pe_slice sl_list (pv 0) po_none (po_some pe_int)) (pg_unl rfl (pgs_cons (pg_name (i := 1) scsKnown.nd rfl (Or.inl rfl)) (pgs_cons (pg_name (i := 2) scsKnown.nd rfl (Or.inl rfl)) (pgs_cons (pg_name (i := 3) scsKnown.nd rfl (Or.inl rfl)) (pgs_cons (pg_name (i := 4) scsKnown.nd rfl (Or.inl rfl)) pgs_nil))))))
    (pss_cons (ps_set (i := 5) scsKnown.nd rfl (Or.inl rfl) (pe_tup (pa_cons (pe_tup (pa_cons pe_str (pa_cons pe_int pa_nil))) (pa_cons (pe_tup (pa_cons pe_str (pa_cons pe_int pa_nil))) (pa_cons (pe_tup (pa_cons pe_str (pa_cons pe_int pa_nil))) (pa_cons (pe_tup (pa_cons pe_str (pa_cons pe_int pa_nil))) (pa_cons (pe_tup (pa_cons pe_str (pa_cons pe_int pa_nil))) (pa_cons (pe_tup (pa_cons pe_str (pa_cons pe_int (pa_cons (pe_tup (pa_cons (pe_tup (pa_cons pe_int (pa_cons pe_int pa_nil))) pa_nil)) pa_nil)))) pa_nil))))))))
    (pss_cons (ps_set (i := 6) scsKnown.nd rfl (Or.inl rfl) (pe_lst (pa_cons (pe_tup (pa_cons (pe_tup (pa_cons (pe_tup (pa_cons (pe_tup (pa_cons (pv 2) (pa_cons pe_int pa_nil))) pa_nil)) (pa_cons (pe_tup (pa_cons (pv 1) (pa_cons pe_int pa_nil))) pa_nil))) (pa_cons (pv 5) pa_nil))) pa_nil)))
    (pss_cons (ps_set (i := 5) scsKnown.nd rfl (Or.inl rfl) (pe_tup (pa_cons (pe_tup (pa_cons pe_str (pa_cons pe_int pa_nil))) (pa_cons (pe_tup (pa_cons pe_str (pa_cons pe_int pa_nil))) (pa_cons (pe_tup (pa_cons pe_str (pa_cons pe_int pa_nil))) (pa_cons (pe_tup (pa_cons pe_str (pa_cons pe_int pa_nil))) (pa_cons (pe_tup (pa_cons pe_str (pa_cons pe_int pa_nil))) (pa_cons (pe_tup (pa_cons pe_str (pa_cons pe_int (pa_cons (pe_tup (pa_cons (pe_tup (pa_cons pe_int (pa_cons pe_int pa_nil))) pa_nil)) pa_nil)))) pa_nil))))))))
    (pss_cons (ps_expr (pe_bm PySem.F.plainAttrs_list PySem.F.slot_list_append PySem.F.type_list_append mt_append (pv 6) (pa_cons (pe_tup (pa_cons (pe_tup (pa_cons (pe_tup (pa_cons (pe_tup (pa_cons (pv 3) (pa_cons pe_int pa_nil))) pa_nil)) (pa_cons (pe_tup (pa_cons (pv 1) (pa_cons pe_int pa_nil))) pa_nil))) (pa_cons (pv 5) pa_nil))) pa_nil)))
    (pss_cons (ps_set (i := 5) scsKnown.nd rfl (Or.inl rfl) (pe_tup (pa_cons (pe_tup (pa_cons pe_str (pa_cons pe_int pa_nil))) (pa_cons (pe_tup (pa_cons pe_str (pa_cons pe_int pa_nil))) (pa_cons (pe_tup (pa_cons pe_str (pa_cons pe_int pa_nil))) (pa_cons (pe_tup (pa_cons pe_str (pa_cons pe_int (pa_cons (pe_tup (pa_cons (pe_tup (pa_cons pe_int (pa_cons pe_int pa_nil))) pa_nil)) pa_nil)))) pa_nil))))))
    (pss_cons (ps_expr (pe_bm PySem.F.plainAttrs_list PySem.F.slot_list_append PySem.F.type_list_append mt_append (pv 6) (pa_cons (pe_tup (pa_cons (pe_tup (pa_cons (pe_tup (pa_cons (pe_tup (pa_cons (pv 1) (pa_cons pe_int pa_nil))) pa_nil)) (pa_cons (pe_tup (pa_cons (pv 4) (pa_cons pe_int (pa_cons (pe_tup (pa_cons pe_str (pa_cons pe_int pa_nil))) pa_nil)))) pa_nil))) (pa_cons (pv 5) pa_nil))) pa_nil)))
    (pss_cons (ps_set (i := 5) scsKnown.nd rfl (Or.inl rfl) (pe_tup (pa_cons (pe_tup (pa_cons pe_str (pa_cons pe_int pa_nil))) (pa_cons (pe_tup (pa_cons pe_str pa_nil)) (pa_cons (pe_tup (pa_cons pe_str (pa_cons pe_int pa_nil))) (pa_cons (pe_tup (pa_cons pe_str (pa_cons pe_int (pa_cons (pe_tup (pa_cons (pe_tup (pa_cons pe_int (pa_cons pe_int pa_nil))) pa_nil)) pa_nil)))) pa_nil))))))
    (pss_one (ps_ret (pe_op op_cat (pv 6) (pe_lst (pa_cons (pe_tup (pa_cons (pe_tup (pa_cons (pe_tup (pa_cons (pe_tup (pa_cons (pv 2) (pa_cons pe_int pa_nil))) (pa_cons (pe_tup (pa_cons (pv 3) (pa_cons pe_int pa_nil))) pa_nil))) (pa_cons (pe_tup (pa_cons (pv 3) (pa_cons (pe_tup (pa_cons pe_str pa_nil)) pa_nil))) pa_nil))) (pa_cons (pv 5) pa_nil))) pa_nil)))))))))))), ?_⟩
  have big : (2000000 : Nat) ≤ sizeLine := by decide
  refine ⟨_, rfl, 4, rfl, p, _, rfl, .inl (.inl hp), fun g0 hg0 => ?_⟩
  rw [show (4 : Int) = ((4 : Nat) : Int) from rfl, cut_to]
  refine ⟨g0, _, rfl, .inl (.inl upd_same), rfl, ?_⟩
  have s0 := same_new hg0 (.lst ([V.str x1, .str x2, .str x3, .str x4].take 4))
  generalize upd H g0 (.lst ([V.str x1, .str x2, .str x3, .str x4].take 4)) = G0 at s0 ⊢
  refine ⟨_, _, rfl, _, _, rfl, _, _, rfl, _, _, rfl, rfl, ?_⟩
  refine seq_asgL (Lt.runE (.t (.cons (.t (.cons (.s "split") (.cons (.i 0) .nil))) (.cons (.t (.cons (.s "use") (.cons (.i 0) .nil))) (.cons (.t (.cons (.s "use") (.cons (.i 1) .nil))) (.cons (.t (.cons (.s "split") (.cons (.i 0) .nil))) (.cons (.t (.cons (.s "use") (.cons (.i 1) .nil))) (.cons (.t (.cons (.s "back") (.cons (.i 0) (.cons (.t (.cons (.t (.cons (.i 0) (.cons (.i 2) .nil))) .nil)) .nil)))) .nil))))))) (tTup (tCons (tTup (tCons (tC (.str "split")) (tCons (tC (.int 0)) tNil))) (tCons (tTup (tCons (tC (.str "use")) (tCons (tC (.int 0)) tNil))) (tCons (tTup (tCons (tC (.str "use")) (tCons (tC (.int 1)) tNil))) (tCons (tTup (tCons (tC (.str "split")) (tCons (tC (.int 0)) tNil))) (tCons (tTup (tCons (tC (.str "use")) (tCons (tC (.int 1)) tNil))) (tCons (tTup (tCons (tC (.str "back")) (tCons (tC (.int 0)) (tCons (tTup (tCons (tTup (tCons (tC (.int 0)) (tCons (tC (.int 2)) tNil))) tNil)) tNil)))) tNil))))))) (by simp only [Lt.te, Lts.ta]) ⟨by decide, ⟨⟨by decide, ⟨trivial, ⟨trivial, trivial⟩⟩⟩, ⟨⟨by decide, ⟨trivial, ⟨trivial, trivial⟩⟩⟩, ⟨⟨by decide, ⟨trivial, ⟨trivial, trivial⟩⟩⟩, ⟨⟨by decide, ⟨trivial, ⟨trivial, trivial⟩⟩⟩, ⟨⟨by decide, ⟨trivial, ⟨trivial, trivial⟩⟩⟩, ⟨⟨by decide, ⟨trivial, ⟨trivial, ⟨⟨by decide, ⟨⟨by decide, ⟨trivial, ⟨trivial, trivial⟩⟩⟩, trivial⟩⟩, trivial⟩⟩⟩⟩, trivial⟩⟩⟩⟩⟩⟩⟩ fun v1 G1 h1 g1 => ?_)
  have P1 : StPt G1 v1 [(St.spl 0), (St.use 0), (St.use 1), (St.spl 0), (St.use 1), (St.bck 0 [(0, (.v 2))])] := stpt (dsts_cons (d_spl 0) (dsts_cons (d_use 0) (dsts_cons (d_use 1) (dsts_cons (d_spl 0) (dsts_cons (d_use 1) (dsts_cons (d_bck 0 (d_bi (dpr_cons (dt_i 2) dpr_nil))) dsts_nil)))))) h1
  clear h1
  have t1 := s0.trans g1
  refine seq_asgL (lst1 (Lt.runE (.t (.cons (.t (.cons (.t (.cons (.t (.cons (.v 2) (.cons (.i 0) .nil))) .nil)) (.cons (.t (.cons (.v 1) (.cons (.i 0) .nil))) .nil))) (.cons (.v 5) .nil))) (tTup (tCons (tTup (tCons (tTup (tCons (tTup (tCons (tVar 2) (tCons (tC (.int 0)) tNil))) tNil)) (tCons (tTup (tCons (tVar 1) (tCons (tC (.int 0)) tNil))) tNil))) (tCons (tVar 5) tNil))) (by simp only [Lt.te, Lts.ta]) ⟨by decide, ⟨⟨by decide, ⟨⟨by decide, ⟨⟨by decide, ⟨⟨_, rfl⟩, ⟨trivial, trivial⟩⟩⟩, trivial⟩⟩, ⟨⟨by decide, ⟨⟨_, rfl⟩, ⟨trivial, trivial⟩⟩⟩, trivial⟩⟩⟩, ⟨⟨_, rfl⟩, trivial⟩⟩⟩ fun v2 G2 h2 g2 => ?_))
  have D2 : ChAt G2 v2 (⟨(⟨[(⟨x2, [(.v 0)]⟩ : At)], (⟨x1, [(.v 0)]⟩ : At)⟩ : Sy), [(St.spl 0), (St.use 0), (St.use 1), (St.spl 0), (St.use 1), (St.bck 0 [(0, (.v 2))])]⟩ : Ch) := ch_lit (d_sy (dats_cons (d_at (k := 2) rfl (dts_cons (dt_i 0) dts_nil)) dats_nil) (d_at (k := 1) rfl (dts_cons (dt_i 0) dts_nil))) h2 fun u hu => (by have hu := Option.some.inj (Option.some.inj (show some (some _) = some (some u) from hu)); subst hu; exact P1.mono fun a zs z => g2 _ _ z)
  have o2 : ChOk (⟨(⟨[(⟨x2, [(.v 0)]⟩ : At)], (⟨x1, [(.v 0)]⟩ : At)⟩ : Sy), [(St.spl 0), (St.use 0), (St.use 1), (St.spl 0), (St.use 1), (St.bck 0 [(0, (.v 2))])]⟩ : Ch) := ⟨⟨AtsOk.mk (by simp) (by intro a ha; simp only [List.mem_cons, List.not_mem_nil, or_false] at ha; subst ha; exact (at_ok (x := x2) (ts := [(.v 0)]) n2 (by decide) (by decide) (by simp [Tm.small, Tm.nums, Tm.size]))), by simp, (at_ok (x := x1) (ts := [(.v 0)]) n1 (by decide) (by decide) (by simp [Tm.small, Tm.nums, Tm.size]))⟩, by intro st hst; simp only [List.mem_cons, List.not_mem_nil, or_false] at hst; rcases hst with rfl | rfl | rfl | rfl | rfl | rfl; exact (show 0 ≤ 1000 by decide); exact (show 0 ≤ 1000 by decide); exact (show 1 ≤ 1000 by decide); exact (show 0 ≤ 1000 by decide); exact (show 1 ≤ 1000 by decide); exact ⟨by decide, ⟨by simp, by simp [Tm.small, Tm.nums], by simp [Tm.size], by simp, by simp⟩⟩, by simp, by simp⟩
  clear h2
  refine ⟨(by show 1 ≤ sizeLine; decide), fun l hl => ?_⟩
  have b2 := same_new hl (.lst [v2])
  have L2 : (upd G2 l (.lst [v2])) l = some (.lst [v2]) := upd_same
  have C2 : ChsAt (upd G2 l (.lst [v2])) [v2] [(⟨(⟨[(⟨x2, [(.v 0)]⟩ : At)], (⟨x1, [(.v 0)]⟩ : At)⟩ : Sy), [(St.spl 0), (St.use 0), (St.use 1), (St.spl 0), (St.use 1), (St.bck 0 [(0, (.v 2))])]⟩ : Ch)] := ⟨D2.same b2, trivial⟩
  have l0 : H l = none := by
    cases e : H l with
    | none => rfl
    | some u => have := g2 _ _ (t1 _ _ e); rw [hl] at this; cases this
  have t2 := t1.trans (g2.trans b2)
  generalize upd G2 l (.lst [v2]) = I2 at b2 L2 C2 t2 ⊢
  refine seq_asgL (Lt.runE (.t (.cons (.t (.cons (.s "split") (.cons (.i 0) .nil))) (.cons (.t (.cons (.s "use") (.cons (.i 1) .nil))) (.cons (.t (.cons (.s "split") (.cons (.i 0) .nil))) (.cons (.t (.cons (.s "use") (.cons (.i 0) .nil))) (.cons (.t (.cons (.s "use") (.cons (.i 1) .nil))) (.cons (.t (.cons (.s "back") (.cons (.i 0) (.cons (.t (.cons (.t (.cons (.i 0) (.cons (.i 2) .nil))) .nil)) .nil)))) .nil))))))) (tTup (tCons (tTup (tCons (tC (.str "split")) (tCons (tC (.int 0)) tNil))) (tCons (tTup (tCons (tC (.str "use")) (tCons (tC (.int 1)) tNil))) (tCons (tTup (tCons (tC (.str "split")) (tCons (tC (.int 0)) tNil))) (tCons (tTup (tCons (tC (.str "use")) (tCons (tC (.int 0)) tNil))) (tCons (tTup (tCons (tC (.str "use")) (tCons (tC (.int 1)) tNil))) (tCons (tTup (tCons (tC (.str "back")) (tCons (tC (.int 0)) (tCons (tTup (tCons (tTup (tCons (tC (.int 0)) (tCons (tC (.int 2)) tNil))) tNil)) tNil)))) tNil))))))) (by simp only [Lt.te, Lts.ta]) ⟨by decide, ⟨⟨by decide, ⟨trivial, ⟨trivial, trivial⟩⟩⟩, ⟨⟨by decide, ⟨trivial, ⟨trivial, trivial⟩⟩⟩, ⟨⟨by decide, ⟨trivial, ⟨trivial, trivial⟩⟩⟩, ⟨⟨by decide, ⟨trivial, ⟨trivial, trivial⟩⟩⟩, ⟨⟨by decide, ⟨trivial, ⟨trivial, trivial⟩⟩⟩, ⟨⟨by decide, ⟨trivial, ⟨trivial, ⟨⟨by decide, ⟨⟨by decide, ⟨trivial, ⟨trivial, trivial⟩⟩⟩, trivial⟩⟩, trivial⟩⟩⟩⟩, trivial⟩⟩⟩⟩⟩⟩⟩ fun v3 G3 h3 g3 => ?_)
  have P3 : StPt G3 v3 [(St.spl 0), (St.use 1), (St.spl 0), (St.use 0), (St.use 1), (St.bck 0 [(0, (.v 2))])] := stpt (dsts_cons (d_spl 0) (dsts_cons (d_use 1) (dsts_cons (d_spl 0) (dsts_cons (d_use 0) (dsts_cons (d_use 1) (dsts_cons (d_bck 0 (d_bi (dpr_cons (dt_i 2) dpr_nil))) dsts_nil)))))) h3
  clear h3
  have t3 := t2.trans g3
  have L3 := g3 _ _ L2
  have C3 := C2.mono fun a zs z => g3 _ _ z
  clear L2 C2
  refine ⟨_, rfl, .inl ⟨rfl, _, .inl (.inl L3)⟩, cons1 (Lt.runE (.t (.cons (.t (.cons (.t (.cons (.t (.cons (.v 3) (.cons (.i 0) .nil))) .nil)) (.cons (.t (.cons (.v 1) (.cons (.i 0) .nil))) .nil))) (.cons (.v 5) .nil))) (tTup (tCons (tTup (tCons (tTup (tCons (tTup (tCons (tVar 3) (tCons (tC (.int 0)) tNil))) tNil)) (tCons (tTup (tCons (tVar 1) (tCons (tC (.int 0)) tNil))) tNil))) (tCons (tVar 5) tNil))) (by simp only [Lt.te, Lts.ta]) ⟨by decide, ⟨⟨by decide, ⟨⟨by decide, ⟨⟨by decide, ⟨⟨_, rfl⟩, ⟨trivial, trivial⟩⟩⟩, trivial⟩⟩, ⟨⟨by decide, ⟨⟨_, rfl⟩, ⟨trivial, trivial⟩⟩⟩, trivial⟩⟩⟩, ⟨⟨_, rfl⟩, trivial⟩⟩⟩ fun v4 G4 h4 g4 => ?_)⟩
  have D4 : ChAt G4 v4 (⟨(⟨[(⟨x3, [(.v 0)]⟩ : At)], (⟨x1, [(.v 0)]⟩ : At)⟩ : Sy), [(St.spl 0), (St.use 1), (St.spl 0), (St.use 0), (St.use 1), (St.bck 0 [(0, (.v 2))])]⟩ : Ch) := ch_lit (d_sy (dats_cons (d_at (k := 3) rfl (dts_cons (dt_i 0) dts_nil)) dats_nil) (d_at (k := 1) rfl (dts_cons (dt_i 0) dts_nil))) h4 fun u hu => (by have hu := Option.some.inj (Option.some.inj (show some (some _) = some (some u) from hu)); subst hu; exact P3.mono fun a zs z => g4 _ _ z)
  have o4 : ChOk (⟨(⟨[(⟨x3, [(.v 0)]⟩ : At)], (⟨x1, [(.v 0)]⟩ : At)⟩ : Sy), [(St.spl 0), (St.use 1), (St.spl 0), (St.use 0), (St.use 1), (St.bck 0 [(0, (.v 2))])]⟩ : Ch) := ⟨⟨AtsOk.mk (by simp) (by intro a ha; simp only [List.mem_cons, List.not_mem_nil, or_false] at ha; subst ha; exact (at_ok (x := x3) (ts := [(.v 0)]) n3 (by decide) (by decide) (by simp [Tm.small, Tm.nums, Tm.size]))), by simp, (at_ok (x := x1) (ts := [(.v 0)]) n1 (by decide) (by decide) (by simp [Tm.small, Tm.nums, Tm.size]))⟩, by intro st hst; simp only [List.mem_cons, List.not_mem_nil, or_false] at hst; rcases hst with rfl | rfl | rfl | rfl | rfl | rfl; exact (show 0 ≤ 1000 by decide); exact (show 1 ≤ 1000 by decide); exact (show 0 ≤ 1000 by decide); exact (show 0 ≤ 1000 by decide); exact (show 1 ≤ 1000 by decide); exact ⟨by decide, ⟨by simp, by simp [Tm.small, Tm.nums], by simp [Tm.size], by simp, by simp⟩⟩, by simp, by simp⟩
  clear h4
  have M4 := g4 _ _ L3
  refine ⟨l, _, _, rfl, rfl, M4, (by show 1 < sizeLine; decide), ?_⟩
  have C4 : ChsAt (upd G4 l (.lst ([v2] ++ [v4]))) ([v2] ++ [v4]) ([(⟨(⟨[(⟨x2, [(.v 0)]⟩ : At)], (⟨x1, [(.v 0)]⟩ : At)⟩ : Sy), [(St.spl 0), (St.use 0), (St.use 1), (St.spl 0), (St.use 1), (St.bck 0 [(0, (.v 2))])]⟩ : Ch)] ++ [(⟨(⟨[(⟨x3, [(.v 0)]⟩ : At)], (⟨x1, [(.v 0)]⟩ : At)⟩ : Sy), [(St.spl 0), (St.use 1), (St.spl 0), (St.use 0), (St.use 1), (St.bck 0 [(0, (.v 2))])]⟩ : Ch)]) := (C3.mono fun a zs z => keepU M4 _ _ (g4 _ _ z)).append ⟨chAt_mono (keepU M4) D4, trivial⟩
  have L4 : (upd G4 l (.lst ([v2] ++ [v4]))) l = some (.lst ([v2] ++ [v4])) := upd_same
  have t4 : Same H (upd G4 l (.lst ([v2] ++ [v4]))) := fun a o z => by
    rw [upd_ne (ne_of_none z l0)]
    exact g4 _ _ (t3 _ _ z)
  generalize upd G4 l (.lst ([v2] ++ [v4])) = I4 at C4 L4 t4 ⊢
  clear L3 C3 M4
  refine seq_asgL (Lt.runE (.t (.cons (.t (.cons (.s "split") (.cons (.i 0) .nil))) (.cons (.t (.cons (.s "use") (.cons (.i 0) .nil))) (.cons (.t (.cons (.s "use") (.cons (.i 1) .nil))) (.cons (.t (.cons (.s "back") (.cons (.i 0) (.cons (.t (.cons (.t (.cons (.i 0) (.cons (.i 1) .nil))) .nil)) .nil)))) .nil))))) (tTup (tCons (tTup (tCons (tC (.str "split")) (tCons (tC (.int 0)) tNil))) (tCons (tTup (tCons (tC (.str "use")) (tCons (tC (.int 0)) tNil))) (tCons (tTup (tCons (tC (.str "use")) (tCons (tC (.int 1)) tNil))) (tCons (tTup (tCons (tC (.str "back")) (tCons (tC (.int 0)) (tCons (tTup (tCons (tTup (tCons (tC (.int 0)) (tCons (tC (.int 1)) tNil))) tNil)) tNil)))) tNil))))) (by simp only [Lt.te, Lts.ta]) ⟨by decide, ⟨⟨by decide, ⟨trivial, ⟨trivial, trivial⟩⟩⟩, ⟨⟨by decide, ⟨trivial, ⟨trivial, trivial⟩⟩⟩, ⟨⟨by decide, ⟨trivial, ⟨trivial, trivial⟩⟩⟩, ⟨⟨by decide, ⟨trivial, ⟨trivial, ⟨⟨by decide, ⟨⟨by decide, ⟨trivial, ⟨trivial, trivial⟩⟩⟩, trivial⟩⟩, trivial⟩⟩⟩⟩, trivial⟩⟩⟩⟩⟩ fun v5 G5 h5 g5 => ?_)
  have P5 : StPt G5 v5 [(St.spl 0), (St.use 0), (St.use 1), (St.bck 0 [(0, (.v 1))])] := stpt (dsts_cons (d_spl 0) (dsts_cons (d_use 0) (dsts_cons (d_use 1) (dsts_cons (d_bck 0 (d_bi (dpr_cons (dt_i 1) dpr_nil))) dsts_nil)))) h5
  clear h5
  have t5 := t4.trans g5
  have L5 := g5 _ _ L4
  have C5 := C4.mono fun a zs z => g5 _ _ z
  clear L4 C4
  refine ⟨_, rfl, .inl ⟨rfl, _, .inl (.inl L5)⟩, cons1 (Lt.runE (.t (.cons (.t (.cons (.t (.cons (.t (.cons (.v 1) (.cons (.i 0) .nil))) .nil)) (.cons (.t (.cons (.v 4) (.cons (.i 0) (.cons (.t (.cons (.s "s") (.cons (.i 0) .nil))) .nil)))) .nil))) (.cons (.v 5) .nil))) (tTup (tCons (tTup (tCons (tTup (tCons (tTup (tCons (tVar 1) (tCons (tC (.int 0)) tNil))) tNil)) (tCons (tTup (tCons (tVar 4) (tCons (tC (.int 0)) (tCons (tTup (tCons (tC (.str "s")) (tCons (tC (.int 0)) tNil))) tNil)))) tNil))) (tCons (tVar 5) tNil))) (by simp only [Lt.te, Lts.ta]) ⟨by decide, ⟨⟨by decide, ⟨⟨by decide, ⟨⟨by decide, ⟨⟨_, rfl⟩, ⟨trivial, trivial⟩⟩⟩, trivial⟩⟩, ⟨⟨by decide, ⟨⟨_, rfl⟩, ⟨trivial, ⟨⟨by decide, ⟨trivial, ⟨trivial, trivial⟩⟩⟩, trivial⟩⟩⟩⟩, trivial⟩⟩⟩, ⟨⟨_, rfl⟩, trivial⟩⟩⟩ fun v6 G6 h6 g6 => ?_)⟩
  have D6 : ChAt G6 v6 (⟨(⟨[(⟨x1, [(.v 0)]⟩ : At)], (⟨x4, [(.v 0), (.s (.v 0))]⟩ : At)⟩ : Sy), [(St.spl 0), (St.use 0), (St.use 1), (St.bck 0 [(0, (.v 1))])]⟩ : Ch) := ch_lit (d_sy (dats_cons (d_at (k := 1) rfl (dts_cons (dt_i 0) dts_nil)) dats_nil) (d_at (k := 4) rfl (dts_cons (dt_i 0) (dts_cons (dt_s (dt_i 0)) dts_nil)))) h6 fun u hu => (by have hu := Option.some.inj (Option.some.inj (show some (some _) = some (some u) from hu)); subst hu; exact P5.mono fun a zs z => g6 _ _ z)
  have o6 : ChOk (⟨(⟨[(⟨x1, [(.v 0)]⟩ : At)], (⟨x4, [(.v 0), (.s (.v 0))]⟩ : At)⟩ : Sy), [(St.spl 0), (St.use 0), (St.use 1), (St.bck 0 [(0, (.v 1))])]⟩ : Ch) := ⟨⟨AtsOk.mk (by simp) (by intro a ha; simp only [List.mem_cons, List.not_mem_nil, or_false] at ha; subst ha; exact (at_ok (x := x1) (ts := [(.v 0)]) n1 (by decide) (by decide) (by simp [Tm.small, Tm.nums, Tm.size]))), by simp, (at_ok (x := x4) (ts := [(.v 0), (.s (.v 0))]) n4 (by decide) (by decide) (by simp [Tm.small, Tm.nums, Tm.size]))⟩, by intro st hst; simp only [List.mem_cons, List.not_mem_nil, or_false] at hst; rcases hst with rfl | rfl | rfl | rfl; exact (show 0 ≤ 1000 by decide); exact (show 0 ≤ 1000 by decide); exact (show 1 ≤ 1000 by decide); exact ⟨by decide, ⟨by simp, by simp [Tm.small, Tm.nums], by simp [Tm.size], by simp, by simp⟩⟩, by simp, by simp⟩
  clear h6
  have M6 := g6 _ _ L5
  refine ⟨l, _, _, rfl, rfl, M6, (by show 2 < sizeLine; decide), ?_⟩
  have C6 : ChsAt (upd G6 l (.lst (([v2] ++ [v4]) ++ [v6]))) (([v2] ++ [v4]) ++ [v6]) (([(⟨(⟨[(⟨x2, [(.v 0)]⟩ : At)], (⟨x1, [(.v 0)]⟩ : At)⟩ : Sy), [(St.spl 0), (St.use 0), (St.use 1), (St.spl 0), (St.use 1), (St.bck 0 [(0, (.v 2))])]⟩ : Ch)] ++ [(⟨(⟨[(⟨x3, [(.v 0)]⟩ : At)], (⟨x1, [(.v 0)]⟩ : At)⟩ : Sy), [(St.spl 0), (St.use 1), (St.spl 0), (St.use 0), (St.use 1), (St.bck 0 [(0, (.v 2))])]⟩ : Ch)]) ++ [(⟨(⟨[(⟨x1, [(.v 0)]⟩ : At)], (⟨x4, [(.v 0), (.s (.v 0))]⟩ : At)⟩ : Sy), [(St.spl 0), (St.use 0), (St.use 1), (St.bck 0 [(0, (.v 1))])]⟩ : Ch)]) := (C5.mono fun a zs z => keepU M6 _ _ (g6 _ _ z)).append ⟨chAt_mono (keepU M6) D6, trivial⟩
  have L6 : (upd G6 l (.lst (([v2] ++ [v4]) ++ [v6]))) l = some (.lst (([v2] ++ [v4]) ++ [v6])) := upd_same
  have t6 : Same H (upd G6 l (.lst (([v2] ++ [v4]) ++ [v6]))) := fun a o z => by
    rw [upd_ne (ne_of_none z l0)]
    exact g6 _ _ (t5 _ _ z)
  generalize upd G6 l (.lst (([v2] ++ [v4]) ++ [v6])) = I6 at C6 L6 t6 ⊢
  clear L5 C5 M6
  refine seq_asgL (Lt.runE (.t (.cons (.t (.cons (.s "split") (.cons (.i 0) .nil))) (.cons (.t (.cons (.s "by") .nil)) (.cons (.t (.cons (.s "split") (.cons (.i 1) .nil))) (.cons (.t (.cons (.s "back") (.cons (.i 0) (.cons (.t (.cons (.t (.cons (.i 0) (.cons (.i 1) .nil))) .nil)) .nil)))) .nil))))) (tTup (tCons (tTup (tCons (tC (.str "split")) (tCons (tC (.int 0)) tNil))) (tCons (tTup (tCons (tC (.str "by")) tNil)) (tCons (tTup (tCons (tC (.str "split")) (tCons (tC (.int 1)) tNil))) (tCons (tTup (tCons (tC (.str "back")) (tCons (tC (.int 0)) (tCons (tTup (tCons (tTup (tCons (tC (.int 0)) (tCons (tC (.int 1)) tNil))) tNil)) tNil)))) tNil))))) (by simp only [Lt.te, Lts.ta]) ⟨by decide, ⟨⟨by decide, ⟨trivial, ⟨trivial, trivial⟩⟩⟩, ⟨⟨by decide, ⟨trivial, trivial⟩⟩, ⟨⟨by decide, ⟨trivial, ⟨trivial, trivial⟩⟩⟩, ⟨⟨by decide, ⟨trivial, ⟨trivial, ⟨⟨by decide, ⟨⟨by decide, ⟨trivial, ⟨trivial, trivial⟩⟩⟩, trivial⟩⟩, trivial⟩⟩⟩⟩, trivial⟩⟩⟩⟩⟩ fun v7 G7 h7 g7 => ?_)
  have P7 : StPt G7 v7 [(St.spl 0), St.by_, (St.spl 1), (St.bck 0 [(0, (.v 1))])] := stpt (dsts_cons (d_spl 0) (dsts_cons d_by (dsts_cons (d_spl 1) (dsts_cons (d_bck 0 (d_bi (dpr_cons (dt_i 1) dpr_nil))) dsts_nil)))) h7
  clear h7
  have t7 := t6.trans g7
  have L7 := g7 _ _ L6
  have C7 := C6.mono fun a zs z => g7 _ _ z
  clear L6 C6
  refine ret_cat1 rfl (Lt.runE (.t (.cons (.t (.cons (.t (.cons (.t (.cons (.v 2) (.cons (.i 0) .nil))) (.cons (.t (.cons (.v 3) (.cons (.i 0) .nil))) .nil))) (.cons (.t (.cons (.v 3) (.cons (.t (.cons (.s "0") .nil)) .nil))) .nil))) (.cons (.v 5) .nil))) (tTup (tCons (tTup (tCons (tTup (tCons (tTup (tCons (tVar 2) (tCons (tC (.int 0)) tNil))) (tCons (tTup (tCons (tVar 3) (tCons (tC (.int 0)) tNil))) tNil))) (tCons (tTup (tCons (tVar 3) (tCons (tTup (tCons (tC (.str "0")) tNil)) tNil))) tNil))) (tCons (tVar 5) tNil))) (by simp only [Lt.te, Lts.ta]) ⟨by decide, ⟨⟨by decide, ⟨⟨by decide, ⟨⟨by decide, ⟨⟨_, rfl⟩, ⟨trivial, trivial⟩⟩⟩, ⟨⟨by decide, ⟨⟨_, rfl⟩, ⟨trivial, trivial⟩⟩⟩, trivial⟩⟩⟩, ⟨⟨by decide, ⟨⟨_, rfl⟩, ⟨⟨by decide, ⟨trivial, trivial⟩⟩, trivial⟩⟩⟩, trivial⟩⟩⟩, ⟨⟨_, rfl⟩, trivial⟩⟩⟩ fun v8 G8 h8 g8 => ?_)
  have D8 : ChAt G8 v8 (⟨(⟨[(⟨x2, [(.v 0)]⟩ : At), (⟨x3, [(.v 0)]⟩ : At)], (⟨x3, [.z]⟩ : At)⟩ : Sy), [(St.spl 0), St.by_, (St.spl 1), (St.bck 0 [(0, (.v 1))])]⟩ : Ch) := ch_lit (d_sy (dats_cons (d_at (k := 2) rfl (dts_cons (dt_i 0) dts_nil)) (dats_cons (d_at (k := 3) rfl (dts_cons (dt_i 0) dts_nil)) dats_nil)) (d_at (k := 3) rfl (dts_cons dt_z dts_nil))) h8 fun u hu => (by have hu := Option.some.inj (Option.some.inj (show some (some _) = some (some u) from hu)); subst hu; exact P7.mono fun a zs z => g8 _ _ z)
  have o8 : ChOk (⟨(⟨[(⟨x2, [(.v 0)]⟩ : At), (⟨x3, [(.v 0)]⟩ : At)], (⟨x3, [.z]⟩ : At)⟩ : Sy), [(St.spl 0), St.by_, (St.spl 1), (St.bck 0 [(0, (.v 1))])]⟩ : Ch) := ⟨⟨AtsOk.mk (by simp) (by intro a ha; simp only [List.mem_cons, List.not_mem_nil, or_false] at ha; rcases ha with rfl | rfl; exact (at_ok (x := x2) (ts := [(.v 0)]) n2 (by decide) (by decide) (by simp [Tm.small, Tm.nums, Tm.size])); exact (at_ok (x := x3) (ts := [(.v 0)]) n3 (by decide) (by decide) (by simp [Tm.small, Tm.nums, Tm.size]))), by simp [At.mk.injEq, n23], (at_ok (x := x3) (ts := [.z]) n3 (by decide) (by decide) (by simp [Tm.small, Tm.nums, Tm.size]))⟩, by intro st hst; simp only [List.mem_cons, List.not_mem_nil, or_false] at hst; rcases hst with rfl | rfl | rfl | rfl; exact (show 0 ≤ 1000 by decide); exact trivial; exact (show 1 ≤ 1000 by decide); exact ⟨by decide, ⟨by simp, by simp [Tm.small, Tm.nums], by simp [Tm.size], by simp, by simp⟩⟩, by simp, by simp⟩
  clear h8
  have M8 := g8 _ _ L7
  refine ⟨(by show 1 ≤ sizeLine; decide), fun m hm => ?_⟩
  have b8 := same_new hm (.lst [v8])
  refine ⟨l, m, _, _, rfl, rfl, b8 _ _ M8, upd_same, (by show 4 ≤ sizeLine; decide), fun r hr0 => ?_⟩
  have c8 := same_new hr0 (.lst ((([v2] ++ [v4]) ++ [v6]) ++ [v8]))
  refine q r _ ((([(⟨(⟨[(⟨x2, [(.v 0)]⟩ : At)], (⟨x1, [(.v 0)]⟩ : At)⟩ : Sy), [(St.spl 0), (St.use 0), (St.use 1), (St.spl 0), (St.use 1), (St.bck 0 [(0, (.v 2))])]⟩ : Ch)] ++ [(⟨(⟨[(⟨x3, [(.v 0)]⟩ : At)], (⟨x1, [(.v 0)]⟩ : At)⟩ : Sy), [(St.spl 0), (St.use 1), (St.spl 0), (St.use 0), (St.use 1), (St.bck 0 [(0, (.v 2))])]⟩ : Ch)]) ++ [(⟨(⟨[(⟨x1, [(.v 0)]⟩ : At)], (⟨x4, [(.v 0), (.s (.v 0))]⟩ : At)⟩ : Sy), [(St.spl 0), (St.use 0), (St.use 1), (St.bck 0 [(0, (.v 1))])]⟩ : Ch)]) ++ [(⟨(⟨[(⟨x2, [(.v 0)]⟩ : At), (⟨x3, [(.v 0)]⟩ : At)], (⟨x3, [.z]⟩ : At)⟩ : Sy), [(St.spl 0), St.by_, (St.spl 1), (St.bck 0 [(0, (.v 1))])]⟩ : Ch)]) _ upd_same ?_ ?_ (by simp) (by simp) (t7.trans (g8.trans (b8.trans c8)))
  · exact (C7.mono fun a zs z => c8 _ _ (b8 _ _ (g8 _ _ z))).append ⟨(D8.same b8).same c8, trivial⟩
  · intro c hc
    simp only [List.cons_append, List.nil_append, List.mem_cons, List.not_mem_nil, or_false] at hc
    rcases hc with rfl | rfl | rfl | rfl
    · exact o2
    · exact o4
    · exact o6
    · exact o8
theorem scsBad : FnScope ["_law_names_here", "_law_nat", "_law_even", "_law_odd", "_law_less", "_law_found", "_law_steps"] ["_law_names_here"] (defScope sBad) := ⟨rfl, rfl, rfl, by decide +kernel, rfl, by decide +kernel, by decide +kernel⟩
theorem ok_bad {f : Addr} {fd : FuncData} (F : Fun K "_law_bad_charts" "_law_bad_charts" sBad f fd) : FnOk P w K mg base CX0 1 f fd ["_law_names_here"] spCharts := by
  refine F.ok scsBad (fun vs H Q E h => ?_) (fun cdv A outer s H vs Q E hr h => ?_)
  · obtain ⟨p, x1, x2, x3, x4, rfl, _⟩ := h
    rfl
  obtain ⟨p, x1, x2, x3, x4, rfl, hp, n1, n2, n3, n4, n23, q⟩ := h
  refine ⟨_, pss_cons (ps_asg (pe_slice sl_list (pv 0) po_none (po_some pe_int)) (pg_unl rfl (pgs_cons (pg_name (i := 1) scsBad.nd rfl (Or.inl rfl)) (pgs_cons (pg_name (i := 2) scsBad.nd rfl (Or.inl rfl)) (pgs_cons (pg_name (i := 3) scsBad.nd rfl (Or.inl rfl)) (pgs_cons (pg_name (i := 4) scsBad.nd rfl (Or.inl rfl)) pgs_nil))))))
    (pss_cons (ps_set (i := 5) scsBad.nd rfl (Or.inl rfl) (pe_lst (pa_cons (pe_tup (pa_cons (pe_tup (pa_cons (pe_tup (pa_cons (pe_tup (pa_cons (pv 1) (pa_cons pe_int pa_nil))) pa_nil)) (pa_cons (pe_tup (pa_cons (pv 2) (pa_cons pe_int pa_nil))) pa_nil))) (pa_cons (pe_tup (pa_cons (pe_tup (pa_cons pe_str (pa_cons pe_int (pa_cons (pe_tup (pa_cons (pe_tup (pa_cons pe_int (pa_cons pe_int pa_nil))) pa_nil)) pa_nil)))) pa_nil)) pa_nil))) pa_nil)))
    (pss_cons (ps_expr (pe_bm PySem.F.plainAttrs_list PySem.F.slot_list_append PySem.F.type_list_append mt_append (pv 5) (pa_cons (pe_tup (pa_cons (pe_tup (pa_cons (pe_tup (pa_cons (pe_tup (pa_cons (pv 1) (pa_cons pe_int pa_nil))) pa_nil)) (pa_cons (pe_tup (pa_cons (pv 4) (pa_cons pe_int (pa_cons pe_int pa_nil)))) pa_nil))) (pa_cons (pe_tup (pa_cons (pe_tup (pa_cons pe_str (pa_cons (pe_tup (pa_cons (pv 4) (pa_cons pe_int (pa_cons pe_int pa_nil)))) pa_nil))) (pa_cons (pe_tup (pa_cons pe_str (pa_cons pe_int (pa_cons (pe_tup (pa_cons (pe_tup (pa_cons pe_int (pa_cons pe_int pa_nil))) pa_nil)) pa_nil)))) (pa_cons (pe_tup (pa_cons pe_str pa_nil)) pa_nil)))) pa_nil))) pa_nil)))
    (pss_cons (ps_set (i := 6) scsBad.nd rfl (Or.inl rfl) (pe_tup (pa_cons (pe_tup (pa_cons pe_str (pa_cons pe_int pa_nil))) (pa_cons (pe_tup (pa_cons pe_str (pa_cons (pe_tup (pa_cons (pe_tup pa_nil) (pa_cons (pe_tup (pa_cons (pv 1) (pa_cons pe_int pa_nil))) pa_nil))) (pa_cons (pe_tup (pa_cons (pe_tup (pa_cons pe_int (pa_cons pe_int pa_nil))) pa_nil)) pa_nil)))) (pa_cons (pe_tup (pa_cons pe_str (pa_cons (pe_tup (pa_cons (pv 1) (pa_cons pe_int pa_nil))) pa_nil))) (pa_cons (pe_tup (pa_cons pe_str (pa_cons pe_int (pa_cons (pe_tup (pa_cons (pe_tup (pa_cons pe_int (pa_cons pe_int pa_nil))) pa_nil)) pa_nil)))) (pa_cons (pe_tup (pa_cons pe_str pa_nil)) pa_nil)))))))
    (pss_one (ps_ret (pe_op op_cat (pv 5) (pe_lst (pa_cons (pe_tup (pa_cons (pe_tup (pa_cons (pe_tup pa_nil) (pa_cons (pe_tup (pa_cons (pv 1) (pa_cons (pe_tup (pa_cons pe_str (pa_cons pe_int pa_nil))) pa_nil))) pa_nil))) (pa_cons (pv 6) pa_nil))) pa_nil)))))))), ?_⟩
  have big : (2000000 : Nat) ≤ sizeLine := by decide
  refine ⟨_, rfl, 4, rfl, p, _, rfl, .inl (.inl hp), fun g0 hg0 => ?_⟩
  rw [show (4 : Int) = ((4 : Nat) : Int) from rfl, cut_to]
  refine ⟨g0, _, rfl, .inl (.inl upd_same), rfl, ?_⟩
  have s0 := same_new hg0 (.lst ([V.str x1, .str x2, .str x3, .str x4].take 4))
  generalize upd H g0 (.lst ([V.str x1, .str x2, .str x3, .str x4].take 4)) = G0 at s0 ⊢
  refine ⟨_, _, rfl, _, _, rfl, _, _, rfl, _, _, rfl, rfl, ?_⟩
  refine seq_asgL (lst1 (Lt.runE (.t (.cons (.t (.cons (.t (.cons (.t (.cons (.v 1) (.cons (.i 0) .nil))) .nil)) (.cons (.t (.cons (.v 2) (.cons (.i 0) .nil))) .nil))) (.cons (.t (.cons (.t (.cons (.s "back") (.cons (.i 0) (.cons (.t (.cons (.t (.cons (.i 0) (.cons (.i 0) .nil))) .nil)) .nil)))) .nil)) .nil))) (tTup (tCons (tTup (tCons (tTup (tCons (tTup (tCons (tVar 1) (tCons (tC (.int 0)) tNil))) tNil)) (tCons (tTup (tCons (tVar 2) (tCons (tC (.int 0)) tNil))) tNil))) (tCons (tTup (tCons (tTup (tCons (tC (.str "back")) (tCons (tC (.int 0)) (tCons (tTup (tCons (tTup (tCons (tC (.int 0)) (tCons (tC (.int 0)) tNil))) tNil)) tNil)))) tNil)) tNil))) (by simp only [Lt.te, Lts.ta]) ⟨by decide, ⟨⟨by decide, ⟨⟨by decide, ⟨⟨by decide, ⟨⟨_, rfl⟩, ⟨trivial, trivial⟩⟩⟩, trivial⟩⟩, ⟨⟨by decide, ⟨⟨_, rfl⟩, ⟨trivial, trivial⟩⟩⟩, trivial⟩⟩⟩, ⟨⟨by decide, ⟨⟨by decide, ⟨trivial, ⟨trivial, ⟨⟨by decide, ⟨⟨by decide, ⟨trivial, ⟨trivial, trivial⟩⟩⟩, trivial⟩⟩, trivial⟩⟩⟩⟩, trivial⟩⟩, trivial⟩⟩⟩ fun v1 G1 h1 g1 => ?_))
  have D1 : ChAt G1 v1 (⟨(⟨[(⟨x1, [(.v 0)]⟩ : At)], (⟨x2, [(.v 0)]⟩ : At)⟩ : Sy), [(St.bck 0 [(0, (.v 0))])]⟩ : Ch) := ch_lit (d_sy (dats_cons (d_at (k := 1) rfl (dts_cons (dt_i 0) dts_nil)) dats_nil) (d_at (k := 2) rfl (dts_cons (dt_i 0) dts_nil))) h1 fun u hu => stpt (dsts_cons (d_bck 0 (d_bi (dpr_cons (dt_i 0) dpr_nil))) dsts_nil) hu
  have o1 : ChOk (⟨(⟨[(⟨x1, [(.v 0)]⟩ : At)], (⟨x2, [(.v 0)]⟩ : At)⟩ : Sy), [(St.bck 0 [(0, (.v 0))])]⟩ : Ch) := ⟨⟨AtsOk.mk (by simp) (by intro a ha; simp only [List.mem_cons, List.not_mem_nil, or_false] at ha; subst ha; exact (at_ok (x := x1) (ts := [(.v 0)]) n1 (by decide) (by decide) (by simp [Tm.small, Tm.nums, Tm.size]))), by simp, (at_ok (x := x2) (ts := [(.v 0)]) n2 (by decide) (by decide) (by simp [Tm.small, Tm.nums, Tm.size]))⟩, by intro st hst; simp only [List.mem_cons, List.not_mem_nil, or_false] at hst; subst hst; exact ⟨by decide, ⟨by simp, by simp [Tm.small, Tm.nums], by simp [Tm.size], by simp, by simp⟩⟩, by simp, by simp⟩
  clear h1
  refine ⟨(by show 1 ≤ sizeLine; decide), fun l hl => ?_⟩
  have b1 := same_new hl (.lst [v1])
  have L1 : (upd G1 l (.lst [v1])) l = some (.lst [v1]) := upd_same
  have C1 : ChsAt (upd G1 l (.lst [v1])) [v1] [(⟨(⟨[(⟨x1, [(.v 0)]⟩ : At)], (⟨x2, [(.v 0)]⟩ : At)⟩ : Sy), [(St.bck 0 [(0, (.v 0))])]⟩ : Ch)] := ⟨D1.same b1, trivial⟩
  have l0 : H l = none := by
    cases e : H l with
    | none => rfl
    | some u => have := g1 _ _ (s0 _ _ e); rw [hl] at this; cases this
  have t1 := s0.trans (g1.trans b1)
  generalize upd G1 l (.lst [v1]) = I1 at b1 L1 C1 t1 ⊢
  refine ⟨_, rfl, .inl ⟨rfl, _, .inl (.inl L1)⟩, cons1 (Lt.runE (.t (.cons (.t (.cons (.t (.cons (.t (.cons (.v 1) (.cons (.i 0) .nil))) .nil)) (.cons (.t (.cons (.v 4) (.cons (.i 0) (.cons (.i 0) .nil)))) .nil))) (.cons (.t (.cons (.t (.cons (.s "cut") (.cons (.t (.cons (.v 4) (.cons (.i 0) (.cons (.i 0) .nil)))) .nil))) (.cons (.t (.cons (.s "back") (.cons (.i 0) (.cons (.t (.cons (.t (.cons (.i 0) (.cons (.i 0) .nil))) .nil)) .nil)))) (.cons (.t (.cons (.s "by") .nil)) .nil)))) .nil))) (tTup (tCons (tTup (tCons (tTup (tCons (tTup (tCons (tVar 1) (tCons (tC (.int 0)) tNil))) tNil)) (tCons (tTup (tCons (tVar 4) (tCons (tC (.int 0)) (tCons (tC (.int 0)) tNil)))) tNil))) (tCons (tTup (tCons (tTup (tCons (tC (.str "cut")) (tCons (tTup (tCons (tVar 4) (tCons (tC (.int 0)) (tCons (tC (.int 0)) tNil)))) tNil))) (tCons (tTup (tCons (tC (.str "back")) (tCons (tC (.int 0)) (tCons (tTup (tCons (tTup (tCons (tC (.int 0)) (tCons (tC (.int 0)) tNil))) tNil)) tNil)))) (tCons (tTup (tCons (tC (.str "by")) tNil)) tNil)))) tNil))) (by simp only [Lt.te, Lts.ta]) ⟨by decide, ⟨⟨by decide, ⟨⟨by decide, ⟨⟨by decide, ⟨⟨_, rfl⟩, ⟨trivial, trivial⟩⟩⟩, trivial⟩⟩, ⟨⟨by decide, ⟨⟨_, rfl⟩, ⟨trivial, ⟨trivial, trivial⟩⟩⟩⟩, trivial⟩⟩⟩, ⟨⟨by decide, ⟨⟨by decide, ⟨trivial, ⟨⟨by decide, ⟨⟨_, rfl⟩, ⟨trivial, ⟨trivial, trivial⟩⟩⟩⟩, trivial⟩⟩⟩, ⟨⟨by decide, ⟨trivial, ⟨trivial, ⟨⟨by decide, ⟨⟨by decide, ⟨trivial, ⟨trivial, trivial⟩⟩⟩, trivial⟩⟩, trivial⟩⟩⟩⟩, ⟨⟨by decide, ⟨trivial, trivial⟩⟩, trivial⟩⟩⟩⟩, trivial⟩⟩⟩ fun v2 G2 h2 g2 => ?_)⟩
  have D2 : ChAt G2 v2 (⟨(⟨[(⟨x1, [(.v 0)]⟩ : At)], (⟨x4, [(.v 0), (.v 0)]⟩ : At)⟩ : Sy), [(St.cut (⟨x4, [(.v 0), (.v 0)]⟩ : At)), (St.bck 0 [(0, (.v 0))]), St.by_]⟩ : Ch) := ch_lit (d_sy (dats_cons (d_at (k := 1) rfl (dts_cons (dt_i 0) dts_nil)) dats_nil) (d_at (k := 4) rfl (dts_cons (dt_i 0) (dts_cons (dt_i 0) dts_nil)))) h2 fun u hu => stpt (dsts_cons (d_cut (d_at (k := 4) rfl (dts_cons (dt_i 0) (dts_cons (dt_i 0) dts_nil)))) (dsts_cons (d_bck 0 (d_bi (dpr_cons (dt_i 0) dpr_nil))) (dsts_cons d_by dsts_nil))) hu
  have o2 : ChOk (⟨(⟨[(⟨x1, [(.v 0)]⟩ : At)], (⟨x4, [(.v 0), (.v 0)]⟩ : At)⟩ : Sy), [(St.cut (⟨x4, [(.v 0), (.v 0)]⟩ : At)), (St.bck 0 [(0, (.v 0))]), St.by_]⟩ : Ch) := ⟨⟨AtsOk.mk (by simp) (by intro a ha; simp only [List.mem_cons, List.not_mem_nil, or_false] at ha; subst ha; exact (at_ok (x := x1) (ts := [(.v 0)]) n1 (by decide) (by decide) (by simp [Tm.small, Tm.nums, Tm.size]))), by simp, (at_ok (x := x4) (ts := [(.v 0), (.v 0)]) n4 (by decide) (by decide) (by simp [Tm.small, Tm.nums, Tm.size]))⟩, by intro st hst; simp only [List.mem_cons, List.not_mem_nil, or_false] at hst; rcases hst with rfl | rfl | rfl; exact (at_ok (x := x4) (ts := [(.v 0), (.v 0)]) n4 (by decide) (by decide) (by simp [Tm.small, Tm.nums, Tm.size])); exact ⟨by decide, ⟨by simp, by simp [Tm.small, Tm.nums], by simp [Tm.size], by simp, by simp⟩⟩; exact trivial, by simp, by simp⟩
  clear h2
  have M2 := g2 _ _ L1
  refine ⟨l, _, _, rfl, rfl, M2, (by show 1 < sizeLine; decide), ?_⟩
  have C2 : ChsAt (upd G2 l (.lst ([v1] ++ [v2]))) ([v1] ++ [v2]) ([(⟨(⟨[(⟨x1, [(.v 0)]⟩ : At)], (⟨x2, [(.v 0)]⟩ : At)⟩ : Sy), [(St.bck 0 [(0, (.v 0))])]⟩ : Ch)] ++ [(⟨(⟨[(⟨x1, [(.v 0)]⟩ : At)], (⟨x4, [(.v 0), (.v 0)]⟩ : At)⟩ : Sy), [(St.cut (⟨x4, [(.v 0), (.v 0)]⟩ : At)), (St.bck 0 [(0, (.v 0))]), St.by_]⟩ : Ch)]) := (C1.mono fun a zs z => keepU M2 _ _ (g2 _ _ z)).append ⟨chAt_mono (keepU M2) D2, trivial⟩
  have L2 : (upd G2 l (.lst ([v1] ++ [v2]))) l = some (.lst ([v1] ++ [v2])) := upd_same
  have t2 : Same H (upd G2 l (.lst ([v1] ++ [v2]))) := fun a o z => by
    rw [upd_ne (ne_of_none z l0)]
    exact g2 _ _ (t1 _ _ z)
  generalize upd G2 l (.lst ([v1] ++ [v2])) = I2 at C2 L2 t2 ⊢
  clear L1 C1 M2
  refine seq_asgL (Lt.runE (.t (.cons (.t (.cons (.s "use") (.cons (.i 1) .nil))) (.cons (.t (.cons (.s "as") (.cons (.t (.cons (.t .nil) (.cons (.t (.cons (.v 1) (.cons (.i 0) .nil))) .nil))) (.cons (.t (.cons (.t (.cons (.i 0) (.cons (.i 0) .nil))) .nil)) .nil)))) (.cons (.t (.cons (.s "cut") (.cons (.t (.cons (.v 1) (.cons (.i 0) .nil))) .nil))) (.cons (.t (.cons (.s "back") (.cons (.i 2) (.cons (.t (.cons (.t (.cons (.i 0) (.cons (.i 0) .nil))) .nil)) .nil)))) (.cons (.t (.cons (.s "by") .nil)) .nil)))))) (tTup (tCons (tTup (tCons (tC (.str "use")) (tCons (tC (.int 1)) tNil))) (tCons (tTup (tCons (tC (.str "as")) (tCons (tTup (tCons (tTup tNil) (tCons (tTup (tCons (tVar 1) (tCons (tC (.int 0)) tNil))) tNil))) (tCons (tTup (tCons (tTup (tCons (tC (.int 0)) (tCons (tC (.int 0)) tNil))) tNil)) tNil)))) (tCons (tTup (tCons (tC (.str "cut")) (tCons (tTup (tCons (tVar 1) (tCons (tC (.int 0)) tNil))) tNil))) (tCons (tTup (tCons (tC (.str "back")) (tCons (tC (.int 2)) (tCons (tTup (tCons (tTup (tCons (tC (.int 0)) (tCons (tC (.int 0)) tNil))) tNil)) tNil)))) (tCons (tTup (tCons (tC (.str "by")) tNil)) tNil)))))) (by simp only [Lt.te, Lts.ta]) ⟨by decide, ⟨⟨by decide, ⟨trivial, ⟨trivial, trivial⟩⟩⟩, ⟨⟨by decide, ⟨trivial, ⟨⟨by decide, ⟨⟨by decide, trivial⟩, ⟨⟨by decide, ⟨⟨_, rfl⟩, ⟨trivial, trivial⟩⟩⟩, trivial⟩⟩⟩, ⟨⟨by decide, ⟨⟨by decide, ⟨trivial, ⟨trivial, trivial⟩⟩⟩, trivial⟩⟩, trivial⟩⟩⟩⟩, ⟨⟨by decide, ⟨trivial, ⟨⟨by decide, ⟨⟨_, rfl⟩, ⟨trivial, trivial⟩⟩⟩, trivial⟩⟩⟩, ⟨⟨by decide, ⟨trivial, ⟨trivial, ⟨⟨by decide, ⟨⟨by decide, ⟨trivial, ⟨trivial, trivial⟩⟩⟩, trivial⟩⟩, trivial⟩⟩⟩⟩, ⟨⟨by decide, ⟨trivial, trivial⟩⟩, trivial⟩⟩⟩⟩⟩⟩ fun v3 G3 h3 g3 => ?_)
  have P3 : StPt G3 v3 [(St.use 1), (St.asy (⟨[], (⟨x1, [(.v 0)]⟩ : At)⟩ : Sy) [(0, (.v 0))]), (St.cut (⟨x1, [(.v 0)]⟩ : At)), (St.bck 2 [(0, (.v 0))]), St.by_] := stpt (dsts_cons (d_use 1) (dsts_cons (d_as (d_sy dats_nil (d_at (k := 1) rfl (dts_cons (dt_i 0) dts_nil))) (d_bi (dpr_cons (dt_i 0) dpr_nil))) (dsts_cons (d_cut (d_at (k := 1) rfl (dts_cons (dt_i 0) dts_nil))) (dsts_cons (d_bck 2 (d_bi (dpr_cons (dt_i 0) dpr_nil))) (dsts_cons d_by dsts_nil))))) h3
  clear h3
  have t3 := t2.trans g3
  have L3 := g3 _ _ L2
  have C3 := C2.mono fun a zs z => g3 _ _ z
  clear L2 C2
  refine ret_cat1 rfl (Lt.runE (.t (.cons (.t (.cons (.t .nil) (.cons (.t (.cons (.v 1) (.cons (.t (.cons (.s "s") (.cons (.i 0) .nil))) .nil))) .nil))) (.cons (.v 6) .nil))) (tTup (tCons (tTup (tCons (tTup tNil) (tCons (tTup (tCons (tVar 1) (tCons (tTup (tCons (tC (.str "s")) (tCons (tC (.int 0)) tNil))) tNil))) tNil))) (tCons (tVar 6) tNil))) (by simp only [Lt.te, Lts.ta]) ⟨by decide, ⟨⟨by decide, ⟨⟨by decide, trivial⟩, ⟨⟨by decide, ⟨⟨_, rfl⟩, ⟨⟨by decide, ⟨trivial, ⟨trivial, trivial⟩⟩⟩, trivial⟩⟩⟩, trivial⟩⟩⟩, ⟨⟨_, rfl⟩, trivial⟩⟩⟩ fun v4 G4 h4 g4 => ?_)
  have D4 : ChAt G4 v4 (⟨(⟨[], (⟨x1, [(.s (.v 0))]⟩ : At)⟩ : Sy), [(St.use 1), (St.asy (⟨[], (⟨x1, [(.v 0)]⟩ : At)⟩ : Sy) [(0, (.v 0))]), (St.cut (⟨x1, [(.v 0)]⟩ : At)), (St.bck 2 [(0, (.v 0))]), St.by_]⟩ : Ch) := ch_lit (d_sy dats_nil (d_at (k := 1) rfl (dts_cons (dt_s (dt_i 0)) dts_nil))) h4 fun u hu => (by have hu := Option.some.inj (Option.some.inj (show some (some _) = some (some u) from hu)); subst hu; exact P3.mono fun a zs z => g4 _ _ z)
  have o4 : ChOk (⟨(⟨[], (⟨x1, [(.s (.v 0))]⟩ : At)⟩ : Sy), [(St.use 1), (St.asy (⟨[], (⟨x1, [(.v 0)]⟩ : At)⟩ : Sy) [(0, (.v 0))]), (St.cut (⟨x1, [(.v 0)]⟩ : At)), (St.bck 2 [(0, (.v 0))]), St.by_]⟩ : Ch) := ⟨⟨AtsOk.mk (by simp) (by intro a ha; cases ha), by simp, (at_ok (x := x1) (ts := [(.s (.v 0))]) n1 (by decide) (by decide) (by simp [Tm.small, Tm.nums, Tm.size]))⟩, by intro st hst; simp only [List.mem_cons, List.not_mem_nil, or_false] at hst; rcases hst with rfl | rfl | rfl | rfl | rfl; exact (show 1 ≤ 1000 by decide); exact ⟨⟨⟨AtsOk.mk (by simp) (by intro a ha; cases ha), by simp, (at_ok (x := x1) (ts := [(.v 0)]) n1 (by decide) (by decide) (by simp [Tm.small, Tm.nums, Tm.size]))⟩, by simp⟩, ⟨by simp, by simp [Tm.small, Tm.nums], by simp [Tm.size], by simp, by simp⟩⟩; exact (at_ok (x := x1) (ts := [(.v 0)]) n1 (by decide) (by decide) (by simp [Tm.small, Tm.nums, Tm.size])); exact ⟨by decide, ⟨by simp, by simp [Tm.small, Tm.nums], by simp [Tm.size], by simp, by simp⟩⟩; exact trivial, by simp, by simp⟩
  clear h4
  have M4 := g4 _ _ L3
  refine ⟨(by show 1 ≤ sizeLine; decide), fun m hm => ?_⟩
  have b4 := same_new hm (.lst [v4])
  refine ⟨l, m, _, _, rfl, rfl, b4 _ _ M4, upd_same, (by show 3 ≤ sizeLine; decide), fun r hr0 => ?_⟩
  have c4 := same_new hr0 (.lst (([v1] ++ [v2]) ++ [v4]))
  refine q r _ (([(⟨(⟨[(⟨x1, [(.v 0)]⟩ : At)], (⟨x2, [(.v 0)]⟩ : At)⟩ : Sy), [(St.bck 0 [(0, (.v 0))])]⟩ : Ch)] ++ [(⟨(⟨[(⟨x1, [(.v 0)]⟩ : At)], (⟨x4, [(.v 0), (.v 0)]⟩ : At)⟩ : Sy), [(St.cut (⟨x4, [(.v 0), (.v 0)]⟩ : At)), (St.bck 0 [(0, (.v 0))]), St.by_]⟩ : Ch)]) ++ [(⟨(⟨[], (⟨x1, [(.s (.v 0))]⟩ : At)⟩ : Sy), [(St.use 1), (St.asy (⟨[], (⟨x1, [(.v 0)]⟩ : At)⟩ : Sy) [(0, (.v 0))]), (St.cut (⟨x1, [(.v 0)]⟩ : At)), (St.bck 2 [(0, (.v 0))]), St.by_]⟩ : Ch)]) _ upd_same ?_ ?_ (by simp) (by simp) (t3.trans (g4.trans (b4.trans c4)))
  · exact (C3.mono fun a zs z => c4 _ _ (b4 _ _ (g4 _ _ z))).append ⟨(D4.same b4).same c4, trivial⟩
  · intro c hc
    simp only [List.cons_append, List.nil_append, List.mem_cons, List.not_mem_nil, or_false] at hc
    rcases hc with rfl | rfl | rfl
    · exact o1
    · exact o2
    · exact o4
end
end Rp

/-! Sets of texts: a text put in, a comprehension that makes one, set(list of texts), sorted(set of texts). -/
namespace Rp
open PySem PySem.Spec PyProof.Rows L2 PpSet
/-- the text of an entry -/
def kx (e : Int × Value) : Str := match e.2 with | .str x _ => x | _ => ""
def TxE (w : World) (e : Int × Value) : Prop := ∃ (x : Str) (tk : Tok), e.2 = Value.str x tk ∧ e.1 = hashStr w x
/-- how a table of texts stands: what it holds, and that it may be walked -/
structure Tab (w : World) (es : Array (Int × Value)) (t : SetTable) (S : Str → Bool) (n : Nat) : Prop where
  tx : ∀ e ∈ es.toList, TxE w e
  nd : (es.toList.map kx).Nodup
  mem : ∀ x, S x = true ↔ x ∈ es.toList.map kx
  few : es.size < scanBound
  fit : t.fits es.size = true
  len : es.size = n
  ris : Ris t.place.toList
  led : w.params.followText "set-order" = true ∨ t.led = true
def SetS (w : World) (h : Heap) (a : Addr) (S : Str → Bool) (n : Nat) : Prop := ∃ (o : Obj) (es : Array (Int × Value)) (ep : Nat) (t : SetTable), h.get? a = some o ∧ o.ExactSet ∧ o.data = .set es ep t ∧ Tab w es t S n
theorem SetS.keep {w : World} {h h' : Heap} {a : Addr} {S : Str → Bool} {n : Nat} (R : SetS w h a S n) (k : ∀ o, h.get? a = some o → h'.get? a = some o) : SetS w h' a S n :=
  let ⟨o, es, ep, t, ho, r⟩ := R; ⟨o, es, ep, t, k o ho, r⟩
theorem SetS.like {w : World} {h : Heap} {a : Addr} {S S' : Str → Bool} {n : Nat} (R : SetS w h a S n) (e : ∀ x, S' x = S x) : SetS w h a S' n := by
  rwa [show S' = S from funext e]
theorem tab_new (w : World) : Tab w #[] (.fresh 0 0 (!w.params.followText "set-order")) (fun _ => false) 0 where
  tx := fun e he => by simp at he
  nd := by simp
  mem := fun x => by simp
  few := by decide
  fit := by rfl
  len := rfl
  ris := List.Pairwise.nil
  led := by
    show _ ∨ (!w.params.followText "set-order") = true
    cases w.params.followText "set-order" <;> simp
theorem setS_at {w : World} {h : Heap} {a : Addr} (ho : h.get? a = some (emptySet w)) : SetS w h a (fun _ => false) 0 := ⟨_, #[], 0, _, ho, ⟨rfl, rfl, rfl⟩, rfl, tab_new w⟩
section
variable {P : Program} {w : World} {A : Around} {E : Value → Shared → Prop} {s : Shared} {a : Addr} {S : Str → Bool} {n : Nat}
theorem tx_elems {es : List (Int × Value)} (h : ∀ e ∈ es, TxE w e) : ElemsOf (strKind P w) es := fun e he => by
  obtain ⟨x, tk, e1, e2⟩ := h e he
  refine ⟨⟨x, ?_, e2⟩, ?_⟩ <;> rw [e1]
  · exact beq_self_eq_true x
  · rfl
theorem tx_is {e : Int × Value} (h : TxE w e) (x : Str) : (strKind P w).is x e.2 = true ↔ kx e = x := by
  obtain ⟨y, tk, e1, _⟩ := h
  unfold kx
  rw [e1]
  show (y == x) = true ↔ y = x
  exact beq_iff_eq
/-- the last part of an add: the table kept, or laid anew -/
theorem put_end {f : Bool → Sem Unit} (hf : ∀ (b : Bool) (z : Shared) (Z : Unit → Shared → Prop), Z () z → wpAny (model P w) A (f b) Z E z) {o : Obj} {es fs : Array (Int × Value)} {ep : Nat} {t u : SetTable}
    (ho : s.heap.get? a = some o) (ex : o.ExactSet) (hd : o.data = .set es ep t) (T : Tab w fs u S n) {dm : Bool} {R : Option Bool → Shared → Prop}
    (go : ∀ h', Heap.SameBut a s.heap h' → SetS w h' a S n → R (some true) { s with heap := h' }) :
    wpAny (model P w) A (do
        storeSet a fs u
        if (!dm && u.tooFull) = true then do
            f (relayAll u fs (SetTable.grown fs.size)).2.2
            storeSet a (relayAll u fs (SetTable.grown fs.size)).1 (relayAll u fs (SetTable.grown fs.size)).2.1
            pure (some true)
          else pure (some true)) R E s := by
  have b1 := Heap.SameBut.update s.heap a (Obj.putSet fs u)
  have g1 := store_at (es' := fs) (t' := u) ho hd
  refine wpAny_bind (wpAny_storeSet_of ho hd ?_ (fits_of_scanBound T.few))
  by_cases full : (!dm && u.tooFull) = true
  · rw [if_pos full]
    have pm := relayAll_perm u fs (SetTable.grown fs.size)
    have q1 := relayAll_fits u fs (SetTable.grown fs.size)
    have q2 := relayAll_ris u fs (SetTable.grown fs.size)
    have q3 := relayAll_led u fs (SetTable.grown fs.size)
    refine wpAny_bind (hf _ _ _ ?_)
    have sz : (relayAll u fs (SetTable.grown fs.size)).1.size = fs.size := by
      have := pm.length_eq
      rwa [Array.length_toList, Array.length_toList] at this
    refine wpAny_bind (wpAny_storeSet_of g1 rfl ?_ (fits_of_scanBound (by rw [sz]; exact T.few)))
    have g2 := store_at (es' := (relayAll u fs (SetTable.grown fs.size)).1) (t' := (relayAll u fs (SetTable.grown fs.size)).2.1) g1 rfl
    refine wpAny_pure (go _ (b1.trans (Heap.SameBut.update _ a _)) ⟨_, _, _, _, g2, ex, rfl, ?_⟩)
    exact ⟨fun e he => T.tx e (pm.mem_iff.mp he), (pm.map kx).nodup_iff.mpr T.nd, fun x => (T.mem x).trans (pm.map kx).mem_iff.symm, by rw [sz]; exact T.few, q1, sz.trans T.len, q2, T.led.imp id fun z => q3.trans z⟩
  · rw [if_neg full]
    exact wpAny_pure (go _ b1 ⟨_, _, _, _, g1, ex, rfl, T⟩)
theorem hash_put {x : Str} {tk : Tok} {Q : Bool → Shared → Prop} (R : SetS w s.heap a S n) (room : n + 1 < scanBound)
    (go : ∀ h', Heap.SameBut a s.heap h' → SetS w h' a (fun y => S y || decide (y = x)) (if S x = true then n else n + 1) → Q (!S x) { s with heap := h' }) :
    wpAny (model P w) A (setAddHashed a (.str x tk) (hashStr w x)) Q E s := by
  obtain ⟨o, es, ep, t, ho, ex, hd, T⟩ := R
  have me : (strKind P w).is x (.str x tk) = true := beq_self_eq_true x
  have el : ElemsOf (strKind P w) es.toList := tx_elems T.tx
  unfold setAddHashed setAddHashedIn
  refine wpAny_holding (wpAny_bind (wpAny_setState_of ho hd T.fit ?_))
  have bs := byScan_of (knd := strKind P w) (x := .str x tk) rfl T.few el
  dsimp only
  rw [if_pos bs]
  unfold setAddByScan
  refine wpAny_bind (wpAny_bind (wpAny_rule (wpAny_bind (wpAny_setScan_of me ho hd T.fit el ?_))))
  cases at_ : List.findIdx? (fun e => (strKind P w).is x e.2) es.toList with
  | some j =>
    obtain ⟨lj, pj, _⟩ := List.findIdx?_eq_some_iff_getElem.mp at_
    have there : x ∈ es.toList.map kx := List.mem_map.mpr ⟨_, List.getElem_mem lj, (tx_is (T.tx _ (List.getElem_mem lj)) x).mp pj⟩
    have yes : S x = true := (T.mem x).mpr there
    have z := go s.heap (Heap.SameBut.refl a s.heap) ⟨o, es, ep, t, ho, ex, hd, T.tx, T.nd, fun y => ?_, T.few, T.fit, by rw [if_pos yes]; exact T.len, T.ris, T.led⟩
    · rw [yes] at z
      exact wpAny_pure (wpAny_pure z)
    · rw [Bool.or_eq_true, decide_eq_true_iff, T.mem y]
      exact ⟨fun c => c.elim id fun c => by rw [c]; exact there, .inl⟩
  | none =>
    have out : x ∉ es.toList.map kx := fun c => by
      obtain ⟨e, he, ee⟩ := List.mem_map.mp c
      have z1 := List.findIdx?_eq_none_iff.mp at_ e he
      rw [(tx_is (P := P) (T.tx e he) x).mpr ee] at z1
      cases z1
    have no : S x = false := Bool.eq_false_iff.mpr fun c => out ((T.mem x).mp c)
    dsimp only
    have p1 := layNew_perm t es (hashStr w x) (.str x tk)
    have p2 := layNew_fits t es (hashStr w x) (.str x tk)
    have p3 := layNew_ris t es (hashStr w x) (.str x tk) T.ris
    have p4 := layNew_led t es (hashStr w x) (.str x tk)
    show wpAny _ _ _ _ _ _
    generalize hL : layNew t es (hashStr w x) (.str x tk) = L at p1 p2 p3 p4
    have hL' : layNew t es ((strKind P w).hash x) (.str x tk) = L := hL
    obtain ⟨fs, u, dm, gave⟩ := L
    simp only [hL, hL'] at *
    rw [Array.toList_push] at p1
    have pc : fs.toList.Perm ((hashStr w x, Value.str x tk) :: es.toList) := p1.trans (List.perm_append_singleton _ _)
    have pk : (fs.toList.map kx).Perm (x :: es.toList.map kx) := pc.map kx
    have sz : fs.size = n + 1 := by
      have := pc.length_eq
      rw [Array.length_toList, List.length_cons, Array.length_toList, T.len] at this
      exact this
    have T1 : Tab w fs u (fun y => S y || decide (y = x)) (n + 1) := by
      refine ⟨fun e he => ?_, pk.nodup_iff.mpr (List.nodup_cons.mpr ⟨out, T.nd⟩), fun y => ?_, by rw [sz]; exact room, p2, sz, p3, T.led.imp id fun z => p4.trans z⟩
      · rcases List.mem_cons.mp (pc.mem_iff.mp he) with c | c
        · rw [c]; exact ⟨x, tk, rfl, rfl⟩
        · exact T.tx e c
      · rw [Bool.or_eq_true, decide_eq_true_iff, T.mem y, pk.mem_iff, List.mem_cons]
        exact or_comm
    rw [no] at go
    have calm : ∀ (b : Bool) (z : Shared) (Z : Unit → Shared → Prop), Z () z → wpAny (model P w) A (match b with | true => rule "set.scan.the-table-gave-way" | false => pure ()) Z E z := fun b z Z h => by
      cases b
      · exact wpAny_pure h
      · exact wpAny_rule h
    refine wpAny_bind (calm _ _ _ ?_)
    by_cases pl : u.plain = true
    · rw [if_pos (by simpa using pl)]
      refine wpAny_bind ?_
      rw [hashByValue_scannable 8 (x := .str x tk) rfl]
      refine wpAny_pure ?_
      refine put_end ?_ ho ex hd (S := fun y => S y || decide (y = x)) (n := n + 1) ?_ fun h' sb r => wpAny_pure (go h' sb r)
      · intro b z Z h; cases b <;> first | exact wpAny_pure h | exact wpAny_rule h
      · exact ⟨T1.tx, T1.nd, T1.mem, T1.few, SetTable.fits_plain_off T1.fit, T1.len, T1.ris, T1.led⟩
    · rw [if_neg (by simpa using pl)]
      refine wpAny_bind (wpAny_pure ?_)
      refine put_end ?_ ho ex hd T1 fun h' sb r => wpAny_pure (go h' sb r)
      intro b z Z h; cases b <;> first | exact wpAny_pure h | exact wpAny_rule h
theorem call_put {x : Str} {tk : Tok} {Q : Value → Shared → Prop} (R : SetS w s.heap a S n) (room : n + 1 < scanBound)
    (go : ∀ h', Heap.SameBut a s.heap h' → SetS w h' a (fun y => S y || decide (y = x)) (if S x = true then n else n + 1) → Q .none { s with heap := h', toks := s.toks + 1 }) :
    wpAny (model P w) A (call (.builtin "set.add") [.ref a, .str x tk]) Q E s := by
  have ty : s.TypeIs (.ref a) "set" := let ⟨o, _, _, _, ho, ex, _⟩ := R; ⟨o, ho, ex.1⟩
  refine wpAny_call_entry F.slot_set_add ty F.entry_set_add ?_ (F.args_set_add_2 _ _)
  unfold Builtin.«set.add» Builtin.Frozenset.oneOther
  simp only [List.isEmpty_nil, bind_assoc]
  unfold Builtin.Frozenset.addrOf setAdd
  refine wpAny_bind (wpAny_pure ?_)
  (try dsimp only)
  refine wpAny_bind (wpAny_pure ?_)
  (try dsimp only)
  refine wpAny_bind (wpAny_holding (wpAny_bind ((PySem.strKind P w).pyHash (k := x) (beq_self_eq_true x) ?_)))
  refine hash_put (s := { s with toks := s.toks + 1 }) R room fun h' sb r => ?_
  exact wpAny_pure ⟨_, rfl, go h' sb r⟩
/-- sorted(set of texts) -/
theorem strs_of : ∀ (l : List (Int × Value)), (∀ e ∈ l, TxE w e) → StrsAre (l.map (·.2)) (l.map kx)
  | [], _ => .nil
  | e :: l, h => by
    obtain ⟨x, tk, e1, _⟩ := h e (by simp)
    have ih := strs_of l fun u hu => h u (by simp [hu])
    rw [List.map_cons, List.map_cons, e1, show kx e = x by unfold kx; rw [e1]]
    exact .cons x tk ih
theorem strs_perm {us vs : List Value} (p : us.Perm vs) : ∀ {xs : List Str}, StrsAre vs xs → ∃ ys : List Str, ys.Perm xs ∧ StrsAre us ys := by
  induction p with
  | nil => intro xs h; exact ⟨xs, .refl _, h⟩
  | cons v p ih =>
    intro xs h
    cases h with
    | cons y t r =>
      obtain ⟨ys, q, r'⟩ := ih r
      exact ⟨y :: ys, q.cons y, .cons y t r'⟩
  | swap u v l =>
    intro xs h
    cases h with
    | cons y t r =>
      cases r with
      | cons z t' r => exact ⟨_, .swap _ _ _, .cons z t' (.cons y t r)⟩
  | trans p q ih1 ih2 =>
    intro xs h
    obtain ⟨ys, q1, r1⟩ := ih2 h
    obtain ⟨zs, q2, r2⟩ := ih1 r1
    exact ⟨zs, q2.trans q1, r2⟩
theorem StrsAre.len {us : List Value} {xs : List Str} (h : StrsAre us xs) : us.length = xs.length := by
  induction h with
  | nil => rfl
  | cons y t _ ih => exact congrArg (· + 1) ih
theorem sorted_setS {Q : Value → Shared → Prop} (R : SetS w s.heap a S n) (calm : A.handled = none)
    (go : ∀ (s' : Shared) (p : Addr) (out : Array Value) (c : Nat) (xs : List Str), (∀ b o, s.heap.get? b = some o → s'.heap.get? b = some o) → s'.gens = s.gens → s'.os = s.os → s.heap.objs.size ≤ p →
      s'.heap.get? p = some (seqObj "list" out c) → StrsAre out.toList xs → sortedS xs = true → xs.Nodup → (∀ x, x ∈ xs ↔ S x = true) → xs.length = n → Q (.ref p) s') :
    wpAny (model P w) A (call (.builtin "sorted") [.ref a]) Q E s := by
  obtain ⟨o, es, ep, t, ho, ex, hd, T⟩ := R
  refine Calls.call_function_entry kind_sorted plain_sorted entry_sorted (args_sorted1 _) ?_
  unfold Builtin.«sorted»
  refine wpAny_bind (m := checkCount "sorted" 1 1 _) (wpAny_pure (wpAny_bind (collect_set (A := A.in1) calm ⟨o, ho, ex.1, hd⟩ T.fit T.few T.ris T.led fun s1 us keep le g1 o1 pm => ?_)))
  obtain ⟨zs, pz, st⟩ := strs_perm pm (strs_of (w := w) es.toList T.tx)
  have ul : us.length = n := by rw [pm.length_eq, List.length_map, Array.length_toList]; exact T.len
  have nL : n ≤ sizeLine := by have := fits_of_scanBound T.few; have := T.len; omega
  refine wpAny_bind (wpAny_newList ?_ (by rw [ul]; exact nL))
  have L : (s1.heap.push (seqObj "list" us.toArray 0)).get? s1.heap.objs.size = some (seqObj "list" us.toArray 0) := Heap.get?_push_size _ rfl
  refine wpAny_bind (wpAny_holding (wpAny_call_entry slot_list_sort ⟨_, L, rfl⟩ entry_list_sort (list_sort_treeKAny strKind_oneLt L st.keysOf (fun v₁ v₂ rest e => keyKind_strs (by rw [← e]; exact st)) (by rw [ul]; exact nL)
    fun so p1 p2 => ⟨_, rfl, ?_⟩) (args_list_sort _)))
  obtain ⟨ys, y1, y2, y3⟩ := sorted_out_str st p1 p2
  obtain ⟨c, hc⟩ := sortedHeap_at (vs := us) (out := (arrOf so).map (·.2)) L
  have py : ys.Perm (es.toList.map kx) := y2.trans pz
  refine wpAny_pure ⟨_, rfl, go _ s1.heap.objs.size _ c ys (fun b u e => ?_) g1 o1 le hc y1 y3 (py.nodup_iff.mpr T.nd) (fun x => by rw [py.mem_iff, ← T.mem x]) ?_⟩
  · have e1 := keep b u e
    have lt := Heap.lt_size e1
    show (sortedHeap (s1.heap.push (seqObj "list" us.toArray 0)) s1.heap.objs.size us _).get? b = some u
    rw [sortedHeap_old (Nat.ne_of_lt lt) (by rw [size_push']; exact Nat.lt_succ_of_lt lt)]
    exact Heap.get?_push_of_some _ e1
  · rw [py.length_eq, List.length_map, Array.length_toList]; exact T.len
end
/-- the set of texts at a -/
def SetTx (w : World) (a : Addr) (S : Str → Bool) (n : Nat) : HO := .ext fun h => SetS w h a S n
section
variable {X : Cx}
theorem setTx_ok {w : World} {P : Program} {H : Hp} {h : Heap} {a : Addr} {S : Str → Bool} {n : Nat} (R : SetS w h a S n) : ObjOk P w H h a (SetTx w a S n) :=
  ⟨R, let ⟨o, _, _, _, ho, _⟩ := R; ⟨o, ho⟩, fun _ _ p k => SetS.keep p k⟩
theorem setTx_get {pins : List (Addr × Obj)} {σ : L2.St} {H : Hp} {s : Shared} {a : Addr} {S : Str → Bool} {n : Nat} (I : Inv X pins σ H s) (ha : H a = some (SetTx X.w a S n)) : SetS X.w s.heap a S n := (I.hok a _ ha).1
theorem vals_strs : ∀ {us : List Value} {xs : List Str}, StrsAre us xs → Vals (xs.map V.str) us
  | _, _, .nil => .nil
  | _, _, .cons y t r => .cons ⟨t, rfl⟩ (vals_strs r)
def rSortTx (w : World) : List V → Hp → VK → Prop := fun vs H Q => ∃ (a : Addr) (S : Str → Bool) (n : Nat), vs = [V.ref a] ∧ H a = some (SetTx w a S n) ∧
  ∀ (xs : List Str) (p : Addr), sortedS xs = true → xs.Nodup → (∀ x, x ∈ xs ↔ S x = true) → xs.length = n → H p = none → Q (.ref p) (upd H p (.lst (xs.map V.str)))
theorem cr_sortTx (calm : X.calm = true) : CallR X (.builtin "sorted") (rSortTx X.w) := by
  intro pins s σ H vs us Q I r told
  obtain ⟨a, S, n, rfl, ha, q⟩ := told
  rw [Vals.ref1 r]
  have R := setTx_get I ha
  have few : n ≤ sizeLine := by
    obtain ⟨_, _, _, _, _, _, _, T⟩ := R
    have := fits_of_scanBound T.few
    rw [T.len] at this
    exact this
  refine sorted_setS R (I.ok.hd calm) fun z p out c xs keep g o le there st so nd mem len => ?_
  have free : H p = none := I.hok.fresh le
  have fit : (xs.map V.str).length ≤ sizeLine := by rw [List.length_map, len]; exact few
  have J : Inv X pins σ (upd H p (.lst (xs.map V.str))) { s with heap := z.heap, gens := z.gens, drawn := z.drawn, toks := z.toks } :=
    I.call (ch := []) (Un.laid keep le free) (I.hok.laid keep le ⟨fit, out.toList, c, vals_strs st, there⟩) (by rw [g]; exact I.bare) (fun _ h => nomatch h)
  have e : z = { s with heap := z.heap, gens := z.gens, drawn := z.drawn, toks := z.toks } := by
    obtain ⟨z1, z2, z3, z4, z5⟩ := z
    obtain ⟨s1, s2, s3, s4, s5⟩ := s
    cases o
    rfl
  rw [e]
  exact ⟨.ref p, _, J, rfl, q xs p so nd mem len free⟩
/-- a text goes into a tracked set -/
theorem putTx {pins : List (Addr × Obj)} {σ : L2.St} {H : Hp} {s : Shared} {E : Value → Shared → Prop} {D : Addr} {S : Str → Bool} {n : Nat} {x : Str} {t : Tok} {Q : Value → Shared → Prop}
    (I : Inv X pins σ H s) (hD : H D = some (SetTx X.w D S n)) (few : n + 1 < scanBound)
    (go : ∀ s', Inv X pins σ (upd H D (SetTx X.w D (fun j => S j || decide (j = x)) (if S x = true then n else n + 1))) s' → Q .none s') :
    wpAny (model X.prog X.w) X.A (call (.builtin "set.add") [.ref D, .str x t]) Q E s :=
  call_put (setTx_get I hD) few fun h' same now =>
    have there : ∃ u, h'.get? D = some u := let ⟨o, _, _, _, ho, _⟩ := now; ⟨o, ho⟩
    go _ (I.write (e := D) (t' := s.toks + 1) (by rw [hD]; trivial) (.inl rfl) (fun b u ne hu => (same.2 b ne).trans hu) there (setTx_ok now))
/-- what {e for x in .. if ..} asks where e is a text -/
def tScT (w : World) (wi : TI) (g : TG) (tt : TT) (te : TE) (vs : List Nat) : TE := fun σ H Q => wi σ H fun J H1 => ∀ D, H1 D = none →
  ∃ W : Nat → Nat → Hp → Prop, (∃ m, W 0 m (upd H1 D (SetTx w D (fun _ => false) 0))) ∧ ∀ i m H, W i m H → (J.stop i H ∧ Q (.ref D) H) ∨
    (J.go i H ∧ ∃ Nx : Hp → Prop, (∀ H', Nx H' → ∃ m', m' < m ∧ W (i + 1) m' H') ∧ ∀ x H', J.yld i H x H' → g x (wipe σ vs) H' fun σ2 H2 => wipe σ2 vs = wipe σ vs ∧
      tt σ2 H2 fun b H3 => if b = true then te σ2 H3 fun y H4 => ∃ (k : Str) (S : Str → Bool) (n : Nat), y = .str k ∧ H4 D = some (SetTx w D S n) ∧ n + 1 < scanBound ∧
        Nx (upd H4 D (SetTx w D (fun j => S j || decide (j = k)) (if S k = true then n else n + 1))) else Nx H3)

theorem pe_scT {elt tg iter : Expr} {ifs : List Expr} {scope : Scope} {own : List (PySem.Str × Nat)} {pos : Pos} {wi : TI} {g : TG} {tt : TT} {te : TE}
    (hc : X.calm = true) (hN : X.N.Nodup) (hi : PI X tg iter wi) (ok : BlkOk X.N X.env.scope scope own)
    (hg : ∀ (s : Shared) (H : Hp) (C : Addr) (cl : List (PySem.Str × Addr)) (fp : List Addr), PG (X.blk s H scope (compEnvC scope cl C X.env) fp) tg g)
    (ht : ∀ (s : Shared) (H : Hp) (C : Addr) (cl : List (PySem.Str × Addr)) (fp : List Addr), PTs (X.blk s H scope (compEnvC scope cl C X.env) fp) ifs tt)
    (he : ∀ (s : Shared) (H : Hp) (C : Addr) (cl : List (PySem.Str × Addr)) (fp : List Addr), PE (X.blk s H scope (compEnvC scope cl C X.env) fp) elt te)
    (hs : ∀ x, foldedSetIterable iter X.env x = pure x := by intro _; rfl) :
    PE X (.SetComp elt [⟨tg, iter, ifs, 0⟩] scope pos) (tScT X.w wi g tt te (own.map (·.2))) := by
  refine ⟨fun pins s σ H Q I h => ?_⟩
  rw [eval_SetComp]
  have caught : ∀ y ∈ scope.names, y.2 = .free → ∃ c, X.env.cells.lookup y.1 = some c := fun y hy e =>
    (ok.free y hy e).elim (fun k => I.ok.has _ (.inl k)) fun k => I.ok.has _ (.inr k)
  refine wpAny_comprehension_free (use := none) rfl hs (closure_ok caught) ok.kind (fun y hy e => (ok.uniq y hy).trans (by rw [e])) (thn (hi.run pins s σ H _ I h) fun xv s1 hx => thn hx fun itv s2 h2 => ?_)
  obtain ⟨it, fp, tn, J, H2, rfl, I2, T, st2, f2, q⟩ := h2
  refine newSet_ok (newEnv_comp ?_)
  -- the new set's place
  obtain ⟨D, hD⟩ : ∃ D, s2.heap.objs.size = D := ⟨_, rfl⟩
  rw [hD]
  obtain ⟨W, ⟨m0, w0⟩, turn⟩ := q D (I2.hok.fresh (Nat.le_of_eq hD))
  obtain ⟨s3, hs3⟩ : ∃ s3 : Shared, { s2 with heap := s2.heap.push (emptySet X.w) } = s3 := ⟨_, rfl⟩
  have h3 : s3.heap = s2.heap.push (emptySet X.w) := by rw [← hs3]
  have I3 : Inv X pins σ (upd H2 D (SetTx X.w D (fun _ => false) 0)) s3 := by
    have z := I2.laid (a := D) (o := SetTx X.w D (fun _ => false) 0) (t' := s2.toks) (h' := s2.heap.push (emptySet X.w)) (fun b o e => Heap.get?_push_of_some _ e) (Nat.le_of_eq hD) (by rw [← hD]; exact setTx_ok (setS_at (Heap.get?_push_size _ rfl)))
    exact hs3 ▸ z
  have low : ∀ b ∈ fp, b < s2.heap.objs.size := fun b hb => let ⟨o, e, _⟩ := T.obj _ _ st2 b hb; Heap.lt_size e
  have f3 : ∀ b ∈ fp, FpOk X pins (upd H2 D (SetTx X.w D (fun _ => false) 0)) b ∧ b < s3.heap.objs.size := fun b hb =>
    ⟨⟨(upd_ne (by rw [← hD]; exact Nat.ne_of_lt (low b hb))).trans (f2 b hb).1, (f2 b hb).2⟩, by rw [h3, Heap.size_push]; exact Nat.lt_succ_of_lt (low b hb)⟩
  have st3 : tn 0 s3.heap := T.keep _ _ _ st2 fun b _ o e => h3 ▸ Heap.get?_push_of_some _ e
  have I4 := block_start I3 ok hN f3
  obtain ⟨H3, hH3⟩ : ∃ H3, upd H2 D (SetTx X.w D (fun _ => false) 0) = H3 := ⟨_, rfl⟩
  rw [hH3] at I3 f3 I4 w0
  obtain ⟨C, hC⟩ : ∃ C, s3.heap.objs.size = C := ⟨_, rfl⟩
  rw [hC] at I4
  have pg := hg s3 H3 C (cellsFrom (C + 1) scope.names (cloFrom X.env.cells scope.names [])) fp
  have pt := ht s3 H3 C (cellsFrom (C + 1) scope.names (cloFrom X.env.cells scope.names [])) fp
  have pe := he s3 H3 C (cellsFrom (C + 1) scope.names (cloFrom X.env.cells scope.names [])) fp
  subst hs3
  have hC' : (s2.heap.push (emptySet X.w)).objs.size = C := hC
  show codeAny _ _ (.compStart (.SetComp elt [⟨tg, iter, ifs, 0⟩] scope pos) 0 (.ref it) (.ref D) (compEnvC scope (cellsFrom ((s2.heap.push (emptySet X.w)).objs.size + 1) scope.names (cloFrom X.env.cells scope.names [])) (s2.heap.push (emptySet X.w)).objs.size X.env))
    (compPost (model X.prog X.w) X.A X.xe none (EP X pins σ Q) (.ref D) (s2.heap.push (emptySet X.w)).objs.size) { s2 with heap := pushCells ((s2.heap.push (emptySet X.w)).push { cls := .type "dict", data := .dict #[] }) scope.names }
  rw [hC']
  obtain ⟨ce, hce⟩ : ∃ ce, compEnvC scope (cellsFrom (C + 1) scope.names (cloFrom X.env.cells scope.names [])) C X.env = ce := ⟨_, rfl⟩
  rw [hce] at I4 pg pt pe ⊢
  have cL : ce.locals = C := by subst hce; rfl
  obtain ⟨s4, hs4⟩ : ∃ s4 : Shared, { s2 with heap := pushCells ((s2.heap.push (emptySet X.w)).push { cls := .type "dict", data := .dict #[] }) scope.names } = s4 := ⟨_, rfl⟩
  have I4 : Inv (X.blk _ H3 scope ce fp) [] (wipe σ (own.map (·.2))) H3 s4 := hs4 ▸ I4
  rw [hs4]
  have st4 : tn 0 s4.heap := T.keep _ _ _ st3 fun b _ o e => by rw [← hs4]; exact pushCells_keeps _ _ _ _ (Heap.get?_push_of_some _ e)
  obtain ⟨Y, hY⟩ : ∃ Y, X.blk { s2 with heap := s2.heap.push (emptySet X.w) } H3 scope ce fp = Y := ⟨_, rfl⟩
  have rest : ∀ {σ' : L2.St} {H' : Hp} {s' : Shared}, Inv Y [] σ' H' s' → (∀ b ∈ fp, H' b = none) → ∀ b ∈ fp, FpOk Y [] H' b := by
    subst hY
    intro σ' H' s' I' hn b hb
    exact ⟨hn b hb, (I'.ok.exf b hb).1, I'.ok.exfs b hb, .inl hb, fun x c e => (I'.ok.exf b hb).2 x c e, fun p hp => absurd (show p ∈ ([] : List (Addr × Obj)) ++ [] from hp) (by simp)⟩
  have round : codeAny (model X.prog X.w) X.A (.compLoop (.SetComp elt [⟨tg, iter, ifs, 0⟩] scope pos) 0 (.ref it) (.ref D) ce) (compPost (model X.prog X.w) X.A X.xe none (EP X pins σ Q) (.ref D) C) s4 := by
    refine compLoopS_any (fun n s' => ∃ i H', Inv Y [] (wipe σ (own.map (·.2))) H' s' ∧ tn i s'.heap ∧ (∀ b ∈ fp, H' b = none) ∧ W i n H') ?_ m0 ⟨0, H3, hY ▸ I4, st4, fun b hb => (f3 b hb).1.1, w0⟩
    rintro n s5 ⟨i, H5, I5, st5, n5, w5⟩
    rcases turn i n H5 w5 with ⟨stop, qq⟩ | ⟨go, Nx, hNx, step⟩
    · subst hY
      refine thnF (T.done (X.blk _ H3 scope ce fp) rfl rfl rfl hc i [] s5 _ H5 (fun _ _ => False) I5 (rest I5 n5) st5 stop) fun r s6 ⟨hr, I6⟩ => ?_
      subst hr
      have I7 : Inv X pins σ H5 s6 := I3.call' (ch := fp) I6.os I6.base I6.hok I6.bare fun b hb => ⟨(f3 b hb).1.2.2.2.1, (f3 b hb).1.2.1, (f3 b hb).1.2.2.2.2.1, (f3 b hb).1.2.2.2.2.2⟩
      have nC : H5 C = none := cL ▸ (show H5 ce.locals = none from I6.free)
      obtain ⟨m, hn, _⟩ := I6.loc
      have hn : s6.heap.Ns C m := cL ▸ (show s6.heap.Ns ce.locals m from hn)
      refine ⟨m, hn, fun h'' sb => ?_⟩
      obtain ⟨g0, g1, g2, g3, g4, g5⟩ := I3.fpOk (Nat.le_of_eq hC) nC
      exact ⟨.ref D, H5, I7.turned (t' := s6.toks) (fun b o hb e => (sb.2 b hb).trans e) g0 g1 g3 g4 g5, rfl, qq⟩
    · have ti := T.item Y (by subst hY; rfl) (by subst hY; rfl) (by subst hY; rfl) (by subst hY; exact hc) i [] s5 _ H5 (fun _ _ => False) I5 (rest I5 n5) st5 go
      subst hY
      refine thnF ti fun r s6 ⟨u, hr, h6⟩ => ?_
      subst hr
      refine thnF h6 fun _ s7 ⟨x, H7, I7, r7, y7, st7, n7⟩ => ?_
      refine thnF (pg.run _ s7 _ H7 x u _ (I7.pinned (rest I7 n7) (T.obj _ _ st7)) r7 (step x H7 y7)) fun _ s8 ⟨σ8, H8, I8, hw8, q8⟩ => ?_
      refine thnF (pt.run _ s8 σ8 H8 _ I8 q8) fun b s9 ⟨H9, I9, q9⟩ => ?_
      have turned : ∀ {s' : Shared} {H' : Hp}, Inv (X.blk { s2 with heap := s2.heap.push (emptySet X.w) } H3 scope ce fp) ([] ++ pinsAt fp s7.heap) σ8 H' s' → Nx H' → ∃ m, m < n ∧ ∃ i H', Inv (X.blk { s2 with heap := s2.heap.push (emptySet X.w) } H3 scope ce fp) [] (wipe σ (own.map (·.2))) H' s' ∧ tn i s'.heap ∧ (∀ b ∈ fp, H' b = none) ∧ W i m H' := by
        intro s' H' I' nx
        obtain ⟨m', hm, w'⟩ := hNx H' nx
        have pin : ∀ b ∈ fp, ∀ o, s7.heap.get? b = some o → s'.heap.get? b = some o ∧ H' b = none := fun b hb o e =>
          let z := I'.pin (b, o) (List.mem_append_right _ (List.mem_append_right _ (mem_pinsAt hb e))); ⟨z.1, z.2.1⟩
        refine ⟨m', hm, i + 1, H', (I'.unpinned (pins := [])).weak (by rw [← hw8, wipe_length]) (fun j v e => (wipe_some (by rw [hw8]; exact e)).1), T.keep _ _ _ st7 fun b hb o e => (pin b hb o e).1, fun b hb => ?_, w'⟩
        obtain ⟨o, e, _⟩ := T.obj _ _ st7 b hb
        exact (pin b hb o e).2
      cases b with
      | false => simp only [Bool.false_eq_true, if_false] at q9 ⊢; exact turned I9 q9
      | true =>
        simp only [if_true] at q9 ⊢
        refine thnF (pe.run _ s9 σ8 H9 _ I9 q9) fun z s10 ⟨yv, H10, I10, r10, k, S0, n0, ey, hD10, few, nx⟩ => ?_
        subst ey
        obtain ⟨t, rfl⟩ := r10
        exact putTx (X := X.blk _ H3 scope ce fp) I10 hD10 few fun s11 I11 => turned I11 nx
  exact codeAny_compStart_set round (T.self X.A 0 _ _ _ st4 round)

/-- the walk over a list that the block leaves as it is -/
theorem scT_list {w : World} {K : PySem.W.Frag} {a : Addr} {xs : List V} {g : TG} {tt : TT} {te : TE} {vs : List Nat} {σ : L2.St} {H1 : Hp} {D : Addr} {Qd : Hp → Prop}
    (Pv : Nat → Hp → Prop) (h0 : Pv 0 (upd H1 D (SetTx w D (fun _ => false) 0))) (hl : ∀ i H, i ≤ xs.length → Pv i H → SqL K H a xs)
    (hs : ∀ i x H, xs[i]? = some x → Pv i H → g x (wipe σ vs) H fun σ2 H2 => wipe σ2 vs = wipe σ vs ∧ tt σ2 H2 fun b H3 => if b = true then te σ2 H3 fun y H4 =>
      ∃ (k : Str) (S : Str → Bool) (n : Nat), y = .str k ∧ H4 D = some (SetTx w D S n) ∧ n + 1 < scanBound ∧ Pv (i + 1) (upd H4 D (SetTx w D (fun j => S j || decide (j = k)) (if S k = true then n else n + 1))) else Pv (i + 1) H3)
    (hd : ∀ H, Pv xs.length H → Qd H) :
    ∃ W : Nat → Nat → Hp → Prop, (∃ m, W 0 m (upd H1 D (SetTx w D (fun _ => false) 0))) ∧ ∀ i m H, W i m H → ((Itl K a).stop i H ∧ Qd H) ∨
      ((Itl K a).go i H ∧ ∃ Nx : Hp → Prop, (∀ H', Nx H' → ∃ m', m' < m ∧ W (i + 1) m' H') ∧ ∀ x H', (Itl K a).yld i H x H' → g x (wipe σ vs) H' fun σ2 H2 => wipe σ2 vs = wipe σ vs ∧
        tt σ2 H2 fun b H3 => if b = true then te σ2 H3 fun y H4 => ∃ (k : Str) (S : Str → Bool) (n : Nat), y = .str k ∧ H4 D = some (SetTx w D S n) ∧ n + 1 < scanBound ∧
          Nx (upd H4 D (SetTx w D (fun j => S j || decide (j = k)) (if S k = true then n else n + 1))) else Nx H3) := by
  refine ⟨fun i m H => m + i = xs.length ∧ Pv i H, ⟨xs.length, by simp, h0⟩, ?_⟩
  rintro i m H ⟨em, p⟩
  have here := hl i H (by omega) p
  rcases Nat.lt_or_ge i xs.length with lt | ge
  · refine .inr ⟨⟨xs, xs[i], here, by simp [lt]⟩, Pv (i + 1), fun H' p' => ⟨m - 1, by omega, by omega, p'⟩, fun x H' ⟨e, y⟩ => ?_⟩
    subst e
    exact hs i x _ (y xs here) p
  · have e : i = xs.length := by omega
    subst e
    exact .inl ⟨⟨xs, here, Nat.le_refl _⟩, hd H p⟩
end
section
theorem strs_at : ∀ {us : List Value} {xs : List Str}, StrsAre us xs → ∀ (i : Nat) {v : Value}, us[i]? = some v → ∃ x t, xs[i]? = some x ∧ v = .str x t
  | _, _, .cons y t _, 0, v, e => ⟨y, t, rfl, by simpa using e.symm⟩
  | _, _, .cons y t r, i + 1, v, e => by simpa using strs_at r i (by simpa using e)
theorem strs_vals : ∀ {xs : List Str} {us : List Value}, Vals (xs.map V.str) us → StrsAre us xs
  | [], _, .nil => .nil
  | x :: xs, _, .cons ⟨t, e⟩ r => by subst e; exact .cons x t (strs_vals r)
/-- the loop of set.update over texts -/
theorem fill_texts {P : Program} {w : World} {A : Around} {I : Addr} {fp wr : List Addr} {G : Array GenState → Array GenState → Prop} {n : Nat} {Pv : Nat → Value → Prop} {St : Nat → Shared → Prop} {R : Result → Shared → Prop}
    (W : WalksS P w A.in1 I fp wr G n Pv St) (D : Addr) (off : D ∉ fp) (xs : List Str) (hn : n = xs.length) (few : xs.length + 1 < scanBound) (val : ∀ i v, Pv i v → ∃ x t, xs[i]? = some x ∧ v = .str x t) :
    ∀ (k i : Nat) (s : Shared), n - i = k → i ≤ n → St i s → (∃ c, c ≤ i ∧ SetS w s.heap D (fun y => decide (y ∈ xs.take i)) c) →
      (∀ s' c, Moved (D :: wr) G s s' → c ≤ n → SetS w s'.heap D (fun y => decide (y ∈ xs)) c → R (.ok (.ret .none)) s') → codeAny (model P w) A (.builtin "set.update.loop" ⟨[.ref D, .ref I], []⟩) R s := by
  have offw : D ∉ wr := fun h => off (W.sub _ h)
  have sub : ∀ b ∈ wr, b ∈ D :: wr := fun b h => List.mem_cons_of_mem _ h
  intro k
  induction k with
  | zero =>
    rintro i s e le st ⟨c, hc, T⟩ fin
    obtain rfl : i = n := by omega
    refine codeAny_builtin F.entry_set_update_loop ?_
    rw [Around.under_plainId F.plain_set_update_loop _]
    refine wpAny_bind (m := pyNext (.ref I)) (W.done s _ _ st fun z mv => wpAny_pure (fin z c (mv.mono sub) hc ?_))
    rw [List.take_of_length_le (by omega)] at T
    exact T.keep fun o e => mv.heap D o offw e
  | succ k ih =>
    rintro i s e le st ⟨c, hc, T⟩ fin
    have lt : i < n := by omega
    refine codeAny_builtin F.entry_set_update_loop ?_
    rw [Around.under_plainId F.plain_set_update_loop _]
    refine wpAny_bind (m := pyNext (.ref I)) (W.item i s _ _ lt st fun v z pv st' mv => ?_)
    obtain ⟨x, t, hx, rfl⟩ := val i v pv
    have T' : SetS w z.heap D (fun y => decide (y ∈ xs.take i)) c := T.keep fun o e => mv.heap D o offw e
    refine wpAny_bind (m := holding [Value.str x t] (setAdd D (.str x t))) (wpAny_holding ?_)
    unfold setAdd
    refine wpAny_holding (wpAny_bind ((PySem.strKind P w).pyHash (k := x) (beq_self_eq_true x) ?_))
    refine hash_put (s := { z with toks := z.toks + 1 }) T' (by omega) fun h' sb T2 => ?_
    have T3 : SetS w h' D (fun y => decide (y ∈ xs.take (i + 1))) (if decide (x ∈ xs.take i) = true then c else c + 1) := T2.like fun y => by
      rw [List.take_add_one, hx]
      simp [List.mem_append]
    have c3 : (if decide (x ∈ xs.take i) = true then c else c + 1) ≤ i + 1 := by split <;> omega
    refine wpAny_pure ⟨plainId_quiet F.plain_set_update_loop _, ih (i + 1) _ (by omega) lt (W.frame _ z _ _ st' (Nat.le_succ _) fun b hb o e => ?_) ⟨_, c3, T3⟩ fun z2 c2 mv2 hc2 T4 => ?_⟩
    · exact (sb.2 b fun h => off (h ▸ hb)).trans e
    · exact fin z2 c2 (Moved.trans W.gtrans ((mv.mono sub).then_heap (Nat.le_succ _) fun b o hb e => (sb.2 b fun h => hb (by rw [h]; exact List.mem_cons_self)).trans e) mv2) hc2 T4
end
section
variable {P : Program} {w : World} {A : Around} {E : Value → Shared → Prop} {s : Shared}
set_option maxHeartbeats 6400000 in
theorem set_of_texts {l : Addr} {items : Array Value} (ns : List Str) {Q : Value → Shared → Prop} (calm : A.handled = none) (hl : s.heap.IsList l items) (hi : StrsAre items.toList ns) (few : ns.length + 1 < scanBound)
    (go : ∀ (h' : Heap) (tk c : Nat), SetS w h' s.heap.objs.size (fun j => decide (j ∈ ns)) c → c ≤ ns.length → (∀ b o, s.heap.get? b = some o → h'.get? b = some o) → Q (.ref s.heap.objs.size) { s with heap := h', toks := tk }) :
    wpAny (model P w) A (call (.type "set") [.ref l]) Q E s := by
  have cnt : items.size = ns.length := by have q := StrsAre.len hi; rwa [Array.length_toList] at q
  obtain ⟨c, tl, hmro⟩ := F.called_set.mro
  have hmade := F.called_set.made
  have hsub := F.called_set.sub
  refine wpAny_call (codeAny_of_tree ?_)
  show wpAny _ _ (callAny (.type "set") _) _ _ _
  refine wpAny_pure ⟨Code.quiet_builtin _ (by decide +kernel), codeAny_builtin F.entry_type_call ?_⟩
  rw [Around.under_plain (weight_type_call_type "set" [.ref l] []) rfl]
  have h1 := F.called_set.notType
  have h2 := F.called_set.canCreate
  have hct := F.typeCall_set_1 (.ref l)
  repeat (any_goals (first | assumption | wp_step))
  refine codeAny_mono (code_set_led1 (.ref l) (E := E) (Q₁ := fun obj z => obj = .ref s.heap.objs.size ∧ z = { s with heap := s.heap.push (emptySet w) }) ⟨rfl, rfl⟩) fun r s₁ hr => ?_
  cases r with
  | error e => exact hr
  | ok fl =>
    cases fl with
    | ret obj =>
      obtain ⟨rfl, rfl⟩ := hr
      have atNew : (s.heap.push (emptySet w)).get? s.heap.objs.size = some (emptySet w) := Heap.get?_push_size _ rfl
      have hT : Shared.TypeIs { s with heap := s.heap.push (emptySet w) } (.ref s.heap.objs.size) "set" := ⟨_, atNew, rfl⟩
      have hli := F.called_set.init.lookup
      have hbi := F.called_set.init.bind (.ref s.heap.objs.size)
      repeat (any_goals (first | assumption | wp_step))
      refine codeAny_mono (codeAny_call_builtin (R := wants (fun r z => r = .none ∧ ∃ h' tk c, z = { s with heap := h', toks := tk } ∧ SetS w h' s.heap.objs.size (fun j => decide (j ∈ ns)) c ∧ c ≤ ns.length ∧
        (∀ b o, s.heap.get? b = some o → h'.get? b = some o)) E) F.called_set.init.plain F.entry_set_init (check_set_init_1 hT ?_)) fun r₂ s₂ hr₂ => ?_
      · obtain ⟨⟨ocls, odict, odata, oslots⟩, hol, hcl, nl, hdl⟩ := hl
        simp only at hcl hdl
        subst hcl hdl
        have hol' : (s.heap.push (emptySet w)).get? l = some { cls := .type "list", dict := odict, data := .seq items nl, slots := oslots } := Heap.get?_push_of_some _ hol
        have hsls := F.sub_list_set
        have hslf := F.sub_list_frozenset
        have hne : (Value.type "list" == Value.type "dict") = false := by decide
        have here : (s.heap.push (emptySet w)).IsList l items := ⟨_, hol', rfl, nl, rfl⟩
        unfold Builtin.«set.__init__» noKeywords Builtin.Frozenset.updateFrom
        generalize hPI : pyIter = PI
        wp_walk
        subst hPI
        refine wpAny_pyIter_list here (wpAny_bind (wpAny_runValue ?_))
        have below : l < s.heap.objs.size := Heap.lt_size hol
        have top : (s.heap.push (emptySet w)).objs.size = s.heap.objs.size + 1 := Heap.size_push ..
        have apart : l ≠ (s.heap.push (emptySet w)).objs.size := by rw [top]; exact Nat.ne_of_lt (Nat.lt_succ_of_lt below)
        have out : s.heap.objs.size ∉ [(s.heap.push (emptySet w)).objs.size, l] := by
          simp only [List.mem_cons, List.not_mem_nil, or_false, not_or, top]
          exact ⟨Nat.ne_of_lt (Nat.lt_succ_self _), Nat.ne_of_gt below⟩
        have each : ∀ (i : Nat) (v : Value), items[i]? = some v → ∃ k t, ns[i]? = some k ∧ v = .str k t := by
          intro i v hv
          have lt : i < ns.length := by rw [← cnt]; exact (Array.getElem?_eq_some_iff.mp hv).1
          obtain ⟨y, t, e1, e2⟩ := strs_at hi i (by rw [Array.getElem?_toList]; exact hv)
          exact ⟨y, t, e1, e2⟩
        refine fill_texts ((Walks.list (by simp [calm]) _ l apart items).toS) s.heap.objs.size out ns cnt few each (items.size - 0) 0 _ (by omega) (Nat.zero_le _)
          ⟨⟨_, Heap.get?_push_size _ rfl, rfl, rfl⟩, here.push _⟩ ⟨0, Nat.le_refl 0, (setS_at (Heap.get?_push_of_some _ atNew)).like fun y => by simp⟩ fun s' c' hm hc' hS' => ?_
        obtain ⟨h', g2, d', tk', os'⟩ := s'
        have eg : g2 = s.gens := hm.gens
        have ed : d' = s.drawn := hm.drawn
        have eo : os' = s.os := hm.os
        subst eg ed eo
        show wpAny _ _ _ _ _ _
        refine wpAny_pure ?_
        show wpAny _ _ (ret Value.none) _ _ _
        refine wpAny_pure ⟨rfl, h', tk', c', rfl, hS', by omega, fun b o e => ?_⟩
        have lt := Heap.lt_size e
        exact hm.heap b o (by simp only [List.mem_cons, List.not_mem_nil, or_false, not_or, top]; exact ⟨Nat.ne_of_lt lt, Nat.ne_of_lt (Nat.lt_succ_of_lt lt)⟩) (Heap.get?_push_of_some _ (Heap.get?_push_of_some _ e))
      · cases r₂ with
        | error e => exact hr₂
        | ok fl₂ =>
          cases fl₂ with
          | ret r =>
            obtain ⟨rfl, h', tk, c', rfl, hS', hc', hk'⟩ := hr₂
            repeat (any_goals (first | assumption | wp_step))
            exact go _ _ _ hS' hc' hk'
          | _ => exact hr₂.elim
    | _ => exact hr.elim
end
section
variable {X : Cx}
/-- set(xs), xs a list of texts -/
def rSetTx (K : PySem.W.Frag) (w : World) : List V → Hp → VK → Prop := fun vs H Q => ∃ (a : Addr) (xs : List Str), vs = [V.ref a] ∧ SqL K H a (xs.map V.str) ∧ xs.length < 1000 ∧
  ∀ (p : Addr) (c : Nat), H p = none → c ≤ xs.length → Q (.ref p) (upd H p (SetTx w p (fun j => decide (j ∈ xs)) c))
theorem cr_setTx (hc : X.calm = true) : CallR X (.type "set") (rSetTx X.K X.w) := by
  intro pins s σ H vs us Q I r told
  obtain ⟨a, xs, rfl, hs, hn, q⟩ := told
  rw [Vals.ref1 r]
  obtain ⟨its, rv, pl, _⟩ := I.list hs
  refine set_of_texts xs (I.ok.hd hc) pl.isList (by simpa using strs_vals rv) (by unfold scanBound; omega) fun h' tk c R hc' k => ?_
  exact ⟨.ref _, upd H s.heap.objs.size (SetTx X.w s.heap.objs.size (fun j => decide (j ∈ xs)) c), I.laid (t' := tk) k (Nat.le_refl _) (setTx_ok R), rfl, q _ c (I.hok.fresh (Nat.le_refl _)) hc'⟩
end
end Rp

/-! Set comprehensions over a tuple. -/
namespace Rp
open PySem PySem.Spec PyProof.Rows L2 PpSet
section
variable {X : Cx}
theorem scT_tup {w : World} {K : PySem.W.Frag} {a : Addr} {xs : List V} {g : TG} {tt : TT} {te : TE} {vs : List Nat} {σ : L2.St} {H1 : Hp} {D : Addr} {Qd : Hp → Prop}
    (Pv : Nat → Hp → Prop) (h0 : Pv 0 (upd H1 D (SetTx w D (fun _ => false) 0))) (hl : ∀ i H, i ≤ xs.length → Pv i H → SqT K H a xs)
    (hs : ∀ i x H, xs[i]? = some x → Pv i H → g x (wipe σ vs) H fun σ2 H2 => wipe σ2 vs = wipe σ vs ∧ tt σ2 H2 fun b H3 => if b = true then te σ2 H3 fun y H4 =>
      ∃ (k : Str) (S : Str → Bool) (n : Nat), y = .str k ∧ H4 D = some (SetTx w D S n) ∧ n + 1 < scanBound ∧ Pv (i + 1) (upd H4 D (SetTx w D (fun j => S j || decide (j = k)) (if S k = true then n else n + 1))) else Pv (i + 1) H3)
    (hd : ∀ H, Pv xs.length H → Qd H) :
    ∃ W : Nat → Nat → Hp → Prop, (∃ m, W 0 m (upd H1 D (SetTx w D (fun _ => false) 0))) ∧ ∀ i m H, W i m H → ((Itt K a).stop i H ∧ Qd H) ∨
      ((Itt K a).go i H ∧ ∃ Nx : Hp → Prop, (∀ H', Nx H' → ∃ m', m' < m ∧ W (i + 1) m' H') ∧ ∀ x H', (Itt K a).yld i H x H' → g x (wipe σ vs) H' fun σ2 H2 => wipe σ2 vs = wipe σ vs ∧
        tt σ2 H2 fun b H3 => if b = true then te σ2 H3 fun y H4 => ∃ (k : Str) (S : Str → Bool) (n : Nat), y = .str k ∧ H4 D = some (SetTx w D S n) ∧ n + 1 < scanBound ∧
          Nx (upd H4 D (SetTx w D (fun j => S j || decide (j = k)) (if S k = true then n else n + 1))) else Nx H3) := by
  refine ⟨fun i m H => m + i = xs.length ∧ Pv i H, ⟨xs.length, by simp, h0⟩, ?_⟩
  rintro i m H ⟨em, p⟩
  have here := hl i H (by omega) p
  rcases Nat.lt_or_ge i xs.length with lt | ge
  · refine .inr ⟨⟨xs, xs[i], here, by simp [lt]⟩, Pv (i + 1), fun H' p' => ⟨m - 1, by omega, by omega, p'⟩, fun x H' ⟨e, y⟩ => ?_⟩
    subst e
    exact hs i x _ (y xs here) p
  · have e : i = xs.length := by omega
    subst e
    exact .inl ⟨⟨xs, here, Nat.le_refl _⟩, hd H p⟩
theorem scI_tup {w : World} {K : PySem.W.Frag} {a : Addr} {xs : List V} {g : TG} {tt : TT} {te : TE} {vs : List Nat} {σ : L2.St} {H1 : Hp} {D : Addr} {Qd : Hp → Prop}
    (Pv : Nat → Hp → Prop) (h0 : Pv 0 (upd H1 D (SetO w D (fun _ => false) 0))) (hl : ∀ i H, i ≤ xs.length → Pv i H → SqT K H a xs)
    (hs : ∀ i x H, xs[i]? = some x → Pv i H → g x (wipe σ vs) H fun σ2 H2 => wipe σ2 vs = wipe σ vs ∧ tt σ2 H2 fun b H3 => if b = true then te σ2 H3 fun y H4 =>
      ∃ (k : Int) (S : Int → Bool) (n : Nat), y = .int k ∧ H4 D = some (SetO w D S n) ∧ n + 1 < scanBound ∧ Pv (i + 1) (upd H4 D (SetO w D (fun j => S j || decide (j = k)) (if S k = true then n else n + 1))) else Pv (i + 1) H3)
    (hd : ∀ H, Pv xs.length H → Qd H) :
    ∃ W : Nat → Nat → Hp → Prop, (∃ m, W 0 m (upd H1 D (SetO w D (fun _ => false) 0))) ∧ ∀ i m H, W i m H → ((Itt K a).stop i H ∧ Qd H) ∨
      ((Itt K a).go i H ∧ ∃ Nx : Hp → Prop, (∀ H', Nx H' → ∃ m', m' < m ∧ W (i + 1) m' H') ∧ ∀ x H', (Itt K a).yld i H x H' → g x (wipe σ vs) H' fun σ2 H2 => wipe σ2 vs = wipe σ vs ∧
        tt σ2 H2 fun b H3 => if b = true then te σ2 H3 fun y H4 => ∃ (k : Int) (S : Int → Bool) (n : Nat), y = .int k ∧ H4 D = some (SetO w D S n) ∧ n + 1 < scanBound ∧
          Nx (upd H4 D (SetO w D (fun j => S j || decide (j = k)) (if S k = true then n else n + 1))) else Nx H3) := by
  refine ⟨fun i m H => m + i = xs.length ∧ Pv i H, ⟨xs.length, by simp, h0⟩, ?_⟩
  rintro i m H ⟨em, p⟩
  have here := hl i H (by omega) p
  rcases Nat.lt_or_ge i xs.length with lt | ge
  · refine .inr ⟨⟨xs, xs[i], here, by simp [lt]⟩, Pv (i + 1), fun H' p' => ⟨m - 1, by omega, by omega, p'⟩, fun x H' ⟨e, y⟩ => ?_⟩
    subst e
    exact hs i x _ (y xs here) p
  · have e : i = xs.length := by omega
    subst e
    exact .inl ⟨⟨xs, here, Nat.le_refl _⟩, hd H p⟩
end
end Rp

set_option maxHeartbeats 16000000
/-! is_chart and the law's look at CHARTs, over data; what steps name. -/
namespace Rp
open PySem PySem.Spec PyProof.Rows L2 TL RZ StX PpSet
def IsCh : PyData → Prop
  | .tuple [a, .tuple ss] => IsSy a ∧ ∀ s ∈ ss, IsSt s
  | _ => False
def spIsCh : Sp := fun vs H Q _ => ∃ (b : Addr) (v : V) (d : PyData), vs = [v] ∧ DAt H b v d ∧ DOk d ∧ ∀ (r : Bool) (H' : Hp), (r = true ↔ IsCh d) → Same H H' → Q (.bl r) H'
def Nine (d : PyData) : Prop := ∀ a ss, d = .tuple [a, .tuple ss] → ∀ es, .tuple es ∈ ss → es.length ≤ 9
def spChW : Sp := fun vs H Q _ => ∃ (b : Addr) (v : V) (d : PyData), vs = [v] ∧ DAt H b v d ∧ DOk d ∧ Nine d ∧ ∀ (r : Bool) (H' : Hp), (r = true ↔ IsCh d) → Same H H' → Q (.bl r) H'
theorem isCh_len {ds : List PyData} (h : ds.length ≠ 2) : ¬ IsCh (.tuple ds) := by
  match ds, h with
  | [], _ => exact fun z => z
  | [_], _ => exact fun z => z
  | [_, _], h => exact absurd rfl h
  | _ :: _ :: _ :: _, _ => exact fun z => by simpa only [IsCh] using z
section
variable {P : Program} {w : World} {K : PySem.W.Frag} {mg : Str → Option Value} {base : Heap}
theorem scIsCh : FnScope ["thing", "step"] ["thing"] (defScope sIsChart) := ⟨rfl, rfl, rfl, by decide +kernel, rfl, by decide +kernel, by decide +kernel⟩
theorem ok_isch {f fY fT : Addr} {fd dY dT : FuncData} (F : Fun K "is_chart" "is_chart" sIsChart f fd)
    (GY : FnOk P w K mg base CX0 5 fY dY ["thing"] spIsSy) (kY : PySem.W.keepIn K (.ref fY) = true) (bY : Binds K dY ["thing"] []) (mY : mg "is_saying" = some (.ref fY))
    (GT : FnOk P w K mg base CX0 6 fT dT ["thing"] spIsSt) (kT : PySem.W.keepIn K (.ref fT) = true) (bT : Binds K dT ["thing"] []) (mT : mg "is_step" = some (.ref fT))
    (M : SameG mg) : FnOk P w K mg base CX0 7 f fd ["thing"] spIsCh := by
  refine F.ok scIsCh (fun vs H Q E h => ?_) (fun cdv A outer s H vs Q E hr h => ?_)
  · obtain ⟨b, v, d, rfl, _⟩ := h
    rfl
  obtain ⟨b, v, d, rfl, D, ok, q⟩ := h
  have r5 : Room 5 _ := hr.mono (by decide)
  have r6 : Room 6 _ := hr.mono (by decide)
  refine ⟨_, (pss_cons (ps_if (PW.pt (pw_or (pt_not (pt_val (pe_callB (id := "isinstance") call_isi (by rfl) M.isi (by decide +kernel) (pa_cons (pv 0) (pa_cons (pe_bltn (v := .ty "tuple") (by rfl) M.tuple (by decide +kernel) rfl) pa_nil))))) (pw_or (pt_cmpR op_ne (pe_callB call_len_seq (by rfl) M.len PySem.boot_len (pa_cons (pv 0) pa_nil)) pe_int (nomark _)) (pw_or1 (pt_not (pt_val (pe_callB (id := "isinstance") call_isi (by rfl) M.isi (by decide +kernel) (pa_cons (pe_ix ix_tup (pv 0) pe_int (fun _ _ => rfl)) (pa_cons (pe_bltn (v := .ty "tuple") (by rfl) M.tuple (by decide +kernel) rfl) pa_nil))))))))) (pss_one (ps_ret pe_bl)) pss_nil)
    (pss_one (ps_ret (pe_and (pe_call GY r5 rfl mY kY bY .nil pass0 (pa_cons (pe_ix ix_tup (pv 0) pe_int (fun _ _ => rfl)) pa_nil)) (pe_one (pe_callB (cr_all rfl) (by rfl) M.all (by decide +kernel) (pa_cons (pe_lc (own := [("step", 1)]) (g := gName 1) (tt := tYes) (te := tCall spIsSt [] E0 (tCons (tVar 1) tNil)) rfl scIsCh.nd (pi_tup (pe_ix ix_tup (pv 0) pe_int (fun _ _ => rfl))) (blkOk_by (N := ["thing", "step"]) (sc := defScope sIsChart) (by decide +kernel)) (fun _ _ _ _ _ => (pg_name (i := 1) scIsCh.nd rfl (Or.inl rfl))) (fun _ _ _ _ _ => pts_nil) (fun _ _ _ _ _ => (pe_call GT r6 (by rfl) mT kT bT .nil pass0 (pa_cons (pv 1) pa_nil)))) pa_nil))))))), ?_⟩
  have no : ∀ {H' : Hp}, Same H H' → ¬ IsCh d → Q (.bl false) H' := fun s h => q false _ ⟨(fun e => nomatch e), fun z => absurd z h⟩ s
  refine ⟨_, rfl, _, _, _, _, isU d, rfl, .ty "tuple", D.tyx, kitU d, isU d, rfl, ?_⟩
  cases d with
  | tuple ds =>
    obtain ⟨p, xs, rfl, hp, A'⟩ := D.tup_of
    have el := A'.len
    refine iteF ?_
    refine ⟨_, rfl, p, _, rfl, .inr (.inl hp), rfl, !decide (V.int ((xs.length : Nat) : Int) = V.int 2), rfl, ?_⟩
    by_cases h2 : xs.length = 2
    · rw [decide_eq_true (by rw [h2]; rfl)]
      refine iteF ?_
      match ds, xs, A', h2 with
      | [dh, dg], [x0, x1], A', _ =>
        obtain ⟨_, _, e', D0, A1⟩ := A'.head
        injection e' with e1 e2
        subst e1 e2
        obtain ⟨_, _, e', D1, _⟩ := A1.head
        injection e' with e1 e2
        subst e1
        have ok0 := ok.tup dh (by simp)
        have ok1 := ok.tup dg (by simp)
        refine ⟨_, rfl, p, _, _, _, rfl, rfl, .inl hp, at_of (j := 1) rfl rfl, _, _, _, _, isU dg, rfl, .ty "tuple", D1.tyx, kitU dg, isU dg, rfl, ?_⟩
        cases dg with
        | tuple ss =>
          obtain ⟨u, ys, rfl, hu, Y⟩ := D1.tup_of
          have yl := Y.len
          have wide := ok1.sh.wide
          refine iteF ?_
          refine ⟨_, rfl, p, _, _, _, rfl, rfl, .inl hp, at_of (j := 0) rfl rfl, b, x0, dh, rfl, D0, ok0, fun r H2 hr2 s2 => ⟨r, rfl, ?_⟩⟩
          cases r with
          | false => exact iteF (no s2 fun z => by have := hr2.mpr z.1; cases this)
          | true =>
            have sy := hr2.mp rfl
            have hp2 := hp.same s2
            refine iteT ⟨_, rfl, p, _, _, _, rfl, rfl, .inl hp2, at_of (j := 1) rfl rfl, u, rfl, ⟨_, .inl (hu.same s2)⟩, fun DD hD => lc_pred (K := K) (b := b) (ds := ss) (Pd := IsSt) (by show 1 < 2; decide) hD (hu.same s2) (Y.same s2) (by omega)
              (fun x e H3 Q' he De _ k => ⟨b, x, e, rfl, De, ok1.tup e he, k⟩) fun bs H3 hb3 all3 s3 => ⟨DD, bs, rfl, .inl (.inl hb3), ?_⟩⟩
            exact q _ H3 ⟨fun h => ⟨sy, all3.mp h⟩, fun h => all3.mpr h.2⟩ (s2.trans s3)
        | _ => exact iteT (no (Same.refl H) fun z => z)
    · rw [decide_eq_false (by intro e; injection e with e; omega)]
      exact iteT (no (Same.refl H) (isCh_len (by omega)))
  | _ => exact iteT (no (Same.refl H) fun z => z)
theorem scChW : FnScope ["_law_thing", "_law_step"] ["_law_thing"] (defScope sChartL) := ⟨rfl, rfl, rfl, by decide +kernel, rfl, by decide +kernel, by decide +kernel⟩
theorem ok_chw {f fY fT : Addr} {fd dY dT : FuncData} (F : Fun K "_law_is_chart" "_law_is_chart" sChartL f fd)
    (GY : FnOk P w K mg base CX0 64 fY dY ["_law_thing"] spIsSy) (kY : PySem.W.keepIn K (.ref fY) = true) (bY : Binds K dY ["_law_thing"] []) (mY : mg "_law_is_saying" = some (.ref fY))
    (GT : FnOk P w K mg base CX0 65 fT dT ["_law_thing"] spStW) (kT : PySem.W.keepIn K (.ref fT) = true) (bT : Binds K dT ["_law_thing"] []) (mT : mg "_law_is_step" = some (.ref fT))
    (M : SameG mg) : FnOk P w K mg base CX0 66 f fd ["_law_thing"] spChW := by
  refine F.ok scChW (fun vs H Q E h => ?_) (fun cdv A outer s H vs Q E hr h => ?_)
  · obtain ⟨b, v, d, rfl, _⟩ := h
    rfl
  obtain ⟨b, v, d, rfl, D, ok, nine, q⟩ := h
  have r64 : Room 64 _ := hr.mono (by decide)
  have r65 : Room 65 _ := hr.mono (by decide)
  refine ⟨_, (pss_cons (ps_if (PW.pt (pw_or (pt_not (pt_val (pe_callB (id := "isinstance") call_isi (by rfl) M.isi (by decide +kernel) (pa_cons (pv 0) (pa_cons (pe_bltn (v := .ty "tuple") (by rfl) M.tuple (by decide +kernel) rfl) pa_nil))))) (pw_or (pt_cmpR op_ne (pe_callB call_len_seq (by rfl) M.len PySem.boot_len (pa_cons (pv 0) pa_nil)) pe_int (nomark _)) (pw_or1 (pt_not (pt_val (pe_call GY r64 rfl mY kY bY .nil pass0 (pa_cons (pe_ix ix_tup (pv 0) pe_int (fun _ _ => rfl)) pa_nil)))))))) (pss_one (ps_ret pe_bl)) pss_nil)
    (pss_one (ps_ret (pe_and (pe_callB (id := "isinstance") call_isi (by rfl) M.isi (by decide +kernel) (pa_cons (pe_ix ix_tup (pv 0) pe_int (fun _ _ => rfl)) (pa_cons (pe_bltn (v := .ty "tuple") (by rfl) M.tuple (by decide +kernel) rfl) pa_nil))) (pe_one (pe_callB (cr_all rfl) (by rfl) M.all (by decide +kernel) (pa_cons (pe_lc (own := [("_law_step", 1)]) (g := gName 1) (tt := tYes) (te := tCall spStW [] E0 (tCons (tVar 1) tNil)) rfl scChW.nd (pi_tup (pe_ix ix_tup (pv 0) pe_int (fun _ _ => rfl))) (blkOk_by (N := ["_law_thing", "_law_step"]) (sc := defScope sChartL) (by decide +kernel)) (fun _ _ _ _ _ => (pg_name (i := 1) scChW.nd rfl (Or.inl rfl))) (fun _ _ _ _ _ => pts_nil) (fun _ _ _ _ _ => (pe_call GT r65 (by rfl) mT kT bT .nil pass0 (pa_cons (pv 1) pa_nil)))) pa_nil))))))), ?_⟩
  have no : ∀ {H' : Hp}, Same H H' → ¬ IsCh d → Q (.bl false) H' := fun s h => q false _ ⟨(fun e => nomatch e), fun z => absurd z h⟩ s
  refine ⟨_, rfl, _, _, _, _, isU d, rfl, .ty "tuple", D.tyx, kitU d, isU d, rfl, ?_⟩
  cases d with
  | tuple ds =>
    obtain ⟨p, xs, rfl, hp, A'⟩ := D.tup_of
    have el := A'.len
    refine iteF ?_
    refine ⟨_, rfl, p, _, rfl, .inr (.inl hp), rfl, !decide (V.int ((xs.length : Nat) : Int) = V.int 2), rfl, ?_⟩
    by_cases h2 : xs.length = 2
    · rw [decide_eq_true (by rw [h2]; rfl)]
      refine iteF ?_
      match ds, xs, A', h2 with
      | [dh, dg], [x0, x1], A', _ =>
        obtain ⟨_, _, e', D0, A1⟩ := A'.head
        injection e' with e1 e2
        subst e1 e2
        obtain ⟨_, _, e', D1, _⟩ := A1.head
        injection e' with e1 e2
        subst e1
        have ok0 := ok.tup dh (by simp)
        have ok1 := ok.tup dg (by simp)
        refine ⟨_, rfl, p, _, _, _, rfl, rfl, .inl hp, at_of (j := 0) rfl rfl, b, x0, dh, rfl, D0, ok0, fun r H2 hr2 s2 => ⟨r, rfl, ?_⟩⟩
        cases r with
        | false => exact iteT (no s2 fun z => by
            have : IsSy dh := by
              cases dg with
              | tuple ss => exact z.1
              | _ => exact z.elim
            have := hr2.mpr this
            cases this)
        | true =>
          have sy := hr2.mp rfl
          have hp2 := hp.same s2
          refine iteF ⟨_, rfl, p, _, _, _, rfl, rfl, .inl hp2, at_of (j := 1) rfl rfl, _, _, _, _, isU dg, rfl, .ty "tuple", (D1.same s2).tyx, kitU dg, isU dg, rfl, ?_⟩
          cases dg with
          | tuple ss =>
            obtain ⟨u, ys, rfl, hu, Y⟩ := D1.tup_of
            have yl := Y.len
            have wide := ok1.sh.wide
            refine iteT ⟨_, rfl, p, _, _, _, rfl, rfl, .inl hp2, at_of (j := 1) rfl rfl, u, rfl, ⟨_, .inl (hu.same s2)⟩, fun DD hD => lc_pred (K := K) (b := b) (ds := ss) (Pd := IsSt) (by show 1 < 2; decide) hD (hu.same s2) (Y.same s2) (by omega)
              (fun x e H3 Q' he De _ k => ⟨b, x, e, rfl, De, ok1.tup e he, (fun es z => nine dh ss rfl es (by rw [← z]; exact he)), k⟩) fun bs H3 hb3 all3 s3 => ⟨DD, bs, rfl, .inl (.inl hb3), ?_⟩⟩
            exact q _ H3 ⟨fun h => ⟨sy, all3.mp h⟩, fun h => all3.mpr h.2⟩ (s2.trans s3)
          | _ => exact iteF (no s2 fun z => z)
    · rw [decide_eq_false (by intro e; injection e with e; omega)]
      exact iteT (no (Same.refl H) (isCh_len (by omega)))
  | _ => exact iteT (no (Same.refl H) fun z => z)
end
end Rp

set_option maxHeartbeats 16000000
/-! leaned, goals: what the steps of a CHART name. -/
namespace Rp
open PySem PySem.Spec PyProof.Rows L2 TL RZ StX PpSet
def StepAt (H : Hp) (x : V) (s : Str × Option V) : Prop := ∃ (a : Addr) (ys : List V), x = .ref a ∧ TupAt H a (.str s.1 :: ys) ∧ ys[0]? = s.2
def NmAt (H : Hp) (v : V) (l : List (Str × Option V)) : Prop := ∃ (p q : Addr) (x0 : V) (xs : List V), v = .ref p ∧ TupAt H p [x0, .ref q] ∧ TupAt H q xs ∧ Paired (StepAt H) xs l
structure NmOk (l : List (Str × Option V)) : Prop where
  few : l.length ≤ 60
  ln : ∀ s ∈ l, s.1 = "lean" → ∃ x, s.2 = some (.str x)
  bk : ∀ s ∈ l, s.1 = "back" → ∃ n, s.2 = some (.int n)
theorem NmAt.tups {H H' : Hp} {v : V} {l : List (Str × Option V)} (e : ∀ a xs, TupAt H a xs → TupAt H' a xs) (h : NmAt H v l) : NmAt H' v l := by
  obtain ⟨p, q, x0, xs, rfl, h1, h2, h3⟩ := h
  exact ⟨p, q, x0, xs, rfl, e _ _ h1, e _ _ h2, L2.Paired.mapP h3 fun x s ⟨a, ys, e1, e2, e3⟩ => ⟨a, ys, e1, e _ _ e2, e3⟩⟩
theorem NmAt.same {H H' : Hp} {v : V} {l : List (Str × Option V)} (s : Same H H') (h : NmAt H v l) : NmAt H' v l := h.tups fun _ _ z => TupAt.same s z
theorem paired_getN {α β : Type} {R : α → β → Prop} : ∀ {l : List α} {m : List β} {i : Nat} {x : α}, Paired R l m → l[i]? = some x → ∃ y, m[i]? = some y ∧ R x y
  | _, _, i, x, .nil, h => by simp at h
  | _, _, 0, x, .cons (b := b) h _, e => ⟨b, rfl, by simp at e; subst e; exact h⟩
  | _, _, i + 1, x, .cons _ t, e => by simpa using paired_getN t (by simpa using e)
theorem paired_lenN {α β : Type} {R : α → β → Prop} : ∀ {l : List α} {m : List β}, Paired R l m → l.length = m.length
  | _, _, .nil => rfl
  | _, _, .cons _ t => congrArg (· + 1) (paired_lenN t)
theorem step_nm {H : Hp} {b : Addr} {x : V} {d : PyData} (D : DAt H b x d) (st : IsSt d) : ∃ s : Str × Option V, StepAt H x s ∧ (s.1 = "lean" → ∃ x, s.2 = some (.str x)) ∧ (s.1 = "back" → ∃ n, s.2 = some (.int n)) := by
  have lb : ("lean" : Str) ≠ "back" := by decide +kernel
  cases d with
  | tuple es =>
    obtain ⟨a, ys, rfl, ha, E⟩ := D.tup_of
    cases es with
    | nil => exact st.elim
    | cons e1 es =>
    cases ys with
    | nil => have := E.len; simp at this
    | cons y1 ys =>
    obtain ⟨_, _, e', D1, E2⟩ := E.head
    injection e' with z1 z2
    subst z1 z2
    cases es with
    | nil =>
      have st : e1 = .str "by" := st
      subst st
      cases D1.str_of
      cases ys with
      | cons => have := E2.len; simp at this
      | nil => exact ⟨("by", none), ⟨a, [], rfl, ha, rfl⟩, fun z => absurd z (by decide +kernel), fun z => absurd z (by decide +kernel)⟩
    | cons e2 es =>
    cases ys with
    | nil => have := E2.len; simp at this
    | cons y2 ys =>
    obtain ⟨_, _, e', D2, E3⟩ := E2.head
    injection e' with z1 z2
    subst z1 z2
    cases es with
    | nil =>
      obtain ⟨w, rfl, wl, wb⟩ : ∃ w : Str, e1 = .str w ∧ w ≠ "lean" ∧ w ≠ "back" := by
        rcases (show (e1 = .str "cut" ∧ IsAm e2) ∨ ((e1 = .str "split" ∨ e1 = .str "use") ∧ IsPl e2) from st) with ⟨z, _⟩ | ⟨z | z, _⟩
        · exact ⟨_, z, by decide +kernel, by decide +kernel⟩
        · exact ⟨_, z, by decide +kernel, by decide +kernel⟩
        · exact ⟨_, z, by decide +kernel, by decide +kernel⟩
      cases D1.str_of
      exact ⟨(w, some y2), ⟨a, y2 :: ys, rfl, ha, rfl⟩, fun z => absurd z wl, fun z => absurd z wb⟩
    | cons e3 es =>
    cases es with
    | cons => exact (show False from st).elim
    | nil =>
    have nl : ("as" : Str) ≠ "lean" := by decide +kernel
    have na : ("as" : Str) ≠ "back" := by decide +kernel
    rcases (show (e1 = .str "back" ∧ IsPl e2 ∧ IsBdD e3) ∨ (e1 = .str "as" ∧ IsSy e2 ∧ IsBdD e3) ∨ (e1 = .str "lean" ∧ IsNm e2 ∧ IsBdD e3) from st) with ⟨rfl, ⟨n, rfl, _⟩, _⟩ | ⟨rfl, _, _⟩ | ⟨rfl, ⟨x, rfl, _⟩, _⟩
    · cases D1.str_of
      cases D2.int_of
      exact ⟨("back", some (.int n)), ⟨a, .int n :: ys, rfl, ha, rfl⟩, fun z => absurd z.symm lb, fun _ => ⟨n, rfl⟩⟩
    · cases D1.str_of
      exact ⟨("as", some y2), ⟨a, y2 :: ys, rfl, ha, rfl⟩, fun z => absurd z nl, fun z => absurd z na⟩
    · cases D1.str_of
      cases D2.str_of
      exact ⟨("lean", some (.str x)), ⟨a, .str x :: ys, rfl, ha, rfl⟩, fun _ => ⟨x, rfl⟩, fun z => absurd z lb⟩
  | _ => exact (show False from st).elim
theorem steps_nm {H : Hp} {b : Addr} : ∀ (ss : List PyData) {xs : List V}, DAtAll H b xs ss → (∀ s ∈ ss, IsSt s) → ∃ l : List (Str × Option V), Paired (StepAt H) xs l ∧ (∀ s ∈ l, s.1 = "lean" → ∃ x, s.2 = some (.str x)) ∧ (∀ s ∈ l, s.1 = "back" → ∃ n, s.2 = some (.int n)) := by
  intro ss
  induction ss with
  | nil =>
    intro xs A _
    have := A.len
    cases xs with
    | nil => exact ⟨[], .nil, by simp, by simp⟩
    | cons => simp at this
  | cons d ss ih =>
    intro xs A h
    cases xs with
    | nil => have := A.len; simp at this
    | cons x xs =>
    obtain ⟨d', ds', e, D, A'⟩ := A.head
    injection e with e1 e2
    subst e1 e2
    obtain ⟨l, P, h1, h2⟩ := ih A' fun s hs => h s (by simp [hs])
    obtain ⟨s, S, q1, q2⟩ := step_nm D (h d (by simp))
    refine ⟨s :: l, .cons S P, fun z hz => ?_, fun z hz => ?_⟩
    · rcases List.mem_cons.mp hz with rfl | hz
      · exact q1
      · exact h1 z hz
    · rcases List.mem_cons.mp hz with rfl | hz
      · exact q2
      · exact h2 z hz
theorem nm_of {H : Hp} {b : Addr} {v : V} {a : PyData} {ss : List PyData} (D : DAt H b v (.tuple [a, .tuple ss])) (st : ∀ s ∈ ss, IsSt s) (few : ss.length ≤ 60) : ∃ l, NmAt H v l ∧ NmOk l := by
  obtain ⟨p, xs, rfl, hp, A⟩ := D.tup_of
  obtain ⟨x0, xs, rfl⟩ : ∃ x0 r, xs = x0 :: r := by
    cases xs with
    | nil => have := A.len; simp at this
    | cons x0 r => exact ⟨x0, r, rfl⟩
  obtain ⟨_, _, e', D0, A1⟩ := A.head
  injection e' with e1 e2
  subst e1 e2
  obtain ⟨x1, xs, rfl⟩ : ∃ x0 r, xs = x0 :: r := by
    cases xs with
    | nil => have := A1.len; simp at this
    | cons x0 r => exact ⟨x0, r, rfl⟩
  obtain ⟨_, _, e', D1, A2⟩ := A1.head
  injection e' with e1 e2
  subst e1 e2
  obtain rfl : xs = [] := by
    cases xs with
    | nil => rfl
    | cons => have := A2.len; simp at this
  obtain ⟨q, ys, rfl, hq, Y⟩ := D1.tup_of
  obtain ⟨l, P, h1, h2⟩ := steps_nm ss Y st
  have yl := Y.len
  have pl := paired_lenN P
  exact ⟨l, ⟨p, q, x0, ys, rfl, hp, hq, P⟩, by omega, h1, h2⟩
/-- what the steps of one word name -/
def txtOf : Option V → Option Str
  | some (.str x) => some x
  | _ => none
def intOf : Option V → Option Int
  | some (.int x) => some x
  | _ => none
def leanOf (l : List (Str × Option V)) : List Str := l.filterMap fun (s : Str × Option V) => if s.1 = ("lean" : Str) then txtOf s.2 else none
def backOf (l : List (Str × Option V)) : List Int := l.filterMap fun (s : Str × Option V) => if s.1 = ("back" : Str) then intOf s.2 else none
def spNmT : Sp := fun vs H Q _ => ∃ (v : V) (l : List (Str × Option V)), vs = [v, .str "lean"] ∧ NmAt H v l ∧ NmOk l ∧ ∀ (p : Addr) (xs : List Str) (H' : Hp), H p = none → H' p = some (.lst (xs.map V.str)) → sortedS xs = true → xs.Nodup → (∀ x, x ∈ xs ↔ x ∈ leanOf l) → xs.length ≤ 60 → Same H H' → Q (.ref p) H'
def spNmI : Sp := fun vs H Q _ => ∃ (v : V) (l : List (Str × Option V)), vs = [v, .str "back"] ∧ NmAt H v l ∧ NmOk l ∧ ∀ (p : Addr) (xs : List Int) (H' : Hp), H p = none → H' p = some (.lst (xs.map V.int)) → xs.Pairwise (· < ·) → (∀ x, x ∈ xs ↔ x ∈ backOf l) → xs.length ≤ 60 → Same H H' → Q (.ref p) H'
def spLeaned : Sp := fun vs H Q _ => ∃ (v : V) (l : List (Str × Option V)), vs = [v] ∧ NmAt H v l ∧ NmOk l ∧ ∀ (p : Addr) (xs : List Str) (H' : Hp), H p = none → H' p = some (.lst (xs.map V.str)) → sortedS xs = true → xs.Nodup → (∀ x, x ∈ xs ↔ x ∈ leanOf l) → xs.length ≤ 60 → Same H H' → Q (.ref p) H'
def spGoals : Sp := fun vs H Q _ => ∃ (v : V) (l : List (Str × Option V)), vs = [v] ∧ NmAt H v l ∧ NmOk l ∧ ∀ (p : Addr) (xs : List Int) (H' : Hp), H p = none → H' p = some (.lst (xs.map V.int)) → xs.Pairwise (· < ·) → (∀ x, x ∈ xs ↔ x ∈ backOf l) → xs.length ≤ 60 → Same H H' → Q (.ref p) H'
def ttNm (K : PySem.W.Frag) (i : Nat) (e : TE) : TT := tTest (tOp rEq (tOp (rIxT K) (tVar i) (tC (.int 0))) e)
def teNm (K : PySem.W.Frag) (i : Nat) : TE := tOp (rIxT K) (tVar i) (tC (.int 1))
theorem lean_snoc {l : List (Str × Option V)} {s : Str × Option V} : leanOf (l ++ [s]) = leanOf l ++ leanOf [s] := by unfold leanOf; rw [List.filterMap_append]
theorem back_snoc {l : List (Str × Option V)} {s : Str × Option V} : backOf (l ++ [s]) = backOf l ++ backOf [s] := by unfold backOf; rw [List.filterMap_append]
theorem none_lean {s : Str × Option V} (h : s.1 ≠ ("lean" : Str)) : leanOf [s] = [] := by simp [leanOf, h]
theorem one_lean {s : Str × Option V} {x : Str} (h : s.1 = ("lean" : Str)) (e : s.2 = some (.str x)) : leanOf [s] = [x] := by simp [leanOf, h, e, txtOf]
theorem none_back {s : Str × Option V} (h : s.1 ≠ ("back" : Str)) : backOf [s] = [] := by simp [backOf, h]
theorem one_back {s : Str × Option V} {x : Int} (h : s.1 = ("back" : Str)) (e : s.2 = some (.int x)) : backOf [s] = [x] := by simp [backOf, h, e, intOf]
theorem same_none {H H' : Hp} (e : Same H H') {b : Addr} (h : H' b = none) : H b = none := by
  cases q : H b with
  | none => rfl
  | some u => have := e _ _ q; rw [h] at this; cases this
section
variable {P : Program} {w : World} {K : PySem.W.Frag} {mg : Str → Option Value} {base : Heap}
theorem scNm : FnScope ["chart", "word", "step"] ["chart", "word"] (defScope sNamed) := ⟨rfl, rfl, rfl, by decide +kernel, rfl, by decide +kernel, by decide +kernel⟩
theorem scLe : FnScope ["chart"] ["chart"] (defScope sLeaned) := ⟨rfl, rfl, rfl, by decide +kernel, rfl, by decide +kernel, by decide +kernel⟩
theorem scGo : FnScope ["chart"] ["chart"] (defScope sGoals) := ⟨rfl, rfl, rfl, by decide +kernel, rfl, by decide +kernel, by decide +kernel⟩
theorem ok_nmT {f : Addr} {fd : FuncData} (F : Fun K "_named" "_named" sNamed f fd) (mSorted : mg "sorted" = none) : FnOk P w K mg base CX0 1 f fd ["chart", "word"] spNmT := by
  refine F.ok scNm (fun vs H Q E h => ?_) (fun cdv A outer s H vs Q E hr h => ?_)
  · obtain ⟨v, l, rfl, _⟩ := h
    rfl
  obtain ⟨v, l, rfl, N, ok, q⟩ := h
  refine ⟨_, (pss_one (ps_ret (pe_callB (cr_sortTx rfl) (by rfl) mSorted (by decide +kernel) (pa_cons (pe_scT (own := [("step", 2)]) (g := gName 2) (tt := ttNm K 2 (tVar 1)) (te := teNm K 2) rfl scNm.nd (pi_tup (pe_ix ix_tup (pv 0) pe_int (fun _ _ => rfl))) (blkOk_by (N := ["chart", "word", "step"]) (sc := defScope sNamed) (by decide +kernel)) (fun _ _ _ _ _ => (pg_name (i := 2) scNm.nd rfl (Or.inl rfl))) (fun _ _ _ _ _ => pts_one (pt_cmpR op_eq (pe_ix ix_tup (pv 2) pe_int (fun _ _ => rfl)) (pv 1) (nomark _))) (fun _ _ _ _ _ => (pe_ix ix_tup (pv 2) pe_int (fun _ _ => rfl)))) pa_nil)))), ?_⟩
  obtain ⟨p, u, x0, xs, rfl, hp, hu, Pr⟩ := N
  have len := paired_lenN Pr
  have few := ok.few
  refine ⟨_, rfl, p, _, _, _, rfl, rfl, .inl hp, at_of (j := 1) rfl rfl, u, rfl, ⟨_, .inl hu⟩, fun D hD => scT_tup (K := K) (w := w) (a := u) (xs := xs) (fun i H2 => ∃ (S : Str → Bool) (n : Nat), H2 D = some (SetTx w D S n) ∧ (∀ x, S x = true ↔ x ∈ leanOf (l.take i)) ∧ n ≤ i ∧ Same H H2)
    ⟨_, 0, upd_same, by simp [leanOf], Nat.le_refl _, same_new hD _⟩ (fun i H2 _ ⟨_, _, _, _, _, s2⟩ => .inl (hu.same s2)) ?_ ?_⟩
  · rintro i x H2 hi ⟨S, n, h2, mem, ni, s2⟩
    obtain ⟨s, hs, a, ys, rfl, ha, e0⟩ := paired_getN Pr hi
    have li : i < l.length := (List.getElem?_eq_some_iff.mp hs).1
    have sm := List.mem_of_getElem? hs
    have tk : l.take (i + 1) = l.take i ++ [s] := by rw [List.take_add_one, hs]; rfl
    have ha2 := ha.same s2
    refine ⟨rfl, ?_⟩
    unfold ttNm teNm
    refine ⟨_, rfl, a, _, _, _, rfl, rfl, .inl ha2, at_of (j := 0) rfl rfl, _, rfl, rfl, decide (V.str s.1 = V.str ("lean" : Str)), rfl, ?_⟩
    by_cases e : s.1 = ("lean" : Str)
    · rw [decide_eq_true (by rw [e])]
      obtain ⟨y, hy⟩ := ok.ln s sm e
      refine iteT ⟨_, rfl, a, _, _, _, rfl, rfl, .inl ha2, at_of (j := 1) rfl (by show ys[0]? = _; rw [e0, hy]), y, S, n, rfl, h2, (by unfold scanBound; omega), _, _, upd_same, fun x => ?_, (by split <;> omega), fun c o z => by rw [upd_ne (ne_of_none z hD)]; exact s2 _ _ z⟩
      rw [Bool.or_eq_true, decide_eq_true_iff, mem x, tk, lean_snoc, List.mem_append, one_lean e hy, List.mem_singleton]
    · rw [decide_eq_false (fun z => e (by injection z))]
      refine iteF ⟨S, n, h2, fun x => ?_, by omega, s2⟩
      rw [mem x, tk, lean_snoc, none_lean e, List.append_nil]
  · rintro H2 ⟨S, n, h2, mem, ni, s2⟩
    rw [len, List.take_length] at mem
    rw [len] at ni
    exact ⟨D, S, n, rfl, h2, fun ys o so nd mem' yl ho => q o ys _ (same_none s2 ho) upd_same so nd (fun x => by rw [mem' x, mem x]) (by omega) (s2.trans (same_new ho _))⟩
theorem ok_nmI {f : Addr} {fd : FuncData} (F : Fun K "_named" "_named" sNamed f fd) (mSorted : mg "sorted" = none) : FnOk P w K mg base CX0 1 f fd ["chart", "word"] spNmI := by
  refine F.ok scNm (fun vs H Q E h => ?_) (fun cdv A outer s H vs Q E hr h => ?_)
  · obtain ⟨v, l, rfl, _⟩ := h
    rfl
  obtain ⟨v, l, rfl, N, ok, q⟩ := h
  refine ⟨_, (pss_one (ps_ret (pe_callB (cr_sortedSet rfl) (by rfl) mSorted (by decide +kernel) (pa_cons (pe_scI (own := [("step", 2)]) (g := gName 2) (tt := ttNm K 2 (tVar 1)) (te := teNm K 2) rfl scNm.nd (pi_tup (pe_ix ix_tup (pv 0) pe_int (fun _ _ => rfl))) (blkOk_by (N := ["chart", "word", "step"]) (sc := defScope sNamed) (by decide +kernel)) (fun _ _ _ _ _ => (pg_name (i := 2) scNm.nd rfl (Or.inl rfl))) (fun _ _ _ _ _ => pts_one (pt_cmpR op_eq (pe_ix ix_tup (pv 2) pe_int (fun _ _ => rfl)) (pv 1) (nomark _))) (fun _ _ _ _ _ => (pe_ix ix_tup (pv 2) pe_int (fun _ _ => rfl)))) pa_nil)))), ?_⟩
  obtain ⟨p, u, x0, xs, rfl, hp, hu, Pr⟩ := N
  have len := paired_lenN Pr
  have few := ok.few
  refine ⟨_, rfl, p, _, _, _, rfl, rfl, .inl hp, at_of (j := 1) rfl rfl, u, rfl, ⟨_, .inl hu⟩, fun D hD => scI_tup (K := K) (w := w) (a := u) (xs := xs) (fun i H2 => ∃ (S : Int → Bool) (n : Nat), H2 D = some (SetO w D S n) ∧ (∀ x, S x = true ↔ x ∈ backOf (l.take i)) ∧ n ≤ i ∧ Same H H2)
    ⟨_, 0, upd_same, by simp [backOf], Nat.le_refl _, same_new hD _⟩ (fun i H2 _ ⟨_, _, _, _, _, s2⟩ => .inl (hu.same s2)) ?_ ?_⟩
  · rintro i x H2 hi ⟨S, n, h2, mem, ni, s2⟩
    obtain ⟨s, hs, a, ys, rfl, ha, e0⟩ := paired_getN Pr hi
    have li : i < l.length := (List.getElem?_eq_some_iff.mp hs).1
    have sm := List.mem_of_getElem? hs
    have tk : l.take (i + 1) = l.take i ++ [s] := by rw [List.take_add_one, hs]; rfl
    have ha2 := ha.same s2
    refine ⟨rfl, ?_⟩
    unfold ttNm teNm
    refine ⟨_, rfl, a, _, _, _, rfl, rfl, .inl ha2, at_of (j := 0) rfl rfl, _, rfl, rfl, decide (V.str s.1 = V.str ("back" : Str)), rfl, ?_⟩
    by_cases e : s.1 = ("back" : Str)
    · rw [decide_eq_true (by rw [e])]
      obtain ⟨y, hy⟩ := ok.bk s sm e
      refine iteT ⟨_, rfl, a, _, _, _, rfl, rfl, .inl ha2, at_of (j := 1) rfl (by show ys[0]? = _; rw [e0, hy]), y, S, n, rfl, h2, (by unfold scanBound; omega), _, _, upd_same, fun x => ?_, (by split <;> omega), fun c o z => by rw [upd_ne (ne_of_none z hD)]; exact s2 _ _ z⟩
      rw [Bool.or_eq_true, decide_eq_true_iff, mem x, tk, back_snoc, List.mem_append, one_back e hy, List.mem_singleton]
    · rw [decide_eq_false (fun z => e (by injection z))]
      refine iteF ⟨S, n, h2, fun x => ?_, by omega, s2⟩
      rw [mem x, tk, back_snoc, none_back e, List.append_nil]
  · rintro H2 ⟨S, n, h2, mem, ni, s2⟩
    rw [len, List.take_length] at mem
    rw [len] at ni
    exact ⟨D, S, n, rfl, h2, by omega, fun ys o up mem' yl ho => q o ys _ (same_none s2 ho) upd_same up (fun x => by rw [mem' x, mem x]) (by omega) (s2.trans (same_new ho _))⟩
theorem ok_leaned {f fN : Addr} {fd dN : FuncData} (F : Fun K "leaned" "leaned" sLeaned f fd)
    (GN : FnOk P w K mg base CX0 1 fN dN ["chart", "word"] spNmT) (kN : PySem.W.keepIn K (.ref fN) = true) (bN : Binds K dN ["chart", "word"] []) (mN : mg "_named" = some (.ref fN)) : FnOk P w K mg base CX0 2 f fd ["chart"] spLeaned := by
  refine F.ok scLe (fun vs H Q E h => ?_) (fun cdv A outer s H vs Q E hr h => ?_)
  · obtain ⟨v, l, rfl, _⟩ := h
    rfl
  obtain ⟨v, l, rfl, N, ok, q⟩ := h
  refine ⟨_, (pss_one (ps_ret (pe_call GN hr rfl mN kN bN .nil pass0 (pa_cons (pv 0) (pa_cons pe_str pa_nil))))), ?_⟩
  exact ⟨_, rfl, v, l, rfl, N, ok, q⟩
theorem ok_goals {f fN : Addr} {fd dN : FuncData} (F : Fun K "goals" "goals" sGoals f fd)
    (GN : FnOk P w K mg base CX0 1 fN dN ["chart", "word"] spNmI) (kN : PySem.W.keepIn K (.ref fN) = true) (bN : Binds K dN ["chart", "word"] []) (mN : mg "_named" = some (.ref fN)) : FnOk P w K mg base CX0 2 f fd ["chart"] spGoals := by
  refine F.ok scGo (fun vs H Q E h => ?_) (fun cdv A outer s H vs Q E hr h => ?_)
  · obtain ⟨v, l, rfl, _⟩ := h
    rfl
  obtain ⟨v, l, rfl, N, ok, q⟩ := h
  refine ⟨_, (pss_one (ps_ret (pe_call GN hr rfl mN kN bN .nil pass0 (pa_cons (pv 0) (pa_cons pe_str pa_nil))))), ?_⟩
  exact ⟨_, rfl, v, l, rfl, N, ok, q⟩
end
end Rp

set_option maxHeartbeats 16000000
/-! _law_named_right. -/
namespace Rp
open PySem PySem.Spec PyProof.Rows L2 TL RZ StX PpSet
theorem str_extN {x y : Str} (h : x.cps.toList = y.cps.toList) : x = y := PySem.W.str_of_cps h
theorem rising_pairN : ∀ {l : List Str} {p : Str}, risingS p l = true → (p :: l).Pairwise (fun a b => a.cps.toList ≤ b.cps.toList)
  | [], p, _ => by simp
  | x :: l, p, h => by
    have h' : (!ltCps x.cps.toList p.cps.toList && risingS x l) = true := h
    rw [Bool.and_eq_true] at h'
    have ih := rising_pairN h'.2
    have px : p.cps.toList ≤ x.cps.toList := by
      have q := h'.1
      rw [ltCps_eq] at q
      simpa using q
    refine List.pairwise_cons.mpr ⟨fun y hy => ?_, ih⟩
    rcases List.mem_cons.mp hy with rfl | hy
    · exact px
    · exact List.le_trans px ((List.pairwise_cons.mp ih).1 y hy)
theorem sorted_pairN {l : List Str} (h : sortedS l = true) : l.Pairwise (fun a b => a.cps.toList ≤ b.cps.toList) := by
  cases l with
  | nil => simp
  | cons x l => exact rising_pairN h
theorem sortedS_one {a b : List Str} (ha : sortedS a = true) (hb : sortedS b = true) (na : a.Nodup) (nb : b.Nodup) (m : ∀ x, x ∈ a ↔ x ∈ b) : a = b :=
  List.Perm.eq_of_pairwise (fun x y _ _ h1 h2 => str_extN (List.le_antisymm h1 h2)) (sorted_pairN ha) (sorted_pairN hb) ((List.perm_ext_iff_of_nodup na nb).mpr m)
theorem alike_strs {H : Hp} {n : Nat} {a b : Addr} {xs : List Str} (ha : H a = some (.lst (xs.map V.str))) (hb : H b = some (.lst (xs.map V.str))) (hl : xs.length ≤ 1000000) : Alike H (n + 1) (.ref a) (.ref b) := by
  unfold Alike
  refine .inr ⟨a, b, _, _, rfl, rfl, .inl ⟨ha, hb⟩, rfl, by rw [List.length_map]; exact hl, fun i u v h1 h2 => ?_⟩
  obtain rfl : u = v := Option.some.inj (h1.symm.trans h2)
  rw [List.getElem?_map] at h1
  cases q : xs[i]? with
  | none => rw [q] at h1; cases h1
  | some k =>
    rw [q] at h1
    cases h1
    cases n with
    | zero => unfold Alike; exact ⟨trivial, rfl⟩
    | succ n => unfold Alike; exact .inl ⟨trivial, rfl⟩
theorem alike_pairL {H : Hp} {d e a b a' b' : Addr} {xs : List Str} {ns : List Int} (hd : H d = some (.lst [.ref a, .ref b])) (he : H e = some (.lst [.ref a', .ref b'])) (h1 : H a = some (.lst (xs.map V.str))) (h2 : H a' = some (.lst (xs.map V.str)))
    (h3 : H b = some (.lst (ns.map V.int))) (h4 : H b' = some (.lst (ns.map V.int))) (l1 : xs.length ≤ 1000000) (l2 : ns.length ≤ 1000000) : Alike H 2 (.ref d) (.ref e) := by
  unfold Alike
  refine .inr ⟨d, e, _, _, rfl, rfl, .inl ⟨hd, he⟩, rfl, by simp, fun i u v p q => ?_⟩
  match i with
  | 0 =>
    obtain rfl := Option.some.inj p
    obtain rfl := Option.some.inj q
    exact alike_strs h1 h2 l1
  | 1 =>
    obtain rfl := Option.some.inj p
    obtain rfl := Option.some.inj q
    exact alike_ints h3 h4 l2
  | i + 2 => simp at p
def spNRight : Sp := fun vs H Q _ => ∃ (v : V) (l : List (Str × Option V)), vs = [v] ∧ NmAt H v l ∧ NmOk l ∧ ∀ H', Same H H' → Q (.bl true) H'
abbrev NNr : List Str := ["_law_chart", "_law_names_here", "_law_spots", "_law_found", "_law_told", "_law_step"]
/-- the law's list of what steps of one word name -/
theorem lc_lean {K : PySem.W.Frag} {w : World} {H : Hp} {u : Addr} {xs : List V} {l : List (Str × Option V)} {D : Addr} {σ : L2.St} {Qd : Hp → Prop} (h5 : 5 < σ.length) (hD : H D = none) (hu : TupAt H u xs) (Pr : Paired (StepAt H) xs l) (ok : NmOk l)
    (go : ∀ H2, H2 D = some (.lst ((leanOf l).map V.str)) → Same H H2 → Qd H2) :
    ∃ W : Nat → Nat → Hp → Prop, (∃ m, W 0 m (upd H D (.lst []))) ∧ ∀ i m H, W i m H →
      ((Itt K u).stop i H ∧ Qd H) ∨ ((Itt K u).go i H ∧ ∃ Nx : Hp → Prop, (∀ H', Nx H' → ∃ m', m' < m ∧ W (i + 1) m' H') ∧ ∀ x H', (Itt K u).yld i H x H' → gName 5 x (wipe σ [5]) H' fun σ2 H2 => wipe σ2 [5] = wipe σ [5] ∧ ttNm K 5 (tC (.str "lean")) σ2 H2 fun b H3 =>
        if b = true then teNm K 5 σ2 H3 fun y H4 => ∃ acc, H4 D = some (.lst acc) ∧ acc.length < sizeLine ∧ Nx (upd H4 D (.lst (acc ++ [y]))) else Nx H3) := by
  have big : (2000 : Nat) ≤ sizeLine := by decide
  have few := ok.few
  have len := paired_lenN Pr
  refine lc_tup (K := K) (a := u) (xs := xs) (fun i H2 => H2 D = some (.lst ((leanOf (l.take i)).map V.str)) ∧ (leanOf (l.take i)).length ≤ i ∧ Same H H2)
    ⟨upd_same, Nat.le_refl _, same_new hD _⟩ (fun i H2 _ ⟨_, _, s2⟩ => .inl (hu.same s2)) ?_ ?_
  · rintro i x H2 hi ⟨h2, ni, s2⟩
    obtain ⟨s, hs, a, ys, rfl, ha, e0⟩ := paired_getN Pr hi
    have li : i < l.length := (List.getElem?_eq_some_iff.mp hs).1
    have sm := List.mem_of_getElem? hs
    have tk : l.take (i + 1) = l.take i ++ [s] := by rw [List.take_add_one, hs]; rfl
    have ha2 := ha.same s2
    refine ⟨wipe_one, ?_⟩
    have g5 : ((wipe σ [5]).set 5 (some (.ref a)))[5]? = some (some (V.ref a)) := by rw [List.getElem?_set_self (by rw [wipe_length]; exact h5)]
    unfold ttNm teNm
    refine ⟨_, g5, a, _, _, _, rfl, rfl, .inl ha2, at_of (j := 0) rfl rfl, rfl, decide (V.str s.1 = V.str ("lean" : Str)), rfl, ?_⟩
    by_cases e : s.1 = ("lean" : Str)
    · rw [decide_eq_true (by rw [e])]
      obtain ⟨y, hy⟩ := ok.ln s sm e
      refine iteT ⟨_, g5, a, _, _, _, rfl, rfl, .inl ha2, at_of (j := 1) rfl (by show ys[0]? = _; rw [e0, hy]), _, h2, by rw [List.length_map]; omega, ?_, ?_, fun c o z => by rw [upd_ne (ne_of_none z hD)]; exact s2 _ _ z⟩
      · rw [upd_same, tk, lean_snoc, one_lean e hy, List.map_append]; rfl
      · rw [tk, lean_snoc, one_lean e hy, List.length_append, List.length_singleton]; omega
    · rw [decide_eq_false (fun z => e (by injection z))]
      exact iteF ⟨by rw [tk, lean_snoc, none_lean e, List.append_nil]; exact h2, by rw [tk, lean_snoc, none_lean e, List.append_nil]; omega, s2⟩
  · rintro H2 ⟨h2, ni, s2⟩
    rw [len, List.take_length] at h2
    exact go H2 h2 s2
theorem lc_back {K : PySem.W.Frag} {w : World} {H : Hp} {u : Addr} {xs : List V} {l : List (Str × Option V)} {D : Addr} {σ : L2.St} {Qd : Hp → Prop} (h5 : 5 < σ.length) (hD : H D = none) (hu : TupAt H u xs) (Pr : Paired (StepAt H) xs l) (ok : NmOk l)
    (go : ∀ H2, H2 D = some (.lst ((backOf l).map V.int)) → Same H H2 → Qd H2) :
    ∃ W : Nat → Nat → Hp → Prop, (∃ m, W 0 m (upd H D (.lst []))) ∧ ∀ i m H, W i m H →
      ((Itt K u).stop i H ∧ Qd H) ∨ ((Itt K u).go i H ∧ ∃ Nx : Hp → Prop, (∀ H', Nx H' → ∃ m', m' < m ∧ W (i + 1) m' H') ∧ ∀ x H', (Itt K u).yld i H x H' → gName 5 x (wipe σ [5]) H' fun σ2 H2 => wipe σ2 [5] = wipe σ [5] ∧ ttNm K 5 (tC (.str "back")) σ2 H2 fun b H3 =>
        if b = true then teNm K 5 σ2 H3 fun y H4 => ∃ acc, H4 D = some (.lst acc) ∧ acc.length < sizeLine ∧ Nx (upd H4 D (.lst (acc ++ [y]))) else Nx H3) := by
  have big : (2000 : Nat) ≤ sizeLine := by decide
  have few := ok.few
  have len := paired_lenN Pr
  refine lc_tup (K := K) (a := u) (xs := xs) (fun i H2 => H2 D = some (.lst ((backOf (l.take i)).map V.int)) ∧ (backOf (l.take i)).length ≤ i ∧ Same H H2)
    ⟨upd_same, Nat.le_refl _, same_new hD _⟩ (fun i H2 _ ⟨_, _, s2⟩ => .inl (hu.same s2)) ?_ ?_
  · rintro i x H2 hi ⟨h2, ni, s2⟩
    obtain ⟨s, hs, a, ys, rfl, ha, e0⟩ := paired_getN Pr hi
    have li : i < l.length := (List.getElem?_eq_some_iff.mp hs).1
    have sm := List.mem_of_getElem? hs
    have tk : l.take (i + 1) = l.take i ++ [s] := by rw [List.take_add_one, hs]; rfl
    have ha2 := ha.same s2
    refine ⟨wipe_one, ?_⟩
    have g5 : ((wipe σ [5]).set 5 (some (.ref a)))[5]? = some (some (V.ref a)) := by rw [List.getElem?_set_self (by rw [wipe_length]; exact h5)]
    unfold ttNm teNm
    refine ⟨_, g5, a, _, _, _, rfl, rfl, .inl ha2, at_of (j := 0) rfl rfl, rfl, decide (V.str s.1 = V.str ("back" : Str)), rfl, ?_⟩
    by_cases e : s.1 = ("back" : Str)
    · rw [decide_eq_true (by rw [e])]
      obtain ⟨y, hy⟩ := ok.bk s sm e
      refine iteT ⟨_, g5, a, _, _, _, rfl, rfl, .inl ha2, at_of (j := 1) rfl (by show ys[0]? = _; rw [e0, hy]), _, h2, by rw [List.length_map]; omega, ?_, ?_, fun c o z => by rw [upd_ne (ne_of_none z hD)]; exact s2 _ _ z⟩
      · rw [upd_same, tk, back_snoc, one_back e hy, List.map_append]; rfl
      · rw [tk, back_snoc, one_back e hy, List.length_append, List.length_singleton]; omega
    · rw [decide_eq_false (fun z => e (by injection z))]
      exact iteF ⟨by rw [tk, back_snoc, none_back e, List.append_nil]; exact h2, by rw [tk, back_snoc, none_back e, List.append_nil]; omega, s2⟩
  · rintro H2 ⟨h2, ni, s2⟩
    rw [len, List.take_length] at h2
    exact go H2 h2 s2
theorem lean_len {l : List (Str × Option V)} : (leanOf l).length ≤ l.length := List.length_filterMap_le _ _
theorem back_len {l : List (Str × Option V)} : (backOf l).length ≤ l.length := List.length_filterMap_le _ _
section
variable {P : Program} {w : World} {K : PySem.W.Frag} {mg : Str → Option Value} {base : Heap}
theorem scNr : FnScope NNr ["_law_chart"] (defScope sNRight) := ⟨rfl, rfl, rfl, by decide +kernel, rfl, by decide +kernel, by decide +kernel⟩
theorem ok_nright {f fL fG fS : Addr} {fd dL dG dS : FuncData} (F : Fun K "_law_named_right" "_law_named_right" sNRight f fd)
    (GL : FnOk P w K mg base CX0 2 fL dL ["chart"] spLeaned) (kL : PySem.W.keepIn K (.ref fL) = true) (bL : Binds K dL ["chart"] []) (mL : mg "leaned" = some (.ref fL))
    (GG : FnOk P w K mg base CX0 2 fG dG ["chart"] spGoals) (kG : PySem.W.keepIn K (.ref fG) = true) (bG : Binds K dG ["chart"] []) (mG : mg "goals" = some (.ref fG))
    (GS : FnOk P w K mg base CX0 3 fS dS ["_law_found", "_law_due"] (spSame 3)) (kS : PySem.W.keepIn K (.ref fS) = true) (bS : Binds K dS ["_law_found", "_law_due"] []) (mS : mg "_law_same" = some (.ref fS))
    (mSorted : mg "sorted" = none) (mSet : mg "set" = none) : FnOk P w K mg base CX0 4 f fd ["_law_chart"] spNRight := by
  refine F.ok scNr (fun vs H Q E h => ?_) (fun cdv A outer s H vs Q E hr h => ?_)
  · obtain ⟨v, l, rfl, _⟩ := h
    rfl
  obtain ⟨v, l, rfl, N, ok, q⟩ := h
  have r2 : Room 2 _ := hr.mono (by decide)
  refine ⟨_, (pss_cons (ps_set (i := 1) scNr.nd rfl (Or.inl rfl) (pe_callB (cr_sortTx rfl) (by rfl) mSorted (by decide +kernel) (pa_cons (pe_callTy (cr_setTx rfl) (by rfl) mSet (by decide +kernel) (pa_cons (pe_lc (own := [("_law_step", 5)]) (g := gName 5) (tt := ttNm K 5 (tC (.str "lean"))) (te := teNm K 5) rfl scNr.nd (pi_tup (pe_ix ix_tup (pv 0) pe_int (fun _ _ => rfl))) (blkOk_by (N := NNr) (sc := defScope sNRight) (by decide +kernel)) (fun _ _ _ _ _ => (pg_name (i := 5) scNr.nd rfl (Or.inl rfl))) (fun _ _ _ _ _ => pts_one (pt_cmpR op_eq (pe_ix ix_tup (pv 5) pe_int (fun _ _ => rfl)) pe_str (nomark _))) (fun _ _ _ _ _ => (pe_ix ix_tup (pv 5) pe_int (fun _ _ => rfl)))) pa_nil)) pa_nil)))
    (pss_cons (ps_set (i := 2) scNr.nd rfl (Or.inl rfl) (pe_callB (cr_sortedSet rfl) (by rfl) mSorted (by decide +kernel) (pa_cons (pe_callTy (cr_setI rfl) (by rfl) mSet (by decide +kernel) (pa_cons (pe_lc (own := [("_law_step", 5)]) (g := gName 5) (tt := ttNm K 5 (tC (.str "back"))) (te := teNm K 5) rfl scNr.nd (pi_tup (pe_ix ix_tup (pv 0) pe_int (fun _ _ => rfl))) (blkOk_by (N := NNr) (sc := defScope sNRight) (by decide +kernel)) (fun _ _ _ _ _ => (pg_name (i := 5) scNr.nd rfl (Or.inl rfl))) (fun _ _ _ _ _ => pts_one (pt_cmpR op_eq (pe_ix ix_tup (pv 5) pe_int (fun _ _ => rfl)) pe_str (nomark _))) (fun _ _ _ _ _ => (pe_ix ix_tup (pv 5) pe_int (fun _ _ => rfl)))) pa_nil)) pa_nil)))
    (pss_cons (ps_par (i := 3) (j := 4) rfl scNr.nd rfl rfl (by decide) rfl rfl (pa_cons (pe_call GL r2 rfl mL kL bL .nil pass0 (pa_cons (pv 0) pa_nil)) (pa_cons (pe_call GG r2 rfl mG kG bG .nil pass0 (pa_cons (pv 0) pa_nil)) pa_nil)) (by rfl))
    (pss_cons (ps_if (pt_not (pt_val (pe_call GS hr rfl mS kS bS .nil pass0 (pa_cons (pe_lst (pa_cons (pv 3) (pa_cons (pv 4) pa_nil))) (pa_cons (pe_lst (pa_cons (pv 1) (pa_cons (pv 2) pa_nil))) pa_nil))))) (pss_one (ps_ret pe_bl)) pss_nil)
    (pss_cons (ps_expr (pe_bm PySem.F.plainAttrs_list PySem.F.slot_list_append PySem.F.type_list_append mt_append (pv 3) (pa_cons pe_str pa_nil)))
    (pss_cons (ps_expr (pe_bm0 PySem.F.plainAttrs_list PySem.F.slot_list_reverse PySem.F.type_list_reverse mt_reverse (pv 4)))
    (pss_cons (ps_expr (pe_bm PySem.F.plainAttrs_list PySem.F.slot_list_append PySem.F.type_list_append mt_append (pv 4) (pa_cons (pe_un un_neg pe_int) pa_nil)))
    (pss_one (ps_ret (pe_call GS hr rfl mS kS bS .nil pass0 (pa_cons (pe_lst (pa_cons (pe_call GL r2 rfl mL kL bL .nil pass0 (pa_cons (pv 0) pa_nil)) (pa_cons (pe_call GG r2 rfl mG kG bG .nil pass0 (pa_cons (pv 0) pa_nil)) pa_nil))) (pa_cons (pe_lst (pa_cons (pv 1) (pa_cons (pv 2) pa_nil))) pa_nil)))))))))))), ?_⟩
  have few := ok.few
  have ll := lean_len (l := l)
  have bl := back_len (l := l)
  obtain ⟨p, u, x0, xs, rfl, hp, hu, Pr⟩ := id N
  have big : (2000 : Nat) ≤ sizeLine := by decide
  -- the names
  refine ⟨_, rfl, p, _, _, _, rfl, rfl, .inl hp, at_of (j := 1) rfl rfl, u, rfl, ⟨_, .inl hu⟩, fun D hD => lc_lean (K := K) (w := w) (by show 5 < 6; decide) hD hu Pr ok fun H1 h1 s1 => ?_⟩
  refine ⟨D, leanOf l, rfl, .inl (.inl h1), by omega, fun S1 c1 hS1 cl1 => ?_⟩
  have s2 := same_new hS1 (SetTx (cxOf CX0 P w K mg base NNr "_law_named_right" (defScope sNRight) f cdv A outer s H E).nox.w S1 (fun j => decide (j ∈ leanOf l)) c1)
  refine ⟨S1, _, c1, rfl, upd_same, fun names g1 so nd mem nl hg1 => ?_⟩
  have s3 := same_new hg1 (.lst (names.map V.str))
  have g1at : (upd (upd H1 S1 (SetTx (cxOf CX0 P w K mg base NNr "_law_named_right" (defScope sNRight) f cdv A outer s H E).nox.w S1 (fun j => decide (j ∈ leanOf l)) c1)) g1 (.lst (names.map V.str))) g1 = some (.lst (names.map V.str)) := upd_same
  have s13 := s1.trans (s2.trans s3)
  generalize upd (upd H1 S1 (SetTx (cxOf CX0 P w K mg base NNr "_law_named_right" (defScope sNRight) f cdv A outer s H E).nox.w S1 (fun j => decide (j ∈ leanOf l)) c1)) g1 (.lst (names.map V.str)) = H3 at s13 g1at ⊢
  clear s1 s2 s3 h1 hS1 hD
  -- the spots
  have hp3 := hp.same s13
  have hu3 := hu.same s13
  have N3 := N.same s13
  obtain ⟨p', u', x0', xs', e', hp', hu', Pr3⟩ := id N3
  cases e'
  cases tupAt_one hp3 hp'
  cases tupAt_one hu3 hu'
  refine ⟨_, rfl, p, _, _, _, rfl, rfl, .inl hp3, at_of (j := 1) rfl rfl, u, rfl, ⟨_, .inl hu3⟩, fun D hD => lc_back (K := K) (w := w) (by show 5 < 6; decide) hD hu3 Pr3 ok fun H4 h4 s4 => ?_⟩
  refine ⟨D, backOf l, rfl, .inl (.inl h4), by omega, fun S2 c2 hS2 cl2 => ?_⟩
  have s5 := same_new hS2 (SetO (cxOf CX0 P w K mg base NNr "_law_named_right" (defScope sNRight) f cdv A outer s H E).nox.w S2 (fun j => decide (j ∈ backOf l)) c2)
  refine ⟨S2, _, c2, rfl, upd_same, by omega, fun spots g2 up mem2 nl2 hg2 => ?_⟩
  have s6 := same_new hg2 (.lst (spots.map V.int))
  have g2at : (upd (upd H4 S2 (SetO (cxOf CX0 P w K mg base NNr "_law_named_right" (defScope sNRight) f cdv A outer s H E).nox.w S2 (fun j => decide (j ∈ backOf l)) c2)) g2 (.lst (spots.map V.int))) g2 = some (.lst (spots.map V.int)) := upd_same
  have s36 := s4.trans (s5.trans s6)
  have g1at6 := s36 _ _ g1at
  generalize upd (upd H4 S2 (SetO (cxOf CX0 P w K mg base NNr "_law_named_right" (defScope sNRight) f cdv A outer s H E).nox.w S2 (fun j => decide (j ∈ backOf l)) c2)) g2 (.lst (spots.map V.int)) = H6 at s36 g1at6 g2at ⊢
  have s06 := s13.trans s36
  have N6 := N.same s06
  clear s4 s5 s6 h4 hS2 hD
  -- told
  refine ⟨_, rfl, _, l, rfl, N6, ok, fun p1 ts H7 hp1 h7 so1 nd1 mem1 tl1 s7 => ?_⟩
  obtain rfl : ts = names := sortedS_one so1 so nd1 nd fun x => by rw [mem1 x, mem x, decide_eq_true_iff]
  refine ⟨_, rfl, _, l, rfl, N6.same s7, ok, fun p2 ns H8 hp2 h8 up2 mem3 tl2 s8 => ?_⟩
  obtain rfl : ns = spots := rising_one up2 up fun x => by rw [mem3 x, mem2 x, decide_eq_true_iff]
  refine ⟨_, _, rfl, ?_⟩
  have s68 := s7.trans s8
  have g18 := s68 _ _ g1at6
  have g28 := s68 _ _ g2at
  have p18 := s8 _ _ h7
  have n12 : p1 ≠ p2 := ne_of_none h7 hp2
  have p2n6 := same_none s7 hp2
  have g1p1 := ne_of_none g1at6 hp1
  have g2p1 := ne_of_none g2at hp1
  have g1p2 := ne_of_none g1at6 p2n6
  have g2p2 := ne_of_none g2at p2n6
  refine ⟨_, rfl, _, rfl, (by show 2 ≤ sizeLine; decide), fun d1 hd1 => ?_⟩
  have s9 := same_new hd1 (.lst [V.ref p1, V.ref p2])
  refine ⟨_, rfl, _, rfl, (by show 2 ≤ sizeLine; decide), fun d2 hd2 => ?_⟩
  have s10 := same_new hd2 (.lst [V.ref g1, V.ref g2])
  have s810 := s9.trans s10
  refine ⟨_, _, 2, rfl, rfl, alike_pairL (s10 _ _ upd_same) upd_same (s810 _ _ p18) (s810 _ _ g18) (s810 _ _ h8) (s810 _ _ g28) (by omega) (by omega), fun H11 s11 => ⟨true, rfl, iteF ?_⟩⟩
  have s811 := s810.trans s11
  have h11a := s811 _ _ p18
  have h11b := s811 _ _ h8
  refine ⟨_, rfl, .inl ⟨rfl, _, .inl (.inl h11a)⟩, p1, _, _, rfl, rfl, h11a, (by rw [List.length_map]; omega), ?_⟩
  have h12b : (upd H11 p1 (.lst (ts.map V.str ++ [V.str "more"]))) p2 = some (.lst (ns.map V.int)) := by rw [upd_ne n12.symm]; exact h11b
  refine ⟨_, rfl, .inl ⟨rfl, _, .inl (.inl h12b)⟩, p2, _, rfl, rfl, h12b, ?_⟩
  refine ⟨_, rfl, .inl ⟨rfl, _, .inl (.inl upd_same)⟩, _, rfl, p2, _, _, rfl, rfl, upd_same, (by rw [List.length_reverse, List.length_map]; omega), ?_⟩
  rw [upd_upd]
  have s612 : ∀ c o, H6 c = some o → (upd (upd H11 p1 (.lst (ts.map V.str ++ [V.str "more"]))) p2 (.lst ((ns.map V.int).reverse ++ [V.int (-1)]))) c = some o := fun c o z => by
    rw [upd_ne (ne_of_none z p2n6), upd_ne (ne_of_none z hp1)]
    exact s811 _ _ (s68 _ _ z)
  generalize upd (upd H11 p1 (.lst (ts.map V.str ++ [V.str "more"]))) p2 (.lst ((ns.map V.int).reverse ++ [V.int (-1)])) = H12 at s612 ⊢
  have s012 : Same H H12 := s06.trans s612
  have N12 := N.same s012
  refine ⟨_, rfl, _, l, rfl, N12, ok, fun p3 ts' H13 hp3' h13 so3 nd3 mem4 tl3 s13' => ?_⟩
  obtain rfl : ts' = ts := sortedS_one so3 so nd3 nd fun x => by rw [mem4 x, mem x, decide_eq_true_iff]
  refine ⟨_, rfl, _, l, rfl, N12.same s13', ok, fun p4 ns' H14 hp4 h14 up4 mem5 tl4 s14 => ⟨(by show 2 ≤ sizeLine; decide), fun d3 hd3 => ?_⟩⟩
  obtain rfl : ns' = ns := rising_one up4 up fun x => by rw [mem5 x, mem2 x, decide_eq_true_iff]
  have s15 := same_new hd3 (.lst [V.ref p3, V.ref p4])
  refine ⟨_, rfl, _, rfl, (by show 2 ≤ sizeLine; decide), fun d4 hd4 => ?_⟩
  have s16 := same_new hd4 (.lst [V.ref g1, V.ref g2])
  have s1416 := s15.trans s16
  have g1z := s14 _ _ (s13' _ _ (s612 _ _ g1at6))
  have g2z := s14 _ _ (s13' _ _ (s612 _ _ g2at))
  refine ⟨_, _, 2, rfl, rfl, alike_pairL (s16 _ _ upd_same) upd_same (s1416 _ _ (s14 _ _ h13)) (s1416 _ _ g1z) (s1416 _ _ h14) (s1416 _ _ g2z) (by omega) (by omega), fun H17 s17 => ?_⟩
  exact q H17 (s012.trans (s13'.trans (s14.trans (s1416.trans s17))))
end
end Rp

set_option maxHeartbeats 8000000
/-! STEPs and CHARTs as data: how large. -/
namespace Rp
open PySem PySem.Spec PyProof.Rows L2 TL RZ StX
structure StF (d : PyData) : Prop where
  fq : Fq 12 (fun _ => 6) 7 d
  nd : nd d ≤ 200
  st : IsSt d
theorem asc_fq0 {x : Str} {k L : Nat} {W : Nat → Nat} (h : (decide (x.length ≤ L) && (tl x).all (fun c => decide (c < 128))) = true) : Fq k W L (.str x) := Asc.fq (asc_of h)
theorem stf_by : StF (.tuple [.str "by"]) := ⟨fq_tup.mpr ⟨by simp, fun d hd => by
    obtain rfl : d = .str "by" := by simpa using hd
    exact asc_fq0 (by decide +kernel)⟩, by simp [nd, ndAll], rfl⟩
theorem stf_pl {x : Str} {n : Int} (hx : x = "split" ∨ x = "use") (h : 0 ≤ n ∧ n ≤ 1000) : StF (.tuple [.str x, .int n]) := ⟨fq_tup.mpr ⟨by simp, fun d hd => by
    simp only [List.mem_cons, List.not_mem_nil, or_false] at hd
    rcases hd with rfl | rfl
    · rcases hx with rfl | rfl <;> exact asc_fq0 (by decide +kernel)
    · exact fq_int (by omega)⟩, by simp [nd, ndAll], .inr ⟨hx.imp (fun e => by rw [e]) (fun e => by rw [e]), n, rfl, h.1⟩⟩
theorem stf_cut {e : PyData} (h : Fq 8 (fun _ => 6) 7 e ∧ nd e ≤ 30 ∧ IsAm e) : StF (.tuple [.str "cut", e]) := ⟨fq_tup.mpr ⟨by simp, fun d hd => by
    simp only [List.mem_cons, List.not_mem_nil, or_false] at hd
    rcases hd with rfl | rfl
    · exact asc_fq0 (by decide +kernel)
    · exact h.1.more (by decide) (fun _ => Nat.le_refl _) (Nat.le_refl _)⟩, by have := h.2.1; simp only [nd, ndAll]; omega, .inl ⟨rfl, h.2.2⟩⟩
theorem stf_three {x : Str} {e f : PyData} (hx : x = "back" ∨ x = "as" ∨ x = "lean") (he : Fq 10 (fun _ => 6) 7 e) (hf : Fq 9 (fun _ => 6) 7 f) (ne : nd e ≤ 122) (nf : nd f ≤ 65) (st : IsSt (.tuple [.str x, e, f])) : StF (.tuple [.str x, e, f]) := ⟨fq_tup.mpr ⟨by simp, fun d hd => by
    simp only [List.mem_cons, List.not_mem_nil, or_false] at hd
    rcases hd with rfl | rfl | rfl
    · rcases hx with rfl | rfl | rfl <;> exact asc_fq0 (by decide +kernel)
    · exact he.more (by decide) (fun _ => Nat.le_refl _) (Nat.le_refl _)
    · exact hf.more (by decide) (fun _ => Nat.le_refl _) (Nat.le_refl _)⟩, by simp only [nd, ndAll]; omega, st⟩
theorem fq_nil : Fq 9 (fun _ => 6) 7 (.tuple []) ∧ nd (.tuple []) ≤ 65 ∧ IsBdD (.tuple []) := ⟨fq_tup.mpr ⟨by simp, by simp⟩, by simp [nd, ndAll], ⟨[], rfl, by simp, by decide⟩⟩
theorem stf_back {n : Int} {f : PyData} (h : 0 ≤ n ∧ n ≤ 1000) (hf : Fq 9 (fun _ => 6) 7 f ∧ nd f ≤ 65 ∧ IsBdD f) : StF (.tuple [.str "back", .int n, f]) :=
  stf_three (.inl rfl) (fq_int (by omega)) hf.1 (by simp [nd]) hf.2.1 (.inl ⟨rfl, ⟨n, rfl, h.1⟩, hf.2.2⟩)
theorem stf_as {e f : PyData} (he : Fq 10 (fun _ => 6) 7 e ∧ nd e ≤ 122 ∧ IsSy e) (hf : Fq 9 (fun _ => 6) 7 f ∧ nd f ≤ 65 ∧ IsBdD f) : StF (.tuple [.str "as", e, f]) :=
  stf_three (.inr (.inl rfl)) he.1 hf.1 he.2.1 hf.2.1 (.inr (.inl ⟨rfl, he.2.2, hf.2.2⟩))
theorem stf_lean {x : Str} {f : PyData} (hx : NameOk x) (hf : Fq 9 (fun _ => 6) 7 f ∧ nd f ≤ 65 ∧ IsBdD f) : StF (.tuple [.str "lean", .str x, f]) :=
  stf_three (.inr (.inr rfl)) (Asc.fq (low_asc hx (by decide))) hf.1 (by simp [nd]) hf.2.1 (.inr (.inr ⟨rfl, ⟨x, rfl, hx⟩, hf.2.2⟩))
def stD : St → PyData
  | .by_ => .tuple [.str "by"]
  | .spl k => .tuple [.str "split", .int (k : Nat)]
  | .use k => .tuple [.str "use", .int (k : Nat)]
  | .bck k b => .tuple [.str "back", .int (k : Nat), biD b]
  | .cut a => .tuple [.str "cut", atD a]
  | .asy s b => .tuple [.str "as", syD s, biD b]
  | .len x b => .tuple [.str "lean", .str x, biD b]
theorem StAt.dat {H : Hp} {b : Addr} {v : V} {st : St} (h : StAt H v st) : DAt H b v (stD st) := by
  obtain ⟨p, ys, rfl, hp, P⟩ := h
  cases st with
  | by_ => obtain rfl : ys = [] := P; exact dat_tup hp (.cons dat_str .nil)
  | spl k => obtain rfl : ys = [.int k] := P; exact dat_tup hp (.cons dat_str (.cons dat_int .nil))
  | use k => obtain rfl : ys = [.int k] := P; exact dat_tup hp (.cons dat_str (.cons dat_int .nil))
  | bck k b => obtain ⟨vb, rfl, B⟩ := P; exact dat_tup hp (.cons dat_str (.cons dat_int (.cons B.dat .nil)))
  | cut a => obtain ⟨va, rfl, A⟩ := P; exact dat_tup hp (.cons dat_str (.cons A.dat .nil))
  | asy s b => obtain ⟨v, vb, rfl, A, B⟩ := P; exact dat_tup hp (.cons dat_str (.cons A.dat (.cons B.dat .nil)))
  | len x b => obtain ⟨vb, rfl, B⟩ := P; exact dat_tup hp (.cons dat_str (.cons dat_str (.cons B.dat .nil)))
theorem stf_of {st : St} (ok : StOk st) : StF (stD st) := by
  cases st with
  | by_ => exact stf_by
  | spl k => have ok : k ≤ 1000 := ok; exact stf_pl (.inl rfl) (by omega)
  | use k => have ok : k ≤ 1000 := ok; exact stf_pl (.inr rfl) (by omega)
  | bck k b => have l : k ≤ 1000 := ok.1; exact stf_back (by omega) (fq_bi ok.2)
  | cut a => exact stf_cut (fq_at7 ok)
  | asy s b => exact stf_as (fq_sy ok.1.1 ok.1.2) (fq_bi ok.2)
  | len x b => exact stf_lean ok.1 (fq_bi ok.2)
theorem StsAt.dat {H : Hp} {b : Addr} : ∀ {xs : List V} {sts : List St}, StsAt H xs sts → DAtAll H b xs (sts.map stD)
  | [], [], _ => .nil
  | _ :: _, _ :: _, h => .cons h.1.dat (StsAt.dat h.2)
def chD (c : Ch) : PyData := .tuple [syD c.sy, .tuple (c.sts.map stD)]
theorem ChAt.dat {H : Hp} {b : Addr} {v : V} {c : Ch} (h : ChAt H v c) : DAt H b v (chD c) := by
  obtain ⟨p, q, vs, xs, rfl, h1, h2, h3, h4⟩ := h
  exact dat_tup h1 (.cons h2.dat (.cons (dat_tup h3 h4.dat) .nil))
/-- widths by levels: the steps may be many, all else is few -/
def Wc (i : Nat) : Nat := if i = 1 then 28 else 6
theorem wc6 (i : Nat) : 6 ≤ Wc i := by unfold Wc; split <;> omega
theorem wc28 (i : Nat) : Wc i ≤ 28 := by unfold Wc; split <;> omega
theorem fq_ch {c : Ch} (ok : ChOk c) : Fq 14 Wc 7 (chD c) ∧ nd (chD c) ≤ 5725 := by
  obtain ⟨s1, s2, _⟩ := fq_sy ok.sy ok.h3
  have few := ok.few
  have each : ∀ d ∈ c.sts.map stD, Fq 12 (fun _ => 6) 7 d ∧ nd d ≤ 200 := fun d hd => by
    obtain ⟨st, hs, rfl⟩ := List.mem_map.mp hd
    have f := stf_of (ok.ok st hs)
    exact ⟨f.fq, f.nd⟩
  refine ⟨fq_tup.mpr ⟨by show 2 ≤ Wc 0; decide, fun d hd => ?_⟩, ?_⟩
  · simp only [List.mem_cons, List.not_mem_nil, or_false] at hd
    rcases hd with rfl | rfl
    · exact s1.more (by decide) (fun i => wc6 _) (Nat.le_refl _)
    · exact fq_tup.mpr ⟨by rw [List.length_map]; show c.sts.length ≤ 28; exact few, fun d hd => (each d hd).1.more (by decide) (fun i => wc6 _) (Nat.le_refl _)⟩
  · have z := ndAll_le_mul (n := 200) (ds := c.sts.map stD) fun d hd => (each d hd).2
    rw [List.length_map] at z
    have y : 200 * c.sts.length ≤ 5600 := by omega
    show nd (.tuple [syD c.sy, .tuple (c.sts.map stD)]) ≤ 5725
    simp only [nd, ndAll]
    omega
end Rp

set_option maxHeartbeats 16000000
/-! The law. -/
namespace Rp
open PySem PySem.Spec PyProof.Rows L2 TL RZ StX PpSet
theorem Same.gen {H H' : Hp} (s : Same H H') : ∃ H2, H' = H2 ∧ Same H H2 := ⟨_, rfl, s⟩
def spLaw (K : PySem.W.Frag) : Sp := fun vs H Q _ => ∃ (a : Addr) (ns : List Int), vs = [.ref a] ∧ SqL K H a (ns.map V.int) ∧ ns.length ≤ 63 ∧ ∀ H', Q (.bl true) H'
theorem hu66 {A : Around} {k : Nat} (hr : Room k A) : A.units + 66 < cLine := by have := hr.un; omega
theorem bool_iff {a b : Bool} {p : Prop} (h : a = true ↔ p) (h' : b = true ↔ p) : a = b := by
  cases a <;> cases b <;> simp_all
theorem alike_flat {H : Hp} {n : Nat} {x : V} (p : Plain x) : Alike H n x x := by
  cases n with
  | zero => unfold Alike; exact ⟨p, rfl⟩
  | succ n => unfold Alike; exact .inl ⟨p, rfl⟩
theorem alike_bls {H : Hp} {d e : Addr} {x y : Bool} (hd : H d = some (.lst [.bl x, .bl y])) (he : H e = some (.lst [.bl x, .bl y])) : Alike H 1 (.ref d) (.ref e) := by
  unfold Alike
  refine .inr ⟨d, e, _, _, rfl, rfl, .inl ⟨hd, he⟩, rfl, by simp, fun i u v h1 h2 => ?_⟩
  obtain rfl : u = v := Option.some.inj (h1.symm.trans h2)
  match i with
  | 0 => simp at h1; subst h1; exact alike_flat trivial
  | 1 => simp at h1; subst h1; exact alike_flat trivial
  | i + 2 => simp at h1
/-- a list that a thing avoids, written anew -/
theorem DAt.set {H : Hp} {b c : Addr} {zs : List V} {o : HO} {v : V} {d : PyData} (hc : H c = some (.lst zs)) (D : DAt H c v d) (Db : DAt H b v d) : DAt (upd H c o) b v d :=
  DAt.both (b := c) (fun x us h => by
    have xc : x ≠ c := fun e => by subst e; rcases h with h | ⟨o, h⟩ <;> (rw [hc] at h; cases h)
    unfold TupAt
    rw [upd_ne xc]
    exact h) (fun x us xc _ h => by rw [upd_ne xc]; exact h) d D Db
theorem DAtAll.set {H : Hp} {b c : Addr} {zs : List V} {o : HO} {v : List V} {d : List PyData} (hc : H c = some (.lst zs)) (D : DAtAll H c v d) (Db : DAtAll H b v d) : DAtAll (upd H c o) b v d :=
  DAtAll.both (b := c) (fun x us h => by
    have xc : x ≠ c := fun e => by subst e; rcases h with h | ⟨o, h⟩ <;> (rw [hc] at h; cases h)
    unfold TupAt
    rw [upd_ne xc]
    exact h) (fun x us xc _ h => by rw [upd_ne xc]; exact h) d D Db
mutual
def shB : PyData → Bool
  | .str x => decide (x.length ≤ 1000) | .list ds => decide (ds.length ≤ 60) && shBs ds | .tuple ds => decide (ds.length ≤ 60) && shBs ds | _ => true
def shBs : List PyData → Bool
  | [] => true
  | d :: ds => shB d && shBs ds
end
mutual
theorem shB_s : ∀ {d : PyData}, shB d = true → shS d
  | .none, _ => by unfold shS; trivial
  | .bool _, _ => by unfold shS; trivial
  | .int _, _ => by unfold shS; trivial
  | .dict _, _ => by unfold shS; trivial
  | .str x, h => by unfold shB at h; unfold shS; exact of_decide_eq_true h
  | .list ds, h => by unfold shB at h; rw [Bool.and_eq_true] at h; unfold shS; exact ⟨of_decide_eq_true h.1, shBs_s h.2⟩
  | .tuple ds, h => by unfold shB at h; rw [Bool.and_eq_true] at h; unfold shS; exact ⟨of_decide_eq_true h.1, shBs_s h.2⟩
theorem shBs_s : ∀ {ds : List PyData}, shBs ds = true → shAll ds
  | [], _ => by unfold shAll; trivial
  | d :: ds, h => by unfold shBs at h; rw [Bool.and_eq_true] at h; unfold shAll; exact ⟨shB_s h.1, shBs_s h.2⟩
end
/-- may be asked about, by both looks -/
def AskB (d : PyData) : Bool := d.canLay0 && decide (d.depth ≤ 60) && decide (nd d ≤ 1000) && shB d && (match d with | .tuple ds => decide (ds.length ≤ 9) | _ => true)
theorem askB {d : PyData} (h : AskB d = true) : DOk d ∧ ∀ ds, d = .tuple ds → ds.length ≤ 9 := by
  unfold AskB at h
  simp only [Bool.and_eq_true, decide_eq_true_iff] at h
  obtain ⟨⟨⟨⟨h1, h2⟩, h3⟩, h4⟩, h5⟩ := h
  refine ⟨⟨⟨h1, h2⟩, Nat.le_trans h3 (by decide), shB_s h4⟩, fun ds e => ?_⟩
  subst e
  exact of_decide_eq_true h5
def odd1 : Lqs := .cons .non (.cons (.i 0) (.cons (.s "") (.cons (.t .nil) (.cons (.t (.cons (.t .nil) (.cons (.t (.cons (.s "a") (.cons (.i 0) .nil))) .nil))) (.cons (.t (.cons (.t (.cons (.t .nil) (.cons (.t (.cons (.s "a") (.cons (.i 0) .nil))) .nil))) (.cons (.l .nil) .nil))) (.cons (.l (.cons (.t (.cons (.t .nil) (.cons (.t (.cons (.s "a") (.cons (.i 0) .nil))) .nil))) (.cons (.t .nil) .nil))) .nil))))))
def odd1ta : TA := tCons (tC .non) (tCons (tC (.int 0)) (tCons (tC (.str "")) (tCons (tTup tNil) (tCons (tTup (tCons (tTup tNil) (tCons (tTup (tCons (tC (.str "a")) (tCons (tC (.int 0)) tNil))) tNil))) (tCons (tTup (tCons (tTup (tCons (tTup tNil) (tCons (tTup (tCons (tC (.str "a")) (tCons (tC (.int 0)) tNil))) tNil))) (tCons (tLst tNil) tNil))) (tCons (tLst (tCons (tTup (tCons (tTup tNil) (tCons (tTup (tCons (tC (.str "a")) (tCons (tC (.int 0)) tNil))) tNil))) (tCons (tTup tNil) tNil))) tNil))))))
theorem odd1_ta : odd1.ta = odd1ta := by unfold odd1ta; simp only [odd1, Lq.te, Lqs.ta]
theorem odd1_ok : odd1.ok := by simp [odd1, Lq.ok, Lqs.ok, Lqs.len]
def oddM : Lqs := .cons (.t (.cons (.t (.cons (.t .nil) (.cons (.t (.cons (.s "a") (.cons (.i 0) .nil))) .nil))) (.cons (.t .nil) (.cons (.t .nil) .nil)))) .nil
def oddMta : TA := tCons (tTup (tCons (tTup (tCons (tTup tNil) (tCons (tTup (tCons (tC (.str "a")) (tCons (tC (.int 0)) tNil))) tNil))) (tCons (tTup tNil) (tCons (tTup tNil) tNil)))) tNil
theorem oddM_ta : oddM.ta = oddMta := by unfold oddMta; simp only [oddM, Lq.te, Lqs.ta]
theorem oddM_ok : oddM.ok := by simp [oddM, Lq.ok, Lqs.ok, Lqs.len]
theorem Lqs.runE {σ : L2.St} (L : Lqs) (ta : TA) (e : L.ta = ta) {H : Hp} {Q : List V → Hp → Prop} (h : L.ok) (q : ∀ (v : List V) (H' : Hp), v.length = L.len → (∀ b, Apart H H' b → DAtAll H' b v L.ds) → Same H H' → Q v H') : ta σ H Q := e ▸ Lqs.run L h q
theorem Same.none {H H' : Hp} {p : Addr} (s : Same H H') (h : H' p = none) : H p = none := by
  cases e : H p with
  | none => rfl
  | some o => rw [s _ _ e] at h; cases h
def oddRow : List PyData := odd1.ds ++ [.tuple [.tuple [.tuple [], .tuple [.str "a", .int 0]], .tuple [], .tuple []]]
theorem oddRow_ask : ∀ d ∈ oddRow, AskB d = true := List.all_eq_true.mp (by decide +kernel : oddRow.all AskB = true)
theorem oddRow_no : ∀ d ∈ oddRow, ¬ IsCh d := by
  intro d hd
  have hd : d ∈ [PyData.none, .int 0, .str "", .tuple [], .tuple [.tuple [], .tuple [.str "a", .int 0]], .tuple [.tuple [.tuple [], .tuple [.str "a", .int 0]], .list []], .list [.tuple [.tuple [], .tuple [.str "a", .int 0]], .tuple []], .tuple [.tuple [.tuple [], .tuple [.str "a", .int 0]], .tuple [], .tuple []]] := hd
  simp only [List.mem_cons, List.not_mem_nil, or_false] at hd
  rcases hd with rfl | rfl | rfl | rfl | rfl | rfl | rfl | rfl
  · exact fun z => z
  · exact fun z => z
  · exact fun z => z
  · exact isCh_len (by simp)
  · exact fun z => isSy_len (ds := []) (by simp) z.1
  · exact fun z => z
  · exact fun z => z
  · exact isCh_len (by simp)
/-- a thing that the law asks about: it avoids the box and the list of things -/
structure Thg (H : Hp) (b c : Addr) (v : V) (d : PyData) : Prop where
  D : DAt H b v d
  C : DAt H c v d
  fq : Fq 16 (fun i => Wc i + 2) 25 d
  nd : Rp.nd d ≤ 22909
theorem Thg.same {H H' : Hp} {b c : Addr} {v : V} {d : PyData} (T : Thg H b c v d) (s : Same H H') : Thg H' b c v d := ⟨T.D.same s, T.C.same s, T.fq, T.nd⟩
theorem Thg.but {H H' : Hp} {b c : Addr} {v : V} {d : PyData} {j : Nat} (T : Thg H b c v d) (o : But b H H') (B : BoxAt H b j) : Thg H' b c v d := ⟨T.D.but o B.some.choose_spec, DAt.both_but o B.some.choose_spec T.D T.C, T.fq, T.nd⟩
theorem Thg.set {H : Hp} {b c : Addr} {v : V} {d : PyData} {zs : List V} {o : HO} (T : Thg H b c v d) (hc : H c = some (.lst zs)) : Thg (upd H c o) b c v d := ⟨T.C.set hc T.D, T.C.set hc T.C, T.fq, T.nd⟩
def Thgs (H : Hp) (b c : Addr) : List V → List PyData → Prop
  | [], [] => True
  | v :: vs, d :: ds => Thg H b c v d ∧ Thgs H b c vs ds
  | _, _ => False
theorem Thgs.map {H H' : Hp} {b c : Addr} (f : ∀ v d, Thg H b c v d → Thg H' b c v d) : ∀ {vs : List V} {ds : List PyData}, Thgs H b c vs ds → Thgs H' b c vs ds
  | [], [], _ => trivial
  | _ :: _, _ :: _, h => ⟨f _ _ h.1, Thgs.map f h.2⟩
theorem Thgs.len {H : Hp} {b c : Addr} : ∀ {vs : List V} {ds : List PyData}, Thgs H b c vs ds → vs.length = ds.length
  | [], [], _ => rfl
  | _ :: _, _ :: _, h => congrArg (· + 1) (Thgs.len h.2)
theorem Thgs.snoc {H : Hp} {b c : Addr} {v : V} {d : PyData} (T : Thg H b c v d) : ∀ {vs : List V} {ds : List PyData}, Thgs H b c vs ds → Thgs H b c (vs ++ [v]) (ds ++ [d])
  | [], [], _ => ⟨T, trivial⟩
  | _ :: _, _ :: _, h => ⟨h.1, Thgs.snoc T h.2⟩
theorem Thgs.get {H : Hp} {b c : Addr} : ∀ {vs : List V} {ds : List PyData} {i : Nat} {v : V}, Thgs H b c vs ds → vs[i]? = some v → ∃ d, Thg H b c v d
  | _ :: _, d :: _, 0, _, h, e => ⟨d, by simp at e; subst e; exact h.1⟩
  | _ :: _, _ :: _, i + 1, _, h, e => Thgs.get h.2 (by simpa using e)
theorem Thg.ask {H : Hp} {b c : Addr} {v : V} {d : PyData} (T : Thg H b c v d) : DOk d ∧ Nine d := by
  have nd := T.nd
  refine ⟨T.fq.dok (by decide) (fun i => by have := wc28 i; omega) (by decide) (by omega), fun a ss e es he => ?_⟩
  subst e
  have h1 := (fq_tup.mp (T.fq : Fq (15 + 1) _ 25 _)).2 (.tuple ss) (by simp)
  have h2 := (fq_tup.mp (h1 : Fq (14 + 1) _ 25 _)).2 (.tuple es) he
  have h3 := (fq_tup.mp (h2 : Fq (13 + 1) _ 25 _)).1
  have : Wc 2 + 2 = 8 := rfl
  exact Nat.le_trans h3 (by show Wc 2 + 2 ≤ 9; omega)
theorem Thg.steps {H : Hp} {b c : Addr} {v : V} {a : PyData} {ss : List PyData} (T : Thg H b c v (.tuple [a, .tuple ss])) : ss.length ≤ 60 := by
  have h1 := (fq_tup.mp (T.fq : Fq (15 + 1) _ 25 _)).2 (.tuple ss) (by simp)
  have h2 := (fq_tup.mp (h1 : Fq (14 + 1) _ 25 _)).1
  exact Nat.le_trans h2 (by show Wc 1 + 2 ≤ 60; decide)
theorem ne_strD {a b : Str} (h : a = b) : V.bl (!decide (V.str a = V.str b)) = V.bl false := by rw [h, decide_eq_true rfl]; rfl
section
variable {P : Program} {w : World} {K : PySem.W.Frag} {mg : Str → Option Value} {base : Heap}
abbrev NLw : List Str := ["_law_script", "_law_odd", "_law_thing", "_law_k", "_law_box_here", "_law_words", "_law_shapes_here", "_law_chart", "_law_wild_here", "_law_one", "_law_things", "_law_turn", "_law_bent", "_law_before", "_law_due"]
theorem scLaw : FnScope NLw ["_law_script"] (defScope sLaw) := ⟨rfl, rfl, rfl, by decide +kernel, rfl, by decide +kernel, by decide +kernel⟩
theorem ok_law {f fB fW fSh fP fK fBa fSy fWi fO fT fI fCW fS fNR : Addr} {fd dB dW dSh dP dK dBa dSy dWi dO dT dI dCW dS dNR : FuncData} (F : Fun K "law" "law" sLaw f fd)
    (GB : FnOk P w K mg base CX0 1 fB dB ["_law_script", "_law_k"] (spBox K)) (kB : PySem.W.keepIn K (.ref fB) = true) (bB : Binds K dB ["_law_script", "_law_k"] []) (mB : mg "_law_box" = some (.ref fB))
    (GW : FnOk P w K mg base CX0 2 fW dW ["_law_box_here", "_law_count"] spWords) (kW : PySem.W.keepIn K (.ref fW) = true) (bW : Binds K dW ["_law_box_here", "_law_count"] []) (mW : mg "_law_names" = some (.ref fW))
    (GSh : FnOk P w K mg base CX0 2 fSh dSh ["_law_box_here", "_law_names_here"] spShapes) (kSh : PySem.W.keepIn K (.ref fSh) = true) (bSh : Binds K dSh ["_law_box_here", "_law_names_here"] []) (mSh : mg "_law_shapes" = some (.ref fSh))
    (GP : FnOk P w K mg base CX0 2 fP dP ["_law_box_here", "_law_things"] spPick) (kP : PySem.W.keepIn K (.ref fP) = true) (bP : Binds K dP ["_law_box_here", "_law_things"] []) (mP : mg "_law_pick" = some (.ref fP))
    (GK : FnOk P w K mg base CX0 1 fK dK ["_law_names_here"] spCharts) (kK : PySem.W.keepIn K (.ref fK) = true) (bK : Binds K dK ["_law_names_here"] []) (mK : mg "_law_known_charts" = some (.ref fK))
    (GBa : FnOk P w K mg base CX0 1 fBa dBa ["_law_names_here"] spCharts) (kBa : PySem.W.keepIn K (.ref fBa) = true) (bBa : Binds K dBa ["_law_names_here"] []) (mBa : mg "_law_bad_charts" = some (.ref fBa))
    (GSy : FnOk P w K mg base CX0 7 fSy dSy ["_law_box_here", "_law_shapes_here", "_law_names_here", "_law_pool", "_law_count"] spSayingL) (kSy : PySem.W.keepIn K (.ref fSy) = true) (bSy : Binds K dSy ["_law_box_here", "_law_shapes_here", "_law_names_here", "_law_pool", "_law_count"] []) (mSy : mg "_law_saying" = some (.ref fSy))
    (GWi : FnOk P w K mg base CX0 8 fWi dWi ["_law_box_here", "_law_words", "_law_shapes_here"] spWild) (kWi : PySem.W.keepIn K (.ref fWi) = true) (bWi : Binds K dWi ["_law_box_here", "_law_words", "_law_shapes_here"] []) (mWi : mg "_law_wild" = some (.ref fWi))
    (GO : FnOk P w K mg base CX0 18 fO dO ["_law_box_here", "_law_thing"] (spOth 17)) (kO : PySem.W.keepIn K (.ref fO) = true) (bO : Binds K dO ["_law_box_here", "_law_thing"] []) (mO : mg "_law_otherwise" = some (.ref fO))
    (GT : FnOk P w K mg base CX0 1 fT dT ["_law_box_here", "_law_reach"] spTake) (kT : PySem.W.keepIn K (.ref fT) = true) (bT : Binds K dT ["_law_box_here", "_law_reach"] []) (mT : mg "_law_take" = some (.ref fT))
    (GI : FnOk P w K mg base CX0 7 fI dI ["thing"] spIsCh) (kI : PySem.W.keepIn K (.ref fI) = true) (bI : Binds K dI ["thing"] []) (mI : mg "is_chart" = some (.ref fI))
    (GCW : FnOk P w K mg base CX0 66 fCW dCW ["_law_thing"] spChW) (kCW : PySem.W.keepIn K (.ref fCW) = true) (bCW : Binds K dCW ["_law_thing"] []) (mCW : mg "_law_is_chart" = some (.ref fCW))
    (GS : FnOk P w K mg base CX0 2 fS dS ["_law_found", "_law_due"] (spSame 2)) (kS : PySem.W.keepIn K (.ref fS) = true) (bS : Binds K dS ["_law_found", "_law_due"] []) (mS : mg "_law_same" = some (.ref fS))
    (GNR : FnOk P w K mg base CX0 4 fNR dNR ["_law_chart"] spNRight) (kNR : PySem.W.keepIn K (.ref fNR) = true) (bNR : Binds K dNR ["_law_chart"] []) (mNR : mg "_law_named_right" = some (.ref fNR))
    (mRange : mg "range" = none) (mMax : mg "max" = none) (mMin : mg "min" = none) (mLen : mg "len" = none) (mRepr : mg "repr" = none) : GnOk P w K mg base 67 f fd ["_law_script"] (spLaw K) := by
  refine gok F scLaw (fun vs H Q E h => ?_) (fun cdv A outer s H vs Q E hg hr h => ?_)
  · obtain ⟨a, ns, rfl, _⟩ := h
    rfl
  obtain ⟨a, ns, rfl, hS, hl, q⟩ := h
  have r1 : Room 1 _ := hr.mono (by decide)
  have r2 : Room 2 _ := hr.mono (by decide)
  have r4 : Room 4 _ := hr.mono (by decide)
  have r7 : Room 7 _ := hr.mono (by decide)
  have r8 : Room 8 _ := hr.mono (by decide)
  have r18 : Room 18 _ := hr.mono (by decide)
  have r66 : Room 66 _ := hr.mono (by decide)
  refine ⟨_, (pss_cons (ps_set (i := 1) scLaw.nd rfl (Or.inl rfl) (pe_lst (pa_cons pe_non (pa_cons pe_int (pa_cons pe_str (pa_cons (pe_tup pa_nil) (pa_cons (pe_tup (pa_cons (pe_tup pa_nil) (pa_cons (pe_tup (pa_cons pe_str (pa_cons pe_int pa_nil))) pa_nil))) (pa_cons (pe_tup (pa_cons (pe_tup (pa_cons (pe_tup pa_nil) (pa_cons (pe_tup (pa_cons pe_str (pa_cons pe_int pa_nil))) pa_nil))) (pa_cons (pe_lst pa_nil) pa_nil))) (pa_cons (pe_lst (pa_cons (pe_tup (pa_cons (pe_tup pa_nil) (pa_cons (pe_tup (pa_cons pe_str (pa_cons pe_int pa_nil))) pa_nil))) (pa_cons (pe_tup pa_nil) pa_nil))) pa_nil)))))))))
    (pss_cons (ps_for PassesOwn.never rfl (pi_list (pe_op op_cat (pv 1) (pe_lst (pa_cons (pe_tup (pa_cons (pe_tup (pa_cons (pe_tup pa_nil) (pa_cons (pe_tup (pa_cons pe_str (pa_cons pe_int pa_nil))) pa_nil))) (pa_cons (pe_tup pa_nil) (pa_cons (pe_tup pa_nil) pa_nil)))) pa_nil)))) (pg_name (i := 2) scLaw.nd rfl (Or.inl rfl)) (pss_one (ps_if (pt_cmpR op_notBl (pe_call GI r7 rfl mI kI bI .nil pass0 (pa_cons (pv 2) pa_nil)) pe_bl (nomark _)) (pss_one (ps_ret pe_bl)) pss_nil)))
    (pss_cons (ps_for PassesOwn.never rfl (pi_range1 (by rfl) mRange (pa_cons (pe_callB (call_max2 rfl) (by rfl) mMax (by decide +kernel) (pa_cons pe_int (pa_cons (pe_callB (call_min2 rfl) (by rfl) mMin (by decide +kernel) (pa_cons pe_int (pa_cons (pe_callB call_len_seq (by rfl) mLen PySem.boot_len (pa_cons (pv 0) pa_nil)) pa_nil))) pa_nil))) pa_nil)) (pg_name (i := 3) scLaw.nd rfl (Or.inl rfl)) (pss_cons (ps_set (i := 4) scLaw.nd rfl (Or.inl rfl) (pe_call GB r1 rfl mB kB bB .nil pass0 (pa_cons (pv 0) (pa_cons (pv 3) pa_nil))))
    (pss_cons (ps_set (i := 5) scLaw.nd rfl (Or.inl rfl) (pe_call GW r2 rfl mW kW bW .nil pass0 (pa_cons (pv 4) (pa_cons pe_int pa_nil))))
    (pss_cons (ps_set (i := 6) scLaw.nd rfl (Or.inl rfl) (pe_call GSh r2 rfl mSh kSh bSh .nil pass0 (pa_cons (pv 4) (pa_cons (pv 5) pa_nil))))
    (pss_cons (ps_set (i := 7) scLaw.nd rfl (Or.inl rfl) (pe_call GP r2 rfl mP kP bP .nil pass0 (pa_cons (pv 4) (pa_cons (pe_op op_cat (pe_call GK r1 rfl mK kK bK .nil pass0 (pa_cons (pv 5) pa_nil)) (pe_call GBa r1 rfl mBa kBa bBa .nil pass0 (pa_cons (pv 5) pa_nil))) pa_nil))))
    (pss_cons (ps_set (i := 8) scLaw.nd rfl (Or.inl rfl) (pe_tup (pa_cons (pe_call GSy r7 rfl mSy kSy bSy .nil pass0 (pa_cons (pv 4) (pa_cons (pv 6) (pa_cons (pv 5) (pa_cons (pe_lst (pa_cons pe_int (pa_cons pe_int pa_nil))) (pa_cons pe_int pa_nil)))))) (pa_cons (pe_call GWi r8 rfl mWi kWi bWi .nil pass0 (pa_cons (pv 4) (pa_cons (pv 5) (pa_cons (pv 6) pa_nil)))) pa_nil))))
    (pss_one (ps_for PassesOwn.never rfl (pi_tup (pe_tup (pa_cons (pv 7) (pa_cons (pv 8) (pa_cons (pe_tup (pa_cons (pe_ix ix_tup (pv 7) pe_int (fun _ _ => rfl)) (pa_cons (pe_tup pa_nil) pa_nil))) pa_nil))))) (pg_name (i := 9) scLaw.nd rfl (Or.inl rfl)) (pss_cons (ps_set (i := 10) scLaw.nd rfl (Or.inl rfl) (pe_lst (pa_cons (pv 9) pa_nil)))
    (pss_cons (ps_for PassesOwn.never rfl (pi_range1 (by rfl) mRange (pa_cons pe_int pa_nil)) (pg_name (i := 11) scLaw.nd rfl (Or.inl rfl)) (pss_cons (ps_set (i := 12) scLaw.nd rfl (Or.inl rfl) (pe_call GO r18 rfl mO kO bO .nil pass0 (pa_cons (pv 4) (pa_cons (pv 9) pa_nil))))
    (pss_one (ps_expr (pe_bm PySem.F.plainAttrs_list PySem.F.slot_list_append PySem.F.type_list_append mt_append (pv 10) (pa_cons (pe_ifExp (pt_cmpR op_eq (pe_call GT r1 rfl mT kT bT .nil pass0 (pa_cons (pv 4) (pa_cons pe_int pa_nil))) pe_int (nomark _)) (pe_call GO r18 rfl mO kO bO .nil pass0 (pa_cons (pv 4) (pa_cons (pv 12) pa_nil))) (pv 12)) pa_nil))))))
    (pss_one (ps_for PassesOwn.never rfl (pi_list (pv 10)) (pg_name (i := 2) scLaw.nd rfl (Or.inl rfl)) (pss_cons (ps_par (i := 13) (j := 14) rfl scLaw.nd rfl rfl (by decide) rfl rfl (pa_cons (pe_callB (cr_reprD hg (hu66 hr)) (by rfl) mRepr (by decide +kernel) (pa_cons (pv 2) pa_nil)) (pa_cons (pe_call GCW r66 rfl mCW kCW bCW .nil pass0 (pa_cons (pv 2) pa_nil)) pa_nil)) (by rfl))
    (pss_cons (ps_if (PW.pt (pw_or (pt_not (pt_val (pe_call GS r2 rfl mS kS bS .nil pass0 (pa_cons (pe_lst (pa_cons (pe_call GI r7 rfl mI kI bI .nil pass0 (pa_cons (pv 2) pa_nil)) (pa_cons (pe_call GI r7 rfl mI kI bI .nil pass0 (pa_cons (pv 2) pa_nil)) pa_nil))) (pa_cons (pe_lst (pa_cons (pv 14) (pa_cons (pv 14) pa_nil))) pa_nil))))) (pw_or1 (pt_cmpR op_ne (pe_callB (cr_reprD hg (hu66 hr)) (by rfl) mRepr (by decide +kernel) (pa_cons (pv 2) pa_nil)) (pv 13) (nomark _))))) (pss_one (ps_ret pe_bl)) pss_nil)
    (pss_one (ps_if (PW.pt (pw_and (pt_val (pv 14)) (pw_and1 (pt_not (pt_val (pe_call GNR r4 rfl mNR kNR bNR .nil pass0 (pa_cons (pv 2) pa_nil))))))) (pss_one (ps_ret pe_bl)) pss_nil))))))))))))))))
    (pss_one (ps_ret pe_bl))))), ?_⟩
  have big : (10000 : Nat) ≤ sizeLine := by decide
  have lim : ∀ n : Int, 0 ≤ n → 0 ≤ (if (if n < 6 then n else 6) > (1 : Int) then (if n < 6 then n else 6) else 1) ∧ (if (if n < 6 then n else 6) > (1 : Int) then (if n < 6 then n else 6) else 1) ≤ 6 := by
    intro n hn
    split <;> split <;> omega
  have lim2 := lim (((ns.map V.int).length : Nat) : Int) (by omega)
  -- the odd ones
  refine seq_asg (Lqs.runE odd1 odd1ta odd1_ta odd1_ok fun x1 H1 n1 D1 s1 => ⟨by rw [n1]; show 7 ≤ sizeLine; decide, fun l1 h1 => ?_⟩)
  have s2 := same_new h1 (.lst x1)
  refine ⟨_, rfl, Lqs.runE oddM oddMta oddM_ta oddM_ok fun x2 H3 n2 D2 s3 => ⟨by rw [n2]; show 1 ≤ sizeLine; decide, fun l2 h2 => ?_⟩⟩
  have s4 := same_new h2 (.lst x2)
  refine ⟨l1, l2, x1, x2, rfl, rfl, s4 _ _ (s3 _ _ upd_same), upd_same, by rw [n1, n2]; show 8 ≤ sizeLine; decide, fun l3 h3 => ?_⟩
  have s5 := same_new h3 (.lst (x1 ++ x2))
  obtain ⟨H9, e9, sA⟩ := Same.gen (s1.trans (s2.trans (s3.trans (s4.trans s5))))
  have A9 : DAtAll H9 l3 (x1 ++ x2) oddRow := by
    have n3' := Same.none s4 h3
    have n1' := Same.none (s2.trans s3) n3'
    rw [← e9]
    refine DAtAll.append ?_ ?_
    · exact (D1 l3 (.inl n1')).same (s2.trans (s3.trans (s4.trans s5)))
    · exact (D2 l3 (.inl n3')).same (s4.trans s5)
  have h9 : H9 l3 = some (.lst (x1 ++ x2)) := by rw [← e9]; exact upd_same
  rw [e9]
  clear D1 D2 s1 s2 s3 s4 s5 e9 h1 h2 h3
  generalize x1 ++ x2 = xa at A9 h9 ⊢
  refine ⟨l3, rfl, ⟨_, .inl (.inl h9)⟩, for_list (K := K) (a := l3) (xs := xa) (fun i σ H2 => ∃ xt : Option V, σ = [some (.ref a), some (.ref l1), xt, none, none, none, none, none, none, none, none, none, none, none, none] ∧ Same H9 H2)
    ⟨_, rfl, Same.refl _⟩ (fun i σ H2 _ ⟨_, _, s⟩ => .inl (.inl (s _ _ h9))) ?_ ?_⟩
  · rintro i x σ H2 hi ⟨xt, rfl, s2⟩
    obtain ⟨d, hd, Dx⟩ := A9.get hi
    have dm := List.mem_of_getElem? hd
    obtain ⟨ok, _⟩ := askB (oddRow_ask d dm)
    refine ⟨_, rfl, l3, x, d, rfl, Dx.same s2, ok, fun r1 H3 e1 s3 => ?_⟩
    obtain rfl : r1 = false := by
      cases r1 with
      | false => rfl
      | true => exact absurd (e1.mp rfl) (oddRow_no d dm)
    refine ⟨false, false, rfl, rfl, false, rfl, iteF ?_⟩
    exact ⟨_, rfl, s2.trans s3⟩
  rintro σ H2 ⟨xt, rfl, s2⟩
  have sB := sA.trans s2
  clear A9 h9 s2 sA
  -- the charts
  refine ⟨_, rfl, a, _, rfl, .inl (sB.seq hS), _, _, rfl, _, _, rfl, _, rfl, by omega, by omega, for_range (lo := 0) (fun i σ H3 => ∃ (y2 y3 y4 y5 y6 y7 y8 y9 y10 y11 y12 y13 y14 : Option V), σ = [some (.ref a), some (.ref l1), y2, y3, y4, y5, y6, y7, y8, y9, y10, y11, y12, y13, y14] ∧ Same H H3)
    ⟨_, _, _, _, _, _, _, _, _, _, _, _, _, rfl, sB⟩ ?_ (fun σ H3 ⟨_, _, _, _, _, _, _, _, _, _, _, _, _, e, _⟩ => q H3)⟩
  rintro i σ H3 hi ⟨y2, y3, y4, y5, y6, y7, y8, y9, y10, y11, y12, y13, y14, rfl, s3⟩
  have i6 : (i : Int) < 6 := by omega
  clear lim lim2 sB
  refine ⟨_, rfl, _, rfl, a, ns, _, rfl, s3.seq hS, hl, by omega, by omega, fun b H4 hb B4 s4 => ?_⟩
  have fresh : ∀ {H' : Hp}, But b H4 H' → Same H H' := fun o x u z => o _ _ (s4 _ _ (s3 _ _ z)) (ne_of_none (s3 _ _ z) hb)
  refine ⟨_, rfl, b, _, 4, rfl, by decide, by decide, B4, by decide, fun p ws H5 hp0 hp5 wl nm wn B5 o5 => ?_⟩
  have pb : p ≠ b := ne_box B4 hp0
  refine ⟨_, rfl, _, rfl, b, p, ws, _, rfl, B5, hp5, pb, by omega, by decide, fun d kvs H6 hd0 hd6 sh B6 o6 => ?_⟩
  have db : d ≠ b := ne_box B5 hd0
  have hp6 := o6 _ _ hp5 pb
  obtain ⟨w1, w2, w3, w4, rfl⟩ : ∃ a b c d, ws = [a, b, c, d] := by
    match ws, wl with
    | [a, b, c, d], _ => exact ⟨a, b, c, d, rfl⟩
  have ne23 : w2 ≠ w3 := fun e => by subst e; simp at wn
  refine ⟨_, rfl, _, rfl, p, w1, w2, w3, w4, rfl, hp6, nm _ (by simp), nm _ (by simp), nm _ (by simp), nm _ (by simp), ne23, fun k1 xs1 cs1 H7 hk1 C1 ok1 l11 l12 s7 => ?_⟩
  refine ⟨_, rfl, p, w1, w2, w3, w4, rfl, s7 _ _ hp6, nm _ (by simp), nm _ (by simp), nm _ (by simp), nm _ (by simp), ne23, fun k2 xs2 cs2 H8 hk2 C2 ok2 l21 l22 s8 => ?_⟩
  have x1l := C1.len
  have x2l := C2.len
  refine ⟨k1, k2, xs1, xs2, rfl, rfl, s8 _ _ hk1, hk2, by omega, fun k3 hk3 => ?_⟩
  have s9 := same_new hk3 (.lst (xs1 ++ xs2))
  have s69 := s7.trans (s8.trans s9)
  have C9 : ChsAt (upd H8 k3 (.lst (xs1 ++ xs2))) (xs1 ++ xs2) (cs1 ++ cs2) := (C1.mono fun a zs z => s9 _ _ (s8 _ _ z)).append (C2.mono fun a zs z => s9 _ _ z)
  have ok9 : ∀ c ∈ cs1 ++ cs2, ChOk c := fun c hc => (List.mem_append.mp hc).elim (ok1 c) (ok2 c)
  have B9 := B6.same s69
  have hk9 : (upd H8 k3 (.lst (xs1 ++ xs2))) k3 = some (.lst (xs1 ++ xs2)) := upd_same
  have k3b : k3 ≠ b := ne_box ((B6.same s7).same s8) hk3
  generalize upd H8 k3 (.lst (xs1 ++ xs2)) = H9' at s69 C9 B9 hk9 ⊢
  refine ⟨b, k3, xs1 ++ xs2, _, rfl, B9, by omega, hk9, k3b, by rw [List.length_append]; omega, by rw [List.length_append]; omega, fun vc H10 hvc B10 o10 => ?_⟩
  obtain ⟨n0, hn0⟩ := List.mem_iff_getElem?.mp hvc
  obtain ⟨c, hc, Cc⟩ := C9.get hn0
  have okc := ok9 c (List.mem_of_getElem? hc)
  have Cc10 := chAt_mono (keepB B9 o10) Cc
  have o610 := (but_of s69).trans o10
  have hd10 := o610 _ _ hd6 db
  have hp10 := o610 _ _ hp6 pb
  clear C1 C2 C9 ok9 ok1 ok2 hk1 hk2 hk3 hk9 s7 s8 s9 s69 hn0 hvc
  -- the wild one
  refine ⟨_, rfl, _, rfl, _, rfl, (by show 2 ≤ sizeLine; decide), fun pp hpp => ?_⟩
  have s11 := same_new hpp (.lst [V.int 0, V.int 1])
  have ppb : pp ≠ b := ne_box B10 hpp
  have W11 : Wrd (upd H10 pp (.lst [V.int 0, V.int 1])) b d p pp [w1, w2, w3, w4] [0, 1] kvs := ⟨s11 _ _ hd10, sh, s11 _ _ hp10, upd_same, by decide, by decide, pb, ppb, nm, by simp, Nat.le_refl 4⟩
  have B11 := B10.same s11
  have Cc11 := Cc10.same s11
  generalize upd H10 pp (.lst [V.int 0, V.int 1]) = H11 at s11 W11 B11 Cc11 ⊢
  refine ⟨b, d, p, pp, _, _, kvs, _, 3, rfl, B11, W11, by decide, by omega, fun vs sy H12 S12 so sl B12 o12 => ?_⟩
  have W12 := W11.but B11 o12
  refine ⟨_, rfl, _, rfl, _, rfl, b, d, p, _, kvs, _, rfl, B12, W12.hd, sh, W12.hp, pb, nm, rfl, by omega, fun g xs sts H13 hg13 St13 sto stl B13 o13 => ⟨(by show 2 ≤ sizeLine; decide), fun wv hwv => ?_⟩⟩
  have s14 := same_new hwv (.tup [vs, V.ref g])
  have Wc14 : ChAt (upd H13 wv (.tup [vs, V.ref g])) (.ref wv) ⟨sy, sts⟩ := ⟨wv, g, vs, xs, rfl, upd_same, (syAt_mono (keepB B12 o13) S12).same s14, s14 _ _ hg13, St13.same s14⟩
  have okw : ChOk ⟨sy, sts⟩ := ⟨so, sto, stl, sl⟩
  have o1114 := o12.trans (o13.trans (but_of s14))
  have Cc14 : ChAt (upd H13 wv (.tup [vs, V.ref g])) vc c := (chAt_mono (keepB B12 o13) (chAt_mono (keepB B11 o12) Cc11)).same s14
  have B14 := B13.same s14
  have o414 := o5.trans (o6.trans (o610.trans ((but_of s11).trans o1114)))
  generalize upd H13 wv (.tup [vs, V.ref g]) = H14 at s14 Wc14 Cc14 B14 o414 ⊢
  clear o1114 o12 o13 S12 St13 hg13 W11 W12 Cc11 Cc10 Cc s11 hpp hp10 hd10 hp6 hd6 hp5 o5 o6 o10 o610
  obtain ⟨cp, cq, cs0, cxs, rfl, hcp, CS, hcq, CSt⟩ := id Cc14
  refine ⟨_, rfl, _, rfl, _, rfl, cp, _, _, _, rfl, rfl, .inl (.inl hcp), at_of (j := 0) rfl rfl, (by show 0 ≤ sizeLine; decide), fun e0 he0 => ?_⟩
  have s15 := same_new he0 (.tup ([] : List V))
  have he15 : (upd H14 e0 (.tup ([] : List V))) e0 = some (.tup []) := upd_same
  generalize upd H14 e0 (.tup ([] : List V)) = H15 at s15 he15 ⊢
  refine ⟨(by show 2 ≤ sizeLine; decide), fun e1 he1 => ?_⟩
  have s16 := same_new he1 (.tup [cs0, V.ref e0])
  have Ce16 : ChAt (upd H15 e1 (.tup [cs0, V.ref e0])) (.ref e1) ⟨c.sy, []⟩ := ⟨e1, e0, cs0, [], rfl, upd_same, (CS.same s15).same s16, s16 _ _ he15, trivial⟩
  have oke : ChOk ⟨c.sy, []⟩ := ⟨okc.sy, by simp, by simp, okc.h3⟩
  have s1416 := s15.trans s16
  generalize upd H15 e1 (.tup [cs0, V.ref e0]) = H16 at s16 Ce16 s1416 ⊢
  refine ⟨(by show 3 ≤ sizeLine; decide), fun tt htt => ?_⟩
  have s17 := same_new htt (.tup [V.ref cp, V.ref wv, V.ref e1])
  have s1417 := s1416.trans s17
  have ht17 : (upd H16 tt (.tup [V.ref cp, V.ref wv, V.ref e1])) tt = some (.tup [V.ref cp, V.ref wv, V.ref e1]) := upd_same
  have three : ∀ (n : Nat) (x : V), [V.ref cp, V.ref wv, V.ref e1][n]? = some x → ∃ c, ChAt (upd H16 tt (.tup [V.ref cp, V.ref wv, V.ref e1])) x c ∧ ChOk c := by
    intro n x hx
    match n with
    | 0 => obtain rfl := Option.some.inj hx; exact ⟨_, Cc14.same s1417, okc⟩
    | 1 => obtain rfl := Option.some.inj hx; exact ⟨_, Wc14.same s1417, okw⟩
    | 2 => obtain rfl := Option.some.inj hx; exact ⟨_, Ce16.same s17, oke⟩
    | n + 3 => simp at hx
  have B17 := B14.same s1417
  have o417 := o414.trans (but_of s1417)
  generalize upd H16 tt (.tup [V.ref cp, V.ref wv, V.ref e1]) = H17 at ht17 three B17 o417 ⊢
  clear s14 s15 s16 s17 s1416 s1417 Ce16 Cc14 Wc14 CS CSt hcp hcq he0 he1 htt he15 B14 o414 hwv
  have B17' : BoxAt H17 b 9000 := B17.more (by omega)
  refine ⟨tt, rfl, ⟨_, .inl (.inl ht17)⟩, for_tup (K := K) (a := tt) (xs := [V.ref cp, V.ref wv, V.ref e1]) (fun m σ H18 => ∃ (z2 z9 z10 z11 z12 z13 z14 : Option V), σ = [some (.ref a), some (.ref l1), z2, some (.int (0 + (i : Int))), some (.ref b), some (.ref p), some (.ref d), some (.ref cp), some (.ref wv), z9, z10, z11, z12, z13, z14] ∧ BoxAt H18 b (9000 + 900 * m) ∧ But b H17 H18)
    ⟨_, _, _, _, _, _, _, rfl, B17'.more (by omega), But.refl _ _⟩ (fun m σ H18 _ ⟨_, _, _, _, _, _, _, _, _, o⟩ => .inl (.inl (o _ _ ht17 (ne_boxT B17 ht17 (by intro xs e; cases e))))) ?_ ?_⟩
  · rintro m x σ H18 hx ⟨z2, z9, z10, z11, z12, z13, z14, rfl, B18, o18⟩
    have m3 : m < 3 := (List.getElem?_eq_some_iff.mp hx).1
    obtain ⟨c', Cx, okx⟩ := three m x hx
    have C18 := chAt_mono (keepB B17 o18) Cx
    obtain ⟨fq, nd14⟩ := fq_ch okx
    -- the things
    refine ⟨_, rfl, (by show 1 ≤ sizeLine; decide), fun lt hlt => ?_⟩
    have s19 := same_new hlt (.lst [x])
    have ltb : lt ≠ b := ne_box B18 hlt
    have B19 := B18.same s19
    have C19 := C18.same s19
    have T0 : Thg (upd H18 lt (.lst [x])) b lt x (chD c') := ⟨C19.dat, C19.dat, fq.more (by decide) (fun i => by omega) (by decide), by omega⟩
    have h19 : (upd H18 lt (.lst [x])) lt = some (.lst [x]) := upd_same
    have o19 : But b H18 (upd H18 lt (.lst [x])) := but_of s19
    generalize upd H18 lt (.lst [x]) = H19 at B19 C19 T0 h19 o19 ⊢
    refine ⟨8, rfl, by decide, by decide, for_range (lo := 0) (n := 8) (fun n σ H20 => ∃ (w11 w12 : Option V) (ys : List V) (fs : List PyData), σ = [some (.ref a), some (.ref l1), z2, some (.int (0 + (i : Int))), some (.ref b), some (.ref p), some (.ref d), some (.ref cp), some (.ref wv), some x, some (.ref lt), w11, w12, z13, z14] ∧
        H20 lt = some (.lst ys) ∧ Thgs H20 b lt ys fs ∧ ys.length = n + 1 ∧ ChAt H20 x c' ∧ BoxAt H20 b (9000 + 900 * m + 105 * n) ∧ But b H18 H20)
      ⟨_, _, [x], [chD c'], rfl, h19, ⟨T0, trivial⟩, rfl, C19, B19, o19⟩ ?_ ?_⟩
    · rintro n σ H20 hn ⟨w11, w12, ys, fs, rfl, h20, Ts, yl, Cx20, B20, o20⟩
      have Tx : Thg H20 b lt x (chD c') := ⟨Cx20.dat, Cx20.dat, fq.more (by decide) (fun i => by omega) (by decide), by omega⟩
      refine ⟨_, rfl, _, rfl, b, x, chD c', _, 14, Wc, 7, 5725, rfl, B20, by omega, Tx.D, fq, nd14, by decide, by decide, by have := fq.dp; omega, fun v1 d1 H21 D21 V21 f21 n21 B21 o21 => ?_⟩
      have h21 := o21 _ _ h20 ltb
      have T21 : Thg H21 b lt v1 d1 := ⟨D21, V21 lt _ ltb h20 Tx.C, f21.more (by decide) (fun i => by omega) (by decide), by omega⟩
      have Cx21 := chAt_mono (keepB B20 o21) Cx20
      have Ts21 : Thgs H21 b lt ys fs := Ts.map fun v d T => T.but o21 B20
      -- what is appended
      refine ⟨_, rfl, .inl ⟨rfl, _, .inl (.inl h21)⟩, _, rfl, b, _, _, rfl, B21, by omega, by decide, by decide, fun r3 H22 c0 c1 B22 o22 => ?_⟩
      have h22 := o22 _ _ h21 ltb
      have T22 := T21.but o22 B21
      have Cx22 := chAt_mono (keepB B21 o22) Cx21
      have Ts22 : Thgs H22 b lt ys fs := Ts21.map fun v d T => T.but o22 B21
      refine ⟨rfl, decide (V.int r3 = V.int 0), rfl, ?_⟩
      by_cases e0' : V.int r3 = V.int 0
      · rw [decide_eq_true e0']
        refine iteT ⟨_, rfl, _, rfl, b, v1, d1, _, 15, (fun i => Wc i + 1), 16, 11453, rfl, B22, by omega, T22.D, f21, by omega, by decide, by decide, by have := f21.dp; omega, fun v2 d2 H23 D23 V23 f23 n23 B23 o23 => ?_⟩
        have h23 := o23 _ _ h22 ltb
        have T23 : Thg H23 b lt v2 d2 := ⟨D23, V23 lt _ ltb h22 T22.C, f23.more (by decide) (fun i => Nat.le_refl _) (by decide), by omega⟩
        refine ⟨lt, ys, v2, rfl, rfl, h23, by omega, ?_⟩
        exact ⟨_, _, ys ++ [v2], fs ++ [d2], rfl, upd_same, Thgs.snoc (T23.set h23) ((Ts22.map fun v d T => T.but o23 B22).map fun v d T => T.set h23), by simp [yl], chAt_mono (keepU h23) (chAt_mono (keepB B22 o23) Cx22), (B23.upd ltb _).more (by omega), but_new hlt (o20.trans (o21.trans (o22.trans o23))) fun z u hz nb => hz⟩
      · rw [decide_eq_false e0']
        refine iteF ⟨_, rfl, lt, ys, v1, rfl, rfl, h22, by omega, ?_⟩
        exact ⟨_, _, ys ++ [v1], fs ++ [d1], rfl, upd_same, Thgs.snoc (T22.set h22) (Ts22.map fun v d T => T.set h22), by simp [yl], chAt_mono (keepU h22) Cx22, (B22.upd ltb _).more (by omega), but_new hlt (o20.trans (o21.trans o22)) fun z u hz nb => hz⟩
    · rintro σ H20 ⟨w11, w12, ys, fs, rfl, h20, Ts, yl, Cx20, B20, o20⟩
      refine ⟨_, rfl, lt, rfl, ⟨_, .inl (.inl h20)⟩, for_list (K := K) (a := lt) (xs := ys) (fun n σ H21 => ∃ (w2 w13 w14 : Option V), σ = [some (.ref a), some (.ref l1), w2, some (.int (0 + (i : Int))), some (.ref b), some (.ref p), some (.ref d), some (.ref cp), some (.ref wv), some x, some (.ref lt), w11, w12, w13, w14] ∧ Same H20 H21)
        ⟨_, _, _, rfl, Same.refl _⟩ (fun n σ H21 _ ⟨_, _, _, _, s⟩ => .inl (.inl (s _ _ h20))) ?_ ?_⟩
      · rintro n y σ H21 hy ⟨w2, w13, w14, rfl, s21⟩
        obtain ⟨f, T⟩ := Ts.get hy
        have T21 := T.same s21
        obtain ⟨ok, nine⟩ := T.ask
        obtain ⟨sh1, sh2, sh3, sh4⟩ := fq_shownL T.fq (DAt.nodict T.D) (by decide) (by decide) (by have := T.nd; omega)
        refine ⟨_, rfl, y, f, rfl, T21.D.dp, sh1, sh2, sh3, sh4, ?_⟩
        refine ⟨_, rfl, b, y, f, rfl, T21.D, ok, nine, fun due H22 e22 s22 => ?_⟩
        refine ⟨_, _, rfl, ?_⟩
        have T22 := T21.same s22
        refine ⟨_, rfl, b, y, f, rfl, T22.D, ok, fun ra H23 e23 s23 => ?_⟩
        obtain rfl := bool_iff e22 e23
        have T23 := T22.same s23
        refine ⟨_, rfl, b, y, f, rfl, T23.D, ok, fun rb H24 e24 s24 => ⟨(by show 2 ≤ sizeLine; decide), fun g1 hg1 => ?_⟩⟩
        obtain rfl := bool_iff e22 e24
        have s25 := same_new hg1 (.lst [V.bl due, V.bl due])
        refine ⟨_, rfl, _, rfl, (by show 2 ≤ sizeLine; decide), fun g2 hg2 => ?_⟩
        have s26 := same_new hg2 (.lst [V.bl due, V.bl due])
        refine ⟨_, _, 1, rfl, rfl, alike_bls (s26 _ _ upd_same) upd_same, fun H27 s27 => ?_⟩
        have s2227 := s24.trans (s25.trans (s26.trans s27))
        have T27 := T23.same s2227
        refine ⟨true, rfl, iteF ?_⟩
        refine ⟨_, rfl, y, f, rfl, T27.D.dp, sh1, sh2, sh3, sh4, _, rfl, rfl, false, ne_strD rfl, iteF ?_⟩
        have sAll := s21.trans (s22.trans (s23.trans s2227))
        refine ⟨_, rfl, due, rfl, ?_⟩
        cases due with
        | false => exact iteF (iteF ⟨_, _, _, rfl, sAll⟩)
        | true =>
          have ch := e22.mp rfl
          obtain ⟨fa, fss, rfl, fst⟩ : ∃ fa fss, f = .tuple [fa, .tuple fss] ∧ ∀ s ∈ fss, IsSt s := by
            revert ch
            match f with
            | .tuple [fa, .tuple fss] => exact fun ch => ⟨fa, fss, rfl, ch.2⟩
            | .none | .bool _ | .int _ | .str _ | .list _ | .dict _ => exact fun ch => ch.elim
            | .tuple [] | .tuple [_] => exact fun ch => ch.elim
            | .tuple [_, .none] | .tuple [_, .bool _] | .tuple [_, .int _] | .tuple [_, .str _] | .tuple [_, .list _] | .tuple [_, .dict _] => exact fun ch => ch.elim
            | .tuple (_ :: _ :: _ :: _) => exact fun ch => by simpa only [IsCh] using ch
          obtain ⟨l, N, nok⟩ := nm_of T27.D fst T27.steps
          refine iteT ⟨_, rfl, y, l, rfl, N, nok, fun H28 s28 => ⟨true, rfl, iteF ?_⟩⟩
          exact ⟨_, _, _, rfl, sAll.trans s28⟩
      · rintro σ H21 ⟨w2, w13, w14, rfl, s21⟩
        exact ⟨_, _, _, _, _, _, _, rfl, (B20.same s21).more (by omega), o18.trans (o20.trans (but_of s21))⟩
  · rintro σ H18 ⟨z2, z9, z10, z11, z12, z13, z14, rfl, B18, o18⟩
    exact ⟨_, _, _, _, _, _, _, _, _, _, _, _, _, rfl, fresh (o417.trans o18)⟩
end
end Rp

namespace Rp
open PySem L2
theorem all_mk {l : PySem.W.OpenLaw} {w : World} {K : PySem.W.Frag} {h : Heap} {mg : Str → Option Value} {fa f1 f2 f3 f4 f5 f6 f7 f8 f9 f10 f11 f12 f13 f14 f15 f16 f17 f18 f19 f20 f21 f22 f23 f24 f25 f26 f27 f28 f29 f30 f31 f32 f33 f34 f35 f36 f37 f38 f39 f40 f41 : Addr} (X : K.In h) (G : h.Ns mainGlobals mg) (hfa : mg "law" = some (.ref fa))
    {od1 an1 od2 an2 od3 an3 od4 an4 od5 an5 od6 an6 od7 an7 od8 an8 od9 an9 od10 an10 od11 an11 od12 an12 od13 an13 od14 an14 od15 an15 od16 an16 od17 an17 od18 an18 od19 an19 od20 an20 od21 an21 od22 an22 od23 an23 od24 an24 od25 an25 od26 an26 od27 an27 od28 an28 od29 an29 od30 an30 od31 an31 od32 an32 od33 an33 od34 an34 od35 an35 od36 an36 od37 an37 od38 an38 od39 an39 od40 an40 od41 an41 : Option Addr} {sl1 sl2 sl3 sl4 sl5 sl6 sl7 sl8 sl9 sl10 sl11 sl12 sl13 sl14 sl15 sl16 sl17 sl18 sl19 sl20 sl21 sl22 sl23 sl24 sl25 sl26 sl27 sl28 sl29 sl30 sl31 sl32 sl33 sl34 sl35 sl36 sl37 sl38 sl39 sl40 sl41 : Array (Option Value)} {oc1 kV1 dc1 pm1 cd1 ct1 oc2 kV2 dc2 pm2 cd2 ct2 oc3 kV3 dc3 pm3 cd3 ct3 oc4 kV4 dc4 pm4 cd4 ct4 oc5 kV5 dc5 pm5 cd5 ct5 oc6 kV6 dc6 pm6 cd6 ct6 oc7 kV7 dc7 pm7 cd7 ct7 oc8 kV8 dc8 pm8 cd8 ct8 oc9 kV9 dc9 pm9 cd9 ct9 oc10 kV10 dc10 pm10 cd10 ct10 oc11 kV11 dc11 pm11 cd11 ct11 oc12 kV12 dc12 pm12 cd12 ct12 oc13 kV13 dc13 pm13 cd13 ct13 oc14 kV14 dc14 pm14 cd14 ct14 oc15 kV15 dc15 pm15 cd15 ct15 oc16 kV16 dc16 pm16 cd16 ct16 oc17 kV17 dc17 pm17 cd17 ct17 oc18 kV18 dc18 pm18 cd18 ct18 oc19 kV19 dc19 pm19 cd19 ct19 oc20 kV20 dc20 pm20 cd20 ct20 oc21 kV21 dc21 pm21 cd21 ct21 oc22 kV22 dc22 pm22 cd22 ct22 oc23 kV23 dc23 pm23 cd23 ct23 oc24 kV24 dc24 pm24 cd24 ct24 oc25 kV25 dc25 pm25 cd25 ct25 oc26 kV26 dc26 pm26 cd26 ct26 oc27 kV27 dc27 pm27 cd27 ct27 oc28 kV28 dc28 pm28 cd28 ct28 oc29 kV29 dc29 pm29 cd29 ct29 oc30 kV30 dc30 pm30 cd30 ct30 oc31 kV31 dc31 pm31 cd31 ct31 oc32 kV32 dc32 pm32 cd32 ct32 oc33 kV33 dc33 pm33 cd33 ct33 oc34 kV34 dc34 pm34 cd34 ct34 oc35 kV35 dc35 pm35 cd35 ct35 oc36 kV36 dc36 pm36 cd36 ct36 oc37 kV37 dc37 pm37 cd37 ct37 oc38 kV38 dc38 pm38 cd38 ct38 oc39 kV39 dc39 pm39 cd39 ct39 oc40 kV40 dc40 pm40 cd40 ct40 oc41 kV41 dc41 pm41 cd41 ct41 : Value}
    {fS s1 s2 s3 : Addr} {odS od1_ od2_ od3_ : Option Addr} {nS n1_ n2_ n3_ : Nat} {slS sl1_ sl2_ sl3_ : Array (Option Value)} {t1 t2 t3 t4 t5 t6 : Tok} {tc0 : Tok} {tc1 : Tok} {tc2 : Tok} {tc3 : Tok}
    (a1 : PySem.W.nsIn K mainGlobals "is_number" = some (some (.ref f1))) (l1 : K.lookup f1 = some ⟨oc1, od1, .func (PySem.W.fnOf "is_number" "is_number" (defArgs sNumber) (defBody sNumber) (defScope sNumber) .none kV1 dc1 pm1 an1 cd1 ct1), sl1⟩) (c1 : PySem.W.codeIn K cd1 "is_number" = true) (k1 : PySem.W.keepIn K (.ref f1) = true)
    (a2 : PySem.W.nsIn K mainGlobals "is_place" = some (some (.ref f2))) (l2 : K.lookup f2 = some ⟨oc2, od2, .func (PySem.W.fnOf "is_place" "is_place" (defArgs sPlace) (defBody sPlace) (defScope sPlace) .none kV2 dc2 pm2 an2 cd2 ct2), sl2⟩) (c2 : PySem.W.codeIn K cd2 "is_place" = true) (k2 : PySem.W.keepIn K (.ref f2) = true)
    (a3 : PySem.W.nsIn K mainGlobals "is_variable" = some (some (.ref f3))) (l3 : K.lookup f3 = some ⟨oc3, od3, .func (PySem.W.fnOf "is_variable" "is_variable" (defArgs sVariable) (defBody sVariable) (defScope sVariable) .none kV3 dc3 pm3 an3 cd3 ct3), sl3⟩) (c3 : PySem.W.codeIn K cd3 "is_variable" = true) (k3 : PySem.W.keepIn K (.ref f3) = true)
    (a4 : PySem.W.nsIn K mainGlobals "_has_shape" = some (some (.ref f4))) (l4 : K.lookup f4 = some ⟨oc4, od4, .func (PySem.W.fnOf "_has_shape" "_has_shape" (defArgs sShape) (defBody sShape) (defScope sShape) .none kV4 dc4 pm4 an4 cd4 ct4), sl4⟩) (c4 : PySem.W.codeIn K cd4 "_has_shape" = true) (k4 : PySem.W.keepIn K (.ref f4) = true)
    (a5 : PySem.W.nsIn K mainGlobals "is_term" = some (some (.ref f5))) (l5 : K.lookup f5 = some ⟨oc5, od5, .func (PySem.W.fnOf "is_term" "is_term" (defArgs sTerm) (defBody sTerm) (defScope sTerm) .none kV5 dc5 pm5 an5 cd5 ct5), sl5⟩) (c5 : PySem.W.codeIn K cd5 "is_term" = true) (k5 : PySem.W.keepIn K (.ref f5) = true)
    (a6 : PySem.W.nsIn K mainGlobals "_is_pair" = some (some (.ref f6))) (l6 : K.lookup f6 = some ⟨oc6, od6, .func (PySem.W.fnOf "_is_pair" "_is_pair" (defArgs sIsPair) (defBody sIsPair) (defScope sIsPair) .none kV6 dc6 pm6 an6 cd6 ct6), sl6⟩) (c6 : PySem.W.codeIn K cd6 "_is_pair" = true) (k6 : PySem.W.keepIn K (.ref f6) = true)
    (a7 : PySem.W.nsIn K mainGlobals "is_binding" = some (some (.ref f7))) (l7 : K.lookup f7 = some ⟨oc7, od7, .func (PySem.W.fnOf "is_binding" "is_binding" (defArgs sIsBinding) (defBody sIsBinding) (defScope sIsBinding) .none kV7 dc7 pm7 an7 cd7 ct7), sl7⟩) (c7 : PySem.W.codeIn K cd7 "is_binding" = true) (k7 : PySem.W.keepIn K (.ref f7) = true)
    (a8 : PySem.W.nsIn K mainGlobals "is_name" = some (some (.ref f8))) (l8 : K.lookup f8 = some ⟨oc8, od8, .func (PySem.W.fnOf "is_name" "is_name" (defArgs sIsName) (defBody sIsName) (defScope sIsName) .none kV8 dc8 pm8 an8 cd8 ct8), sl8⟩) (c8 : PySem.W.codeIn K cd8 "is_name" = true) (k8 : PySem.W.keepIn K (.ref f8) = true)
    (a9 : PySem.W.nsIn K mainGlobals "is_atom" = some (some (.ref f9))) (l9 : K.lookup f9 = some ⟨oc9, od9, .func (PySem.W.fnOf "is_atom" "is_atom" (defArgs sIsAtom) (defBody sIsAtom) (defScope sIsAtom) .none kV9 dc9 pm9 an9 cd9 ct9), sl9⟩) (c9 : PySem.W.codeIn K cd9 "is_atom" = true) (k9 : PySem.W.keepIn K (.ref f9) = true)
    (a10 : PySem.W.nsIn K mainGlobals "unlike" = some (some (.ref f10))) (l10 : K.lookup f10 = some ⟨oc10, od10, .func (PySem.W.fnOf "unlike" "unlike" (defArgs sUnlike) (defBody sUnlike) (defScope sUnlike) .none kV10 dc10 pm10 an10 cd10 ct10), sl10⟩) (c10 : PySem.W.codeIn K cd10 "unlike" = true) (k10 : PySem.W.keepIn K (.ref f10) = true)
    (a11 : PySem.W.nsIn K mainGlobals "is_saying" = some (some (.ref f11))) (l11 : K.lookup f11 = some ⟨oc11, od11, .func (PySem.W.fnOf "is_saying" "is_saying" (defArgs sIsSaying) (defBody sIsSaying) (defScope sIsSaying) .none kV11 dc11 pm11 an11 cd11 ct11), sl11⟩) (c11 : PySem.W.codeIn K cd11 "is_saying" = true) (k11 : PySem.W.keepIn K (.ref f11) = true)
    (a12 : PySem.W.nsIn K mainGlobals "is_step" = some (some (.ref f12))) (l12 : K.lookup f12 = some ⟨oc12, od12, .func (PySem.W.fnOf "is_step" "is_step" (defArgs sIsStep) (defBody sIsStep) (defScope sIsStep) .none kV12 dc12 pm12 an12 cd12 ct12), sl12⟩) (c12 : PySem.W.codeIn K cd12 "is_step" = true) (k12 : PySem.W.keepIn K (.ref f12) = true)
    (a13 : PySem.W.nsIn K mainGlobals "is_chart" = some (some (.ref f13))) (l13 : K.lookup f13 = some ⟨oc13, od13, .func (PySem.W.fnOf "is_chart" "is_chart" (defArgs sIsChart) (defBody sIsChart) (defScope sIsChart) .none kV13 dc13 pm13 an13 cd13 ct13), sl13⟩) (c13 : PySem.W.codeIn K cd13 "is_chart" = true) (k13 : PySem.W.keepIn K (.ref f13) = true)
    (a14 : PySem.W.nsIn K mainGlobals "_named" = some (some (.ref f14))) (l14 : K.lookup f14 = some ⟨oc14, od14, .func (PySem.W.fnOf "_named" "_named" (defArgs sNamed) (defBody sNamed) (defScope sNamed) .none kV14 dc14 pm14 an14 cd14 ct14), sl14⟩) (c14 : PySem.W.codeIn K cd14 "_named" = true) (k14 : PySem.W.keepIn K (.ref f14) = true)
    (a15 : PySem.W.nsIn K mainGlobals "leaned" = some (some (.ref f15))) (l15 : K.lookup f15 = some ⟨oc15, od15, .func (PySem.W.fnOf "leaned" "leaned" (defArgs sLeaned) (defBody sLeaned) (defScope sLeaned) .none kV15 dc15 pm15 an15 cd15 ct15), sl15⟩) (c15 : PySem.W.codeIn K cd15 "leaned" = true) (k15 : PySem.W.keepIn K (.ref f15) = true)
    (a16 : PySem.W.nsIn K mainGlobals "goals" = some (some (.ref f16))) (l16 : K.lookup f16 = some ⟨oc16, od16, .func (PySem.W.fnOf "goals" "goals" (defArgs sGoals) (defBody sGoals) (defScope sGoals) .none kV16 dc16 pm16 an16 cd16 ct16), sl16⟩) (c16 : PySem.W.codeIn K cd16 "goals" = true) (k16 : PySem.W.keepIn K (.ref f16) = true)
    (a17 : PySem.W.nsIn K mainGlobals "_law_box" = some (some (.ref f17))) (l17 : K.lookup f17 = some ⟨oc17, od17, .func (PySem.W.fnOf "_law_box" "_law_box" (defArgs sBox) (defBody sBox) (defScope sBox) .none kV17 dc17 pm17 an17 cd17 ct17), sl17⟩) (c17 : PySem.W.codeIn K cd17 "_law_box" = true) (k17 : PySem.W.keepIn K (.ref f17) = true)
    (a18 : PySem.W.nsIn K mainGlobals "_law_take" = some (some (.ref f18))) (l18 : K.lookup f18 = some ⟨oc18, od18, .func (PySem.W.fnOf "_law_take" "_law_take" (defArgs sTake) (defBody sTake) (defScope sTake) .none kV18 dc18 pm18 an18 cd18 ct18), sl18⟩) (c18 : PySem.W.codeIn K cd18 "_law_take" = true) (k18 : PySem.W.keepIn K (.ref f18) = true)
    (a19 : PySem.W.nsIn K mainGlobals "_law_pick" = some (some (.ref f19))) (l19 : K.lookup f19 = some ⟨oc19, od19, .func (PySem.W.fnOf "_law_pick" "_law_pick" (defArgs sPick) (defBody sPick) (defScope sPick) .none kV19 dc19 pm19 an19 cd19 ct19), sl19⟩) (c19 : PySem.W.codeIn K cd19 "_law_pick" = true) (k19 : PySem.W.keepIn K (.ref f19) = true)
    (a20 : PySem.W.nsIn K mainGlobals "_law_same" = some (some (.ref f20))) (l20 : K.lookup f20 = some ⟨oc20, od20, .func (PySem.W.fnOf "_law_same" "_law_same" (defArgs sSame) (defBody sSame) (defScope sSame) .none kV20 dc20 pm20 an20 cd20 ct20), sl20⟩) (c20 : PySem.W.codeIn K cd20 "_law_same" = true) (k20 : PySem.W.keepIn K (.ref f20) = true)
    (a21 : PySem.W.nsIn K mainGlobals "_law_names" = some (some (.ref f21))) (l21 : K.lookup f21 = some ⟨oc21, od21, .func (PySem.W.fnOf "_law_names" "_law_names" (defArgs sNames) (defBody sNames) (defScope sNames) .none kV21 dc21 pm21 an21 cd21 ct21), sl21⟩) (c21 : PySem.W.codeIn K cd21 "_law_names" = true) (k21 : PySem.W.keepIn K (.ref f21) = true)
    (a22 : PySem.W.nsIn K mainGlobals "_law_term" = some (some (.ref f22))) (l22 : K.lookup f22 = some ⟨oc22, od22, .func (PySem.W.fnOf "_law_term" "_law_term" (defArgs sTermL) (defBody sTermL) (defScope sTermL) .none kV22 dc22 pm22 an22 cd22 ct22), sl22⟩) (c22 : PySem.W.codeIn K cd22 "_law_term" = true) (k22 : PySem.W.keepIn K (.ref f22) = true)
    (a23 : PySem.W.nsIn K mainGlobals "_law_unlike" = some (some (.ref f23))) (l23 : K.lookup f23 = some ⟨oc23, od23, .func (PySem.W.fnOf "_law_unlike" "_law_unlike" (defArgs sUnlikeL) (defBody sUnlikeL) (defScope sUnlikeL) .none kV23 dc23 pm23 an23 cd23 ct23), sl23⟩) (c23 : PySem.W.codeIn K cd23 "_law_unlike" = true) (k23 : PySem.W.keepIn K (.ref f23) = true)
    (a24 : PySem.W.nsIn K mainGlobals "_law_shapes" = some (some (.ref f24))) (l24 : K.lookup f24 = some ⟨oc24, od24, .func (PySem.W.fnOf "_law_shapes" "_law_shapes" (defArgs sShapes) (defBody sShapes) (defScope sShapes) .none kV24 dc24 pm24 an24 cd24 ct24), sl24⟩) (c24 : PySem.W.codeIn K cd24 "_law_shapes" = true) (k24 : PySem.W.keepIn K (.ref f24) = true)
    (a25 : PySem.W.nsIn K mainGlobals "_law_atom" = some (some (.ref f25))) (l25 : K.lookup f25 = some ⟨oc25, od25, .func (PySem.W.fnOf "_law_atom" "_law_atom" (defArgs sAtomL) (defBody sAtomL) (defScope sAtomL) .none kV25 dc25 pm25 an25 cd25 ct25), sl25⟩) (c25 : PySem.W.codeIn K cd25 "_law_atom" = true) (k25 : PySem.W.keepIn K (.ref f25) = true)
    (a26 : PySem.W.nsIn K mainGlobals "_law_saying" = some (some (.ref f26))) (l26 : K.lookup f26 = some ⟨oc26, od26, .func (PySem.W.fnOf "_law_saying" "_law_saying" (defArgs sSayingL) (defBody sSayingL) (defScope sSayingL) .none kV26 dc26 pm26 an26 cd26 ct26), sl26⟩) (c26 : PySem.W.codeIn K cd26 "_law_saying" = true) (k26 : PySem.W.keepIn K (.ref f26) = true)
    (a27 : PySem.W.nsIn K mainGlobals "_law_otherwise" = some (some (.ref f27))) (l27 : K.lookup f27 = some ⟨oc27, od27, .func (PySem.W.fnOf "_law_otherwise" "_law_otherwise" (defArgs sOther) (defBody sOther) (defScope sOther) .none kV27 dc27 pm27 an27 cd27 ct27), sl27⟩) (c27 : PySem.W.codeIn K cd27 "_law_otherwise" = true) (k27 : PySem.W.keepIn K (.ref f27) = true)
    (a28 : PySem.W.nsIn K mainGlobals "_law_is_count" = some (some (.ref f28))) (l28 : K.lookup f28 = some ⟨oc28, od28, .func (PySem.W.fnOf "_law_is_count" "_law_is_count" (defArgs sCountW) (defBody sCountW) (defScope sCountW) .none kV28 dc28 pm28 an28 cd28 ct28), sl28⟩) (c28 : PySem.W.codeIn K cd28 "_law_is_count" = true) (k28 : PySem.W.keepIn K (.ref f28) = true)
    (a29 : PySem.W.nsIn K mainGlobals "_law_is_term" = some (some (.ref f29))) (l29 : K.lookup f29 = some ⟨oc29, od29, .func (PySem.W.fnOf "_law_is_term" "_law_is_term" (defArgs sTermW) (defBody sTermW) (defScope sTermW) .none kV29 dc29 pm29 an29 cd29 ct29), sl29⟩) (c29 : PySem.W.codeIn K cd29 "_law_is_term" = true) (k29 : PySem.W.keepIn K (.ref f29) = true)
    (a30 : PySem.W.nsIn K mainGlobals "_law_is_word" = some (some (.ref f30))) (l30 : K.lookup f30 = some ⟨oc30, od30, .func (PySem.W.fnOf "_law_is_word" "_law_is_word" (defArgs sWordW) (defBody sWordW) (defScope sWordW) .none kV30 dc30 pm30 an30 cd30 ct30), sl30⟩) (c30 : PySem.W.codeIn K cd30 "_law_is_word" = true) (k30 : PySem.W.keepIn K (.ref f30) = true)
    (a31 : PySem.W.nsIn K mainGlobals "_law_is_atom" = some (some (.ref f31))) (l31 : K.lookup f31 = some ⟨oc31, od31, .func (PySem.W.fnOf "_law_is_atom" "_law_is_atom" (defArgs sAtomW) (defBody sAtomW) (defScope sAtomW) .none kV31 dc31 pm31 an31 cd31 ct31), sl31⟩) (c31 : PySem.W.codeIn K cd31 "_law_is_atom" = true) (k31 : PySem.W.keepIn K (.ref f31) = true)
    (a32 : PySem.W.nsIn K mainGlobals "_law_is_saying" = some (some (.ref f32))) (l32 : K.lookup f32 = some ⟨oc32, od32, .func (PySem.W.fnOf "_law_is_saying" "_law_is_saying" (defArgs sSayingW) (defBody sSayingW) (defScope sSayingW) .none kV32 dc32 pm32 an32 cd32 ct32), sl32⟩) (c32 : PySem.W.codeIn K cd32 "_law_is_saying" = true) (k32 : PySem.W.keepIn K (.ref f32) = true)
    (a33 : PySem.W.nsIn K mainGlobals "_law_is_binding" = some (some (.ref f33))) (l33 : K.lookup f33 = some ⟨oc33, od33, .func (PySem.W.fnOf "_law_is_binding" "_law_is_binding" (defArgs sBindingW) (defBody sBindingW) (defScope sBindingW) .none kV33 dc33 pm33 an33 cd33 ct33), sl33⟩) (c33 : PySem.W.codeIn K cd33 "_law_is_binding" = true) (k33 : PySem.W.keepIn K (.ref f33) = true)
    (a34 : PySem.W.nsIn K mainGlobals "_law_is_step" = some (some (.ref f34))) (l34 : K.lookup f34 = some ⟨oc34, od34, .func (PySem.W.fnOf "_law_is_step" "_law_is_step" (defArgs sStepW) (defBody sStepW) (defScope sStepW) .none kV34 dc34 pm34 an34 cd34 ct34), sl34⟩) (c34 : PySem.W.codeIn K cd34 "_law_is_step" = true) (k34 : PySem.W.keepIn K (.ref f34) = true)
    (a35 : PySem.W.nsIn K mainGlobals "_law_is_chart" = some (some (.ref f35))) (l35 : K.lookup f35 = some ⟨oc35, od35, .func (PySem.W.fnOf "_law_is_chart" "_law_is_chart" (defArgs sChartL) (defBody sChartL) (defScope sChartL) .none kV35 dc35 pm35 an35 cd35 ct35), sl35⟩) (c35 : PySem.W.codeIn K cd35 "_law_is_chart" = true) (k35 : PySem.W.keepIn K (.ref f35) = true)
    (a36 : PySem.W.nsIn K mainGlobals "_law_puts" = some (some (.ref f36))) (l36 : K.lookup f36 = some ⟨oc36, od36, .func (PySem.W.fnOf "_law_puts" "_law_puts" (defArgs sPuts) (defBody sPuts) (defScope sPuts) .none kV36 dc36 pm36 an36 cd36 ct36), sl36⟩) (c36 : PySem.W.codeIn K cd36 "_law_puts" = true) (k36 : PySem.W.keepIn K (.ref f36) = true)
    (a37 : PySem.W.nsIn K mainGlobals "_law_known_charts" = some (some (.ref f37))) (l37 : K.lookup f37 = some ⟨oc37, od37, .func (PySem.W.fnOf "_law_known_charts" "_law_known_charts" (defArgs sKnown) (defBody sKnown) (defScope sKnown) .none kV37 dc37 pm37 an37 cd37 ct37), sl37⟩) (c37 : PySem.W.codeIn K cd37 "_law_known_charts" = true) (k37 : PySem.W.keepIn K (.ref f37) = true)
    (a38 : PySem.W.nsIn K mainGlobals "_law_bad_charts" = some (some (.ref f38))) (l38 : K.lookup f38 = some ⟨oc38, od38, .func (PySem.W.fnOf "_law_bad_charts" "_law_bad_charts" (defArgs sBad) (defBody sBad) (defScope sBad) .none kV38 dc38 pm38 an38 cd38 ct38), sl38⟩) (c38 : PySem.W.codeIn K cd38 "_law_bad_charts" = true) (k38 : PySem.W.keepIn K (.ref f38) = true)
    (a39 : PySem.W.nsIn K mainGlobals "_law_wild" = some (some (.ref f39))) (l39 : K.lookup f39 = some ⟨oc39, od39, .func (PySem.W.fnOf "_law_wild" "_law_wild" (defArgs sWild) (defBody sWild) (defScope sWild) .none kV39 dc39 pm39 an39 cd39 ct39), sl39⟩) (c39 : PySem.W.codeIn K cd39 "_law_wild" = true) (k39 : PySem.W.keepIn K (.ref f39) = true)
    (a40 : PySem.W.nsIn K mainGlobals "_law_named_right" = some (some (.ref f40))) (l40 : K.lookup f40 = some ⟨oc40, od40, .func (PySem.W.fnOf "_law_named_right" "_law_named_right" (defArgs sNRight) (defBody sNRight) (defScope sNRight) .none kV40 dc40 pm40 an40 cd40 ct40), sl40⟩) (c40 : PySem.W.codeIn K cd40 "_law_named_right" = true) (k40 : PySem.W.keepIn K (.ref f40) = true)
    (a41 : PySem.W.nsIn K mainGlobals "law" = some (some (.ref f41))) (l41 : K.lookup f41 = some ⟨oc41, od41, .func (PySem.W.fnOf "law" "law" (defArgs sLaw) (defBody sLaw) (defScope sLaw) .none kV41 dc41 pm41 an41 cd41 ct41), sl41⟩) (c41 : PySem.W.codeIn K cd41 "law" = true) (k41 : PySem.W.keepIn K (.ref f41) = true)
    (z1 : PySem.W.nsIn K mainGlobals "tuple" = some none)
    (z2 : PySem.W.nsIn K mainGlobals "sorted" = some none)
    (z3 : PySem.W.nsIn K mainGlobals "len" = some none)
    (z4 : PySem.W.nsIn K mainGlobals "abs" = some none)
    (z5 : PySem.W.nsIn K mainGlobals "int" = some none)
    (z6 : PySem.W.nsIn K mainGlobals "range" = some none)
    (z7 : PySem.W.nsIn K mainGlobals "dict" = some none)
    (z8 : PySem.W.nsIn K mainGlobals "set" = some none)
    (z9 : PySem.W.nsIn K mainGlobals "max" = some none)
    (z10 : PySem.W.nsIn K mainGlobals "min" = some none)
    (z11 : PySem.W.nsIn K mainGlobals "repr" = some none)
    (z12 : PySem.W.nsIn K mainGlobals "isinstance" = some none)
    (z13 : PySem.W.nsIn K mainGlobals "list" = some none)
    (z14 : PySem.W.nsIn K mainGlobals "all" = some none)
    (z15 : PySem.W.nsIn K mainGlobals "zip" = some none)
    (z16 : PySem.W.nsIn K mainGlobals "str" = some none)
    (z17 : PySem.W.nsIn K mainGlobals "bool" = some none)
    (xS : PySem.W.nsIn K mainGlobals "SHAPES" = some (some (.ref fS)))
    (xL : K.lookup fS = some ⟨.type "tuple", odS, .seq #[.ref s1, .ref s2, .ref s3] nS, slS⟩)
    (x1 : K.lookup s1 = some ⟨.type "tuple", od1_, .seq #[.str "0" t1, .int 1 t2] n1_, sl1_⟩)
    (x2 : K.lookup s2 = some ⟨.type "tuple", od2_, .seq #[.str "s" t3, .int 2 t4] n2_, sl2_⟩)
    (x3 : K.lookup s3 = some ⟨.type "tuple", od3_, .seq #[.str "f" t5, .int 3 t6] n3_, sl3_⟩)
    (xc0 : PySem.W.nsIn K mainGlobals "LAST_VARIABLE" = some (some (.int 99 tc0)))
    (xc1 : PySem.W.nsIn K mainGlobals "LETTERS" = some (some (.str "abcdefghijklmnopqrstuvwxyz" tc1)))
    (xc2 : PySem.W.nsIn K mainGlobals "MOST_LETTERS" = some (some (.int 6 tc2)))
    (xc3 : PySem.W.nsIn K mainGlobals "MOST_HYPS" = some (some (.int 6 tc3)))
    : ∃ fd : FuncData, (∀ (s : Shared) (v : Value), BindsTo s fd ⟨[v], []⟩ [("_law_script", v)]) ∧ ∀ base : Heap, K.In base → base.Ns mainGlobals mg → GnOk l.prog w K mg base 67 fa fd ["_law_script"] (spLaw K) := by
  have e := hfa.symm.trans (PySem.W.mg_of X G a41)
  cases e
  have F1 := fun_mk (st := sNumber) l1 c1 k1
  have b1 := F1.binds (ps := ["thing"]) fun _ _ _ _ _ _ us hl => match us, hl with | [_], _ => rfl
  have m1 := PySem.W.mg_of X G a1
  have F2 := fun_mk (st := sPlace) l2 c2 k2
  have b2 := F2.binds (ps := ["thing"]) fun _ _ _ _ _ _ us hl => match us, hl with | [_], _ => rfl
  have m2 := PySem.W.mg_of X G a2
  have F3 := fun_mk (st := sVariable) l3 c3 k3
  have b3 := F3.binds (ps := ["thing"]) fun _ _ _ _ _ _ us hl => match us, hl with | [_], _ => rfl
  have m3 := PySem.W.mg_of X G a3
  have F4 := fun_mk (st := sShape) l4 c4 k4
  have b4 := F4.binds (ps := ["thing"]) fun _ _ _ _ _ _ us hl => match us, hl with | [_], _ => rfl
  have m4 := PySem.W.mg_of X G a4
  have F5 := fun_mk (st := sTerm) l5 c5 k5
  have b5 := F5.binds (ps := ["thing"]) fun _ _ _ _ _ _ us hl => match us, hl with | [_], _ => rfl
  have m5 := PySem.W.mg_of X G a5
  have F6 := fun_mk (st := sIsPair) l6 c6 k6
  have b6 := F6.binds (ps := ["thing"]) fun _ _ _ _ _ _ us hl => match us, hl with | [_], _ => rfl
  have m6 := PySem.W.mg_of X G a6
  have F7 := fun_mk (st := sIsBinding) l7 c7 k7
  have b7 := F7.binds (ps := ["thing"]) fun _ _ _ _ _ _ us hl => match us, hl with | [_], _ => rfl
  have m7 := PySem.W.mg_of X G a7
  have F8 := fun_mk (st := sIsName) l8 c8 k8
  have b8 := F8.binds (ps := ["thing"]) fun _ _ _ _ _ _ us hl => match us, hl with | [_], _ => rfl
  have m8 := PySem.W.mg_of X G a8
  have F9 := fun_mk (st := sIsAtom) l9 c9 k9
  have b9 := F9.binds (ps := ["thing"]) fun _ _ _ _ _ _ us hl => match us, hl with | [_], _ => rfl
  have m9 := PySem.W.mg_of X G a9
  have F10 := fun_mk (st := sUnlike) l10 c10 k10
  have b10 := F10.binds (ps := ["atoms"]) fun _ _ _ _ _ _ us hl => match us, hl with | [_], _ => rfl
  have m10 := PySem.W.mg_of X G a10
  have F11 := fun_mk (st := sIsSaying) l11 c11 k11
  have b11 := F11.binds (ps := ["thing"]) fun _ _ _ _ _ _ us hl => match us, hl with | [_], _ => rfl
  have m11 := PySem.W.mg_of X G a11
  have F12 := fun_mk (st := sIsStep) l12 c12 k12
  have b12 := F12.binds (ps := ["thing"]) fun _ _ _ _ _ _ us hl => match us, hl with | [_], _ => rfl
  have m12 := PySem.W.mg_of X G a12
  have F13 := fun_mk (st := sIsChart) l13 c13 k13
  have b13 := F13.binds (ps := ["thing"]) fun _ _ _ _ _ _ us hl => match us, hl with | [_], _ => rfl
  have m13 := PySem.W.mg_of X G a13
  have F14 := fun_mk (st := sNamed) l14 c14 k14
  have b14 := F14.binds (ps := ["chart", "word"]) fun _ _ _ _ _ _ us hl => match us, hl with | [_, _], _ => rfl
  have m14 := PySem.W.mg_of X G a14
  have F15 := fun_mk (st := sLeaned) l15 c15 k15
  have b15 := F15.binds (ps := ["chart"]) fun _ _ _ _ _ _ us hl => match us, hl with | [_], _ => rfl
  have m15 := PySem.W.mg_of X G a15
  have F16 := fun_mk (st := sGoals) l16 c16 k16
  have b16 := F16.binds (ps := ["chart"]) fun _ _ _ _ _ _ us hl => match us, hl with | [_], _ => rfl
  have m16 := PySem.W.mg_of X G a16
  have F17 := fun_mk (st := sBox) l17 c17 k17
  have b17 := F17.binds (ps := ["_law_script", "_law_k"]) fun _ _ _ _ _ _ us hl => match us, hl with | [_, _], _ => rfl
  have m17 := PySem.W.mg_of X G a17
  have F18 := fun_mk (st := sTake) l18 c18 k18
  have b18 := F18.binds (ps := ["_law_box_here", "_law_reach"]) fun _ _ _ _ _ _ us hl => match us, hl with | [_, _], _ => rfl
  have m18 := PySem.W.mg_of X G a18
  have F19 := fun_mk (st := sPick) l19 c19 k19
  have b19 := F19.binds (ps := ["_law_box_here", "_law_things"]) fun _ _ _ _ _ _ us hl => match us, hl with | [_, _], _ => rfl
  have m19 := PySem.W.mg_of X G a19
  have F20 := fun_mk (st := sSame) l20 c20 k20
  have b20 := F20.binds (ps := ["_law_found", "_law_due"]) fun _ _ _ _ _ _ us hl => match us, hl with | [_, _], _ => rfl
  have m20 := PySem.W.mg_of X G a20
  have F21 := fun_mk (st := sNames) l21 c21 k21
  have b21 := F21.binds (ps := ["_law_box_here", "_law_count"]) fun _ _ _ _ _ _ us hl => match us, hl with | [_, _], _ => rfl
  have m21 := PySem.W.mg_of X G a21
  have F22 := fun_mk (st := sTermL) l22 c22 k22
  have b22 := F22.binds (ps := ["_law_box_here", "_law_pool", "_law_deep"]) fun _ _ _ _ _ _ us hl => match us, hl with | [_, _, _], _ => rfl
  have m22 := PySem.W.mg_of X G a22
  have F23 := fun_mk (st := sUnlikeL) l23 c23 k23
  have b23 := F23.binds (ps := ["_law_atoms"]) fun _ _ _ _ _ _ us hl => match us, hl with | [_], _ => rfl
  have m23 := PySem.W.mg_of X G a23
  have F24 := fun_mk (st := sShapes) l24 c24 k24
  have b24 := F24.binds (ps := ["_law_box_here", "_law_names_here"]) fun _ _ _ _ _ _ us hl => match us, hl with | [_, _], _ => rfl
  have m24 := PySem.W.mg_of X G a24
  have F25 := fun_mk (st := sAtomL) l25 c25 k25
  have b25 := F25.binds (ps := ["_law_box_here", "_law_shapes_here", "_law_names_here", "_law_pool", "_law_deep"]) fun _ _ _ _ _ _ us hl => match us, hl with | [_, _, _, _, _], _ => rfl
  have m25 := PySem.W.mg_of X G a25
  have F26 := fun_mk (st := sSayingL) l26 c26 k26
  have b26 := F26.binds (ps := ["_law_box_here", "_law_shapes_here", "_law_names_here", "_law_pool", "_law_count"]) fun _ _ _ _ _ _ us hl => match us, hl with | [_, _, _, _, _], _ => rfl
  have m26 := PySem.W.mg_of X G a26
  have F27 := fun_mk (st := sOther) l27 c27 k27
  have b27 := F27.binds (ps := ["_law_box_here", "_law_thing"]) fun _ _ _ _ _ _ us hl => match us, hl with | [_, _], _ => rfl
  have m27 := PySem.W.mg_of X G a27
  have F28 := fun_mk (st := sCountW) l28 c28 k28
  have b28 := F28.binds (ps := ["_law_thing", "_law_top"]) fun _ _ _ _ _ _ us hl => match us, hl with | [_, _], _ => rfl
  have m28 := PySem.W.mg_of X G a28
  have F29 := fun_mk (st := sTermW) l29 c29 k29
  have b29 := F29.binds (ps := ["_law_thing"]) fun _ _ _ _ _ _ us hl => match us, hl with | [_], _ => rfl
  have m29 := PySem.W.mg_of X G a29
  have F30 := fun_mk (st := sWordW) l30 c30 k30
  have b30 := F30.binds (ps := ["_law_thing"]) fun _ _ _ _ _ _ us hl => match us, hl with | [_], _ => rfl
  have m30 := PySem.W.mg_of X G a30
  have F31 := fun_mk (st := sAtomW) l31 c31 k31
  have b31 := F31.binds (ps := ["_law_thing"]) fun _ _ _ _ _ _ us hl => match us, hl with | [_], _ => rfl
  have m31 := PySem.W.mg_of X G a31
  have F32 := fun_mk (st := sSayingW) l32 c32 k32
  have b32 := F32.binds (ps := ["_law_thing"]) fun _ _ _ _ _ _ us hl => match us, hl with | [_], _ => rfl
  have m32 := PySem.W.mg_of X G a32
  have F33 := fun_mk (st := sBindingW) l33 c33 k33
  have b33 := F33.binds (ps := ["_law_thing"]) fun _ _ _ _ _ _ us hl => match us, hl with | [_], _ => rfl
  have m33 := PySem.W.mg_of X G a33
  have F34 := fun_mk (st := sStepW) l34 c34 k34
  have b34 := F34.binds (ps := ["_law_thing"]) fun _ _ _ _ _ _ us hl => match us, hl with | [_], _ => rfl
  have m34 := PySem.W.mg_of X G a34
  have F35 := fun_mk (st := sChartL) l35 c35 k35
  have b35 := F35.binds (ps := ["_law_thing"]) fun _ _ _ _ _ _ us hl => match us, hl with | [_], _ => rfl
  have m35 := PySem.W.mg_of X G a35
  have F36 := fun_mk (st := sPuts) l36 c36 k36
  have b36 := F36.binds (ps := ["_law_box_here", "_law_spots", "_law_pool"]) fun _ _ _ _ _ _ us hl => match us, hl with | [_, _, _], _ => rfl
  have m36 := PySem.W.mg_of X G a36
  have F37 := fun_mk (st := sKnown) l37 c37 k37
  have b37 := F37.binds (ps := ["_law_names_here"]) fun _ _ _ _ _ _ us hl => match us, hl with | [_], _ => rfl
  have m37 := PySem.W.mg_of X G a37
  have F38 := fun_mk (st := sBad) l38 c38 k38
  have b38 := F38.binds (ps := ["_law_names_here"]) fun _ _ _ _ _ _ us hl => match us, hl with | [_], _ => rfl
  have m38 := PySem.W.mg_of X G a38
  have F39 := fun_mk (st := sWild) l39 c39 k39
  have b39 := F39.binds (ps := ["_law_box_here", "_law_words", "_law_shapes_here"]) fun _ _ _ _ _ _ us hl => match us, hl with | [_, _, _], _ => rfl
  have m39 := PySem.W.mg_of X G a39
  have F40 := fun_mk (st := sNRight) l40 c40 k40
  have b40 := F40.binds (ps := ["_law_chart"]) fun _ _ _ _ _ _ us hl => match us, hl with | [_], _ => rfl
  have m40 := PySem.W.mg_of X G a40
  have F41 := fun_mk (st := sLaw) l41 c41 k41
  have y1 := PySem.W.mg_none_of X G z1
  have y2 := PySem.W.mg_none_of X G z2
  have y3 := PySem.W.mg_none_of X G z3
  have y4 := PySem.W.mg_none_of X G z4
  have y5 := PySem.W.mg_none_of X G z5
  have y6 := PySem.W.mg_none_of X G z6
  have y7 := PySem.W.mg_none_of X G z7
  have y8 := PySem.W.mg_none_of X G z8
  have y9 := PySem.W.mg_none_of X G z9
  have y10 := PySem.W.mg_none_of X G z10
  have y11 := PySem.W.mg_none_of X G z11
  have y12 := PySem.W.mg_none_of X G z12
  have y13 := PySem.W.mg_none_of X G z13
  have y14 := PySem.W.mg_none_of X G z14
  have y15 := PySem.W.mg_none_of X G z15
  have y16 := PySem.W.mg_none_of X G z16
  have y17 := PySem.W.mg_none_of X G z17
  refine ⟨PySem.W.fnOf "law" "law" (defArgs sLaw) (defBody sLaw) (defScope sLaw) .none kV41 dc41 pm41 an41 cd41 ct41, fun s v => .of_eq rfl, fun base _ _ => ?_⟩
  have c0 : ∀ H, SqT K H fS [V.ref s1, .ref s2, .ref s3] := fun H => .inr ⟨_, _, _, xL, rfl, rfl, (by show 3 ≤ sizeLine; decide), .cons rfl (.cons rfl (.cons rfl .nil))⟩
  have c1 : ∀ H, SqT K H s1 [V.str "0", .int 1] := fun H => .inr ⟨_, _, _, x1, rfl, rfl, (by show 2 ≤ sizeLine; decide), .cons ⟨_, rfl⟩ (.cons ⟨_, rfl⟩ .nil)⟩
  have c2 : ∀ H, SqT K H s2 [V.str "s", .int 2] := fun H => .inr ⟨_, _, _, x2, rfl, rfl, (by show 2 ≤ sizeLine; decide), .cons ⟨_, rfl⟩ (.cons ⟨_, rfl⟩ .nil)⟩
  have c3 : ∀ H, SqT K H s3 [V.str "f", .int 3] := fun H => .inr ⟨_, _, _, x3, rfl, rfl, (by show 2 ≤ sizeLine; decide), .cons ⟨_, rfl⟩ (.cons ⟨_, rfl⟩ .nil)⟩
  have hS : ∀ H, Dp K H (.ref fS) shapesD := fun H =>
    .tup (c0 H) (.cons (.tup (c1 H) (.cons (.str _) (.cons (.int _) .nil))) (.cons (.tup (c2 H) (.cons (.str _) (.cons (.int _) .nil))) (.cons (.tup (c3 H) (.cons (.str _) (.cons (.int _) .nil))) .nil)))
  have M : SameG mg := ⟨y12, y13, y1, y3, y14, y15, y16, y5, y17⟩
  have G1_ := ok_number (P := l.prog) (w := w) (mg := mg) (base := base) F1 M
  have G2_ := ok_pl (P := l.prog) (w := w) (mg := mg) (base := base) F2 G1_ k1 b1 m1
  have G3_ := ok_variable (P := l.prog) (w := w) (mg := mg) (base := base) F3 G1_ k1 b1 m1 (PySem.W.mg_of X G xc0)
  have G4_ := ok_shape (P := l.prog) (w := w) (mg := mg) (base := base) F4 M (PySem.W.mg_of X G xS) hS
  have G5_ := ok_term (P := l.prog) (w := w) (mg := mg) (base := base) F5 G4_ k4 b4 m4 G3_ k3 b3 m3
  have G6_ := ok_ispr (P := l.prog) (w := w) (mg := mg) (base := base) F6 G3_ k3 b3 m3 G5_ k5 b5 m5 M
  have G7_ := ok_isbd (P := l.prog) (w := w) (mg := mg) (base := base) F7 G6_ k6 b6 m6 M
  have G8_ := ok_isnm (P := l.prog) (w := w) (mg := mg) (base := base) F8 M (PySem.W.mg_of X G xc1) (PySem.W.mg_of X G xc2)
  have G9_ := ok_isam (P := l.prog) (w := w) (mg := mg) (base := base) F9 G8_ k8 b8 m8 G5_ k5 b5 m5 M
  have G10_ := ok_unl (P := l.prog) (w := w) (mg := mg) (base := base) F10 y1
  have G11_ := ok_issy (P := l.prog) (w := w) (mg := mg) (base := base) F11 G9_ k9 b9 m9 G10_ k10 b10 m10 (PySem.W.mg_of X G xc3) M
  have G12_ := ok_isst (P := l.prog) (w := w) (mg := mg) (base := base) F12 G9_ k9 b9 m9 G2_ k2 b2 m2 G7_ k7 b7 m7 G11_ k11 b11 m11 G8_ k8 b8 m8 M
  have G13_ := ok_isch (P := l.prog) (w := w) (mg := mg) (base := base) F13 G11_ k11 b11 m11 G12_ k12 b12 m12 M
  have G14_ := ok_nmT (P := l.prog) (w := w) (mg := mg) (base := base) F14 y2
  have G15_ := ok_nmI (P := l.prog) (w := w) (mg := mg) (base := base) F14 y2
  have G16_ := ok_leaned (P := l.prog) (w := w) (mg := mg) (base := base) F15 G14_ k14 b14 m14
  have G17_ := ok_goals (P := l.prog) (w := w) (mg := mg) (base := base) F16 G15_ k14 b14 m14
  have G18_ := ok_box (P := l.prog) (w := w) (mg := mg) (base := base) F17 y3 y4 y5
  have G19_ := ok_take (P := l.prog) (w := w) (mg := mg) (base := base) F18
  have G20_ := ok_pick (P := l.prog) (w := w) (mg := mg) (base := base) F19 F18 b18 m18 y3
  have G21_ := same_ok (P := l.prog) (w := w) (mg := mg) (base := base) F20 b20 m20 M 2
  have G22_ := same_ok (P := l.prog) (w := w) (mg := mg) (base := base) F20 b20 m20 M 3
  have G23_ := ok_words (P := l.prog) (w := w) (mg := mg) (base := base) F21 F18 b18 m18 y6 y3
  have G24_ := lterm_ok (P := l.prog) (w := w) (mg := mg) (base := base) F22 b22 m22 G19_ k18 b18 m18 G20_ k19 b19 m19 3
  have G25_ := ok_unlikel (P := l.prog) (w := w) (mg := mg) (base := base) F23 y1
  have G26_ := ok_unlW (P := l.prog) (w := w) (mg := mg) (base := base) F23 y1
  have G27_ := ok_shapes (P := l.prog) (w := w) (mg := mg) (base := base) F24 G19_ k18 b18 m18 y7
  have G28_ := ok_atoml (P := l.prog) (w := w) (mg := mg) (base := base) F25 G20_ k19 b19 m19 G24_ k22 b22 m22 y6 y1
  have G29_ := ok_sayingl (P := l.prog) (w := w) (mg := mg) (base := base) F26 G19_ k18 b18 m18 G28_ k25 b25 m25 G25_ k23 b23 m23 y6
  have G30_ := oth_ok (P := l.prog) (w := w) (mg := mg) (base := base) F27 b27 m27 G19_ k18 b18 m18 M 17
  have G31_ := ok_ct (P := l.prog) (w := w) (mg := mg) (base := base) F28 M
  have G32_ := tmw_ok (P := l.prog) (w := w) (mg := mg) (base := base) F29 b29 m29 G31_ k28 b28 m28 M 62
  have G33_ := ok_wordw (P := l.prog) (w := w) (mg := mg) (base := base) F30 M
  have G34_ := ok_atomw (P := l.prog) (w := w) (mg := mg) (base := base) F31 G33_ k30 b30 m30 G32_ k29 b29 m29 M
  have G35_ := ok_sayw (P := l.prog) (w := w) (mg := mg) (base := base) F32 G34_ k31 b31 m31 G26_ k23 b23 m23 M
  have G36_ := ok_bdw (P := l.prog) (w := w) (mg := mg) (base := base) F33 G31_ k28 b28 m28 G32_ k29 b29 m29 y2 y8 M
  have G37_ := ok_stw (P := l.prog) (w := w) (mg := mg) (base := base) F34 G34_ k31 b31 m31 G36_ k33 b33 m33 G35_ k32 b32 m32 G33_ k30 b30 m30 M
  have G38_ := ok_chw (P := l.prog) (w := w) (mg := mg) (base := base) F35 G35_ k32 b32 m32 G37_ k34 b34 m34 M
  have G39_ := ok_puts (P := l.prog) (w := w) (mg := mg) (base := base) F36 G19_ k18 b18 m18 G24_ k22 b22 m22 y1
  have G40_ := ok_known (P := l.prog) (w := w) (mg := mg) (base := base) F37
  have G41_ := ok_bad (P := l.prog) (w := w) (mg := mg) (base := base) F38
  have G42_ := ok_wild (P := l.prog) (w := w) (mg := mg) (base := base) F39 G19_ k18 b18 m18 G20_ k19 b19 m19 G39_ k36 b36 m36 G29_ k26 b26 m26 G28_ k25 b25 m25 y6 y1
  have G43_ := ok_nright (P := l.prog) (w := w) (mg := mg) (base := base) F40 G16_ k15 b15 m15 G17_ k16 b16 m16 G22_ k20 b20 m20 y2 y8
  exact ok_law F41 G18_ k17 b17 m17 G23_ k21 b21 m21 G27_ k24 b24 m24 G20_ k19 b19 m19 G40_ k37 b37 m37 G41_ k38 b38 m38 G29_ k26 b26 m26 G42_ k39 b39 m39 G30_ k27 b27 m27 G19_ k18 b18 m18 G13_ k13 b13 m13 G38_ k35 b35 m35 G21_ k20 b20 m20 G43_ k40 b40 m40 y6 y9 y10 y3 y11
theorem walk {l : PySem.W.OpenLaw} {q : Program} {loose : List Str} {XP : (Str → Option Value) → Heap → Prop} {YP : World → Heap → Prop} {d : DefRec} {K : Params → PySem.W.Frag} (hn : l.most = some 63) (hdf : d.params.defaults = [])
    (hY : ∀ (w : World) (h : Heap), YP w h → (K w.params).In h)
    (F : ∀ (w : World) (mg : Str → Option Value) (fa : Addr) (h : Heap), (K w.params).In h → h.Ns mainGlobals mg → mg d.name = some (.ref fa) →
      ∃ fd : FuncData, (∀ (s : Shared) (u : Value), BindsTo s fd ⟨[u], []⟩ [("_law_script", u)]) ∧ ∀ base : Heap, (K w.params).In base → base.Ns mainGlobals mg → GnOk l.prog w (K w.params) mg base 67 fa fd ["_law_script"] (spLaw (K w.params))) :
    PySem.W.WalkO q loose XP YP l.row.toRowW d [] (fun f vs => PySem.call f vs) :=
  walk_ofG (n := 63) (k := 67) (x := "_law_script") (sp := spLaw) hn (by decide) hdf ⟨rfl, by decide, by decide⟩ hY F (fun _ _ a ns hl _ hS => ⟨a, ns, rfl, hS, hl, fun _ => rfl⟩)
end Rp
open PySem PySem.W PyProof.Rows
set_option maxRecDepth 100000 in
set_option maxHeartbeats 0 in
theorem PySem.Challenge.cw_ringproofs_k35_charts_by_their_parts_holds : PySem.Challenge.rw_ringproofs_k35_charts_by_their_parts.Holds := by
  w_on; o_law; k_head; (case hw => w_witness2)
  k_fill
  refine Rp.walk (l := PySem.Challenge.rw_ringproofs_k35_charts_by_their_parts) rfl rfl (fun w h Y => PySem.W.kIn_of Y) ?F
  case F =>
    intro w mg fa h KX G hmg
    refine' Rp.all_mk KX G hmg ?a1 ?l1 ?c1 ?k1 ?a2 ?l2 ?c2 ?k2 ?a3 ?l3 ?c3 ?k3 ?a4 ?l4 ?c4 ?k4 ?a5 ?l5 ?c5 ?k5 ?a6 ?l6 ?c6 ?k6 ?a7 ?l7 ?c7 ?k7 ?a8 ?l8 ?c8 ?k8 ?a9 ?l9 ?c9 ?k9 ?a10 ?l10 ?c10 ?k10 ?a11 ?l11 ?c11 ?k11 ?a12 ?l12 ?c12 ?k12 ?a13 ?l13 ?c13 ?k13 ?a14 ?l14 ?c14 ?k14 ?a15 ?l15 ?c15 ?k15 ?a16 ?l16 ?c16 ?k16 ?a17 ?l17 ?c17 ?k17 ?a18 ?l18 ?c18 ?k18 ?a19 ?l19 ?c19 ?k19 ?a20 ?l20 ?c20 ?k20 ?a21 ?l21 ?c21 ?k21 ?a22 ?l22 ?c22 ?k22 ?a23 ?l23 ?c23 ?k23 ?a24 ?l24 ?c24 ?k24 ?a25 ?l25 ?c25 ?k25 ?a26 ?l26 ?c26 ?k26 ?a27 ?l27 ?c27 ?k27 ?a28 ?l28 ?c28 ?k28 ?a29 ?l29 ?c29 ?k29 ?a30 ?l30 ?c30 ?k30 ?a31 ?l31 ?c31 ?k31 ?a32 ?l32 ?c32 ?k32 ?a33 ?l33 ?c33 ?k33 ?a34 ?l34 ?c34 ?k34 ?a35 ?l35 ?c35 ?k35 ?a36 ?l36 ?c36 ?k36 ?a37 ?l37 ?c37 ?k37 ?a38 ?l38 ?c38 ?k38 ?a39 ?l39 ?c39 ?k39 ?a40 ?l40 ?c40 ?k40 ?a41 ?l41 ?c41 ?k41 ?z1 ?z2 ?z3 ?z4 ?z5 ?z6 ?z7 ?z8 ?z9 ?z10 ?z11 ?z12 ?z13 ?z14 ?z15 ?z16 ?z17 ?xS ?xL ?x1 ?x2 ?x3 ?xc0 ?xc1 ?xc2 ?xc3
    (case a1 => k_is); (case l1 => k_is); (case c1 => k_is); (case k1 => k_is)
    (case a2 => k_is); (case l2 => k_is); (case c2 => k_is); (case k2 => k_is)
    (case a3 => k_is); (case l3 => k_is); (case c3 => k_is); (case k3 => k_is)
    (case a4 => k_is); (case l4 => k_is); (case c4 => k_is); (case k4 => k_is)
    (case a5 => k_is); (case l5 => k_is); (case c5 => k_is); (case k5 => k_is)
    (case a6 => k_is); (case l6 => k_is); (case c6 => k_is); (case k6 => k_is)
    (case a7 => k_is); (case l7 => k_is); (case c7 => k_is); (case k7 => k_is)
    (case a8 => k_is); (case l8 => k_is); (case c8 => k_is); (case k8 => k_is)
    (case a9 => k_is); (case l9 => k_is); (case c9 => k_is); (case k9 => k_is)
    (case a10 => k_is); (case l10 => k_is); (case c10 => k_is); (case k10 => k_is)
    (case a11 => k_is); (case l11 => k_is); (case c11 => k_is); (case k11 => k_is)
    (case a12 => k_is); (case l12 => k_is); (case c12 => k_is); (case k12 => k_is)
    (case a13 => k_is); (case l13 => k_is); (case c13 => k_is); (case k13 => k_is)
    (case a14 => k_is); (case l14 => k_is); (case c14 => k_is); (case k14 => k_is)
    (case a15 => k_is); (case l15 => k_is); (case c15 => k_is); (case k15 => k_is)
    (case a16 => k_is); (case l16 => k_is); (case c16 => k_is); (case k16 => k_is)
    (case a17 => k_is); (case l17 => k_is); (case c17 => k_is); (case k17 => k_is)
    (case a18 => k_is); (case l18 => k_is); (case c18 => k_is); (case k18 => k_is)
    (case a19 => k_is); (case l19 => k_is); (case c19 => k_is); (case k19 => k_is)
    (case a20 => k_is); (case l20 => k_is); (case c20 => k_is); (case k20 => k_is)
    (case a21 => k_is); (case l21 => k_is); (case c21 => k_is); (case k21 => k_is)
    (case a22 => k_is); (case l22 => k_is); (case c22 => k_is); (case k22 => k_is)
    (case a23 => k_is); (case l23 => k_is); (case c23 => k_is); (case k23 => k_is)
    (case a24 => k_is); (case l24 => k_is); (case c24 => k_is); (case k24 => k_is)
    (case a25 => k_is); (case l25 => k_is); (case c25 => k_is); (case k25 => k_is)
    (case a26 => k_is); (case l26 => k_is); (case c26 => k_is); (case k26 => k_is)
    (case a27 => k_is); (case l27 => k_is); (case c27 => k_is); (case k27 => k_is)
    (case a28 => k_is); (case l28 => k_is); (case c28 => k_is); (case k28 => k_is)
    (case a29 => k_is); (case l29 => k_is); (case c29 => k_is); (case k29 => k_is)
    (case a30 => k_is); (case l30 => k_is); (case c30 => k_is); (case k30 => k_is)
    (case a31 => k_is); (case l31 => k_is); (case c31 => k_is); (case k31 => k_is)
    (case a32 => k_is); (case l32 => k_is); (case c32 => k_is); (case k32 => k_is)
    (case a33 => k_is); (case l33 => k_is); (case c33 => k_is); (case k33 => k_is)
    (case a34 => k_is); (case l34 => k_is); (case c34 => k_is); (case k34 => k_is)
    (case a35 => k_is); (case l35 => k_is); (case c35 => k_is); (case k35 => k_is)
    (case a36 => k_is); (case l36 => k_is); (case c36 => k_is); (case k36 => k_is)
    (case a37 => k_is); (case l37 => k_is); (case c37 => k_is); (case k37 => k_is)
    (case a38 => k_is); (case l38 => k_is); (case c38 => k_is); (case k38 => k_is)
    (case a39 => k_is); (case l39 => k_is); (case c39 => k_is); (case k39 => k_is)
    (case a40 => k_is); (case l40 => k_is); (case c40 => k_is); (case k40 => k_is)
    (case a41 => k_is); (case l41 => k_is); (case c41 => k_is); (case k41 => k_is)
    (case z1 => k_is); (case z2 => k_is); (case z3 => k_is); (case z4 => k_is)
    (case z5 => k_is); (case z6 => k_is); (case z7 => k_is); (case z8 => k_is)
    (case z9 => k_is); (case z10 => k_is); (case z11 => k_is); (case z12 => k_is)
    (case z13 => k_is); (case z14 => k_is); (case z15 => k_is); (case z16 => k_is)
    (case z17 => k_is); (case xS => k_is); (case xL => k_is); (case x1 => k_is)
    (case x2 => k_is); (case x3 => k_is); (case xc0 => k_is); (case xc1 => k_is)
    (case xc2 => k_is); (case xc3 => k_is)

