import PyProof.Rows.All
import Wide.All
import OpenK.AllK
import Wide.FinOn
import HandS.ForMost
import HandS.GenList
import HandS.AnyAll
import PyProof.TupleOfGen
import HandS.EndOwn
import HandS.SetKeys
import HandS.More
import HandS.Conv
import HandS.IsInst
import HandS.Sort
import HandS.Wide
import KE.KNest
import HandS.Evl
import PySem.Challenge.RW_moatways_k21_wrong_lines_of_tasks
import HandS.Walk
import HandS.Deep
import HandS.Gcd
import KE.GoesEnum
import HandS.SortRule
import HandS.TupSets
import HandS.SortInts
import HandS.Small
import HandS.Text
import HandS.Codes
import HandS.StrMore
import KE.OsScanText
import PyProof.Rows.StrSplitJoin
import KE.GoesEnumKw
import HandS.FStr
import HandS.SortKw
import PyProof.Rows.CallKwBuiltin
import KE.IntTextText
import HandS.ForExc
import HandS.ExcInit
import HandS.ExcIs
import HandS.ExcField
import HandS.ExcInitHot
import HandS.ClsMeth
import HandS.CallLocal
import HandS.HeadHook4
import PyProof.StrOps2
import HandS.Iter
import HandS.TryOnly
import HandS.HeadWalk
import HandS.CallRecv
set_option Elab.async false
set_option linter.all false
set_option maxRecDepth 100000
set_option maxHeartbeats 2000000
/-! Generator expressions over the hand layer, consumed at once: all, any, sum, tuple. -/
namespace GE
open PySem PySem.Spec PyProof.Rows L2 GenW

/-- what the consumer keeps at S when ys is out -/
abbrev CO := List V → Obj → Prop
structure Slp (C : CO) (S : Addr) (ys : List V) (s s' : Shared) : Prop where
  os : s'.os = s.os
  bare : AllBare s'.gens
  keep : ∀ b o, b ≠ S → s.heap.get? b = some o → s'.heap.get? b = some o
  own : ∃ o, s'.heap.get? S = some o ∧ C ys o
structure Mid (P : Program) (w : World) (outer : List Env) (ex : List Addr) (H : Hp) (s : Shared) (S a : Addr) (g : Nat) (C : CO) (ys : List V) (H' : Hp) (s' : Shared) : Prop where
  os : s'.os = s.os
  bare : AllBare s'.gens
  lim : s'.heap.NoLimit
  gen : s'.heap.IsGen a g
  un : Un (frs outer) ex H H' s.heap s'.heap
  hok : HOk P w H' s'.heap
  free : H' S = none
  own : ∃ o, s'.heap.get? S = some o ∧ C ys o
/-- what is wanted when an item is handed out; the last: that it may go on -/
abbrev YO := List V → V → Hp → Prop → Prop
abbrev EN := List V → Hp → Prop
def GYx (P : Program) (w : World) (outer : List Env) (ex : List Addr) (H : Hp) (s : Shared) (S a : Addr) (g : Nat) (C : CO) (Yo : YO) : Protocol := fun n s₀ v s' kap =>
  ∃ ys x H', n + 1 + ys.length = sizeLine ∧ RelV x v ∧ (∀ ob, s₀.heap.get? S = some ob → s'.heap.get? S = some ob) ∧ Mid P w outer ex H s S a g C ys H' s' ∧ Yo ys x H' (∀ s'', Slp C S (ys ++ [x]) s' s'' → kap (.send .none) s'')
def Fi (P : Program) (w : World) (outer : List Env) (ex : List Addr) (H : Hp) (s : Shared) (S a : Addr) (g : Nat) (C : CO) (En : EN) : Nat → Shared → Shared → Prop := fun n s₀ s' =>
  ∃ ys H', n + ys.length = sizeLine ∧ (∀ ob, s₀.heap.get? S = some ob → s'.heap.get? S = some ob) ∧ Mid P w outer ex H s S a g C ys H' s' ∧ En ys H'
def REx (P : Program) (w : World) (outer : List Env) (ex : List Addr) (H : Hp) (s : Shared) (S a : Addr) (g : Nat) (C : CO) (En : EN) : GenEnd := fun n s₀ r s1 =>
  ((r = .ok (.ret .none) ∨ r = .ok .next) ∧ Fi P w outer ex H s S a g C En n s₀ s1) ∨ ∃ e, r = .error e ∧ (fun (_ : Value) (_ : Shared) => False) e s1

/-- running: ys is out -/
def GIx (X : Cx) (S : Addr) (C : CO) (ip : List (Addr × Obj)) (ys : List V) (σ : L2.St) (H : Hp) (s : Shared) : Prop := ∃ o, C ys o ∧ Inv X ((S, o) :: ip) σ H s
theorem GIx.woken {X : Cx} {S : Addr} {C : CO} {ip : List (Addr × Obj)} {ys zs : List V} {σ : L2.St} {H : Hp} {s s' : Shared} (hC : ∀ ys o, C ys o → ∀ v, o.data ≠ .cell v) (hpn : ∀ p ∈ X.pn, p.1 ≠ S) (hip : ∀ p ∈ ip, p.1 ≠ S) (hA : Apart X S) (h : GIx X S C ip ys σ H s) (z : Slp C S zs s s') :
    GIx X S C ip zs σ H s' := by
  obtain ⟨o, hCo, I⟩ := h
  obtain ⟨eS, hS0, hSL, hSf, _⟩ := I.pin (S, o) (List.mem_append_right _ List.mem_cons_self)
  have I0 : Inv X ip σ H s := I.pins_of fun p hp => I.pin p (List.mem_append_right _ (List.mem_cons_of_mem _ hp))
  have nt : ∀ b u, H b = some u → b ≠ S := fun b u q hb => by rw [hb, hS0] at q; cases q
  obtain ⟨z1, z2, z3, o', eS', hCo'⟩ := z
  obtain ⟨hh, g, d, t, o9⟩ := s'
  have ho : o9 = s.os := z1
  subst ho
  have nc : ∀ b, b ∉ [S] → b ≠ S := fun b hb e => hb (by rw [e]; exact List.mem_singleton.mpr rfl)
  have J : Inv X ip σ H { s with heap := hh, gens := g, drawn := d, toks := t } := by
    refine I0.step (g' := g) (t' := t) (d' := d) (ch := [S]) (fun b hb => ?_)
      (fun b ob _ _ hc q _ => z3 b ob (nc b hc) q) (fun b ob _ _ hc q _ => ⟨ob.slots, z3 b ob (nc b hc) q⟩) (fun _ _ _ _ n => n) (fun b ob hc q => ⟨ob, z3 b ob (nc b hc) q⟩)
      (fun _ _ q => q) (fun _ _ _ q => q) (fun b ps q => ⟨#[], by rw [q]; simp⟩) (fun m hm => ?_) (fun b u q => ?_) z2
    · rw [List.mem_singleton.mp hb]
      refine ⟨.inr hA.1, hA.2.1, hA.2.2, fun p hp => ?_⟩
      rcases List.mem_append.mp hp with hp | hp
      · exact hpn p hp
      · exact hip p hp
    · obtain ⟨ob, es, ep, ho, r⟩ := hm
      exact ⟨ob, es, ep, z3 _ ob (Ne.symm hSL) ho, r⟩
    · refine (I0.hok b u q).stay (fun c v hc y => z3 c v ?_ y) (fun _ y => y) fun _ _ y => y
      rcases hc with y | y
      · rw [y]; exact nt b u q
      · exact nt c _ y
  refine ⟨o', hCo', J.pins_of fun p hp => ?_⟩
  rcases List.mem_cons.mp hp with hp | hp
  · rw [hp]
    exact ⟨eS', hS0, hSL, hSf, hC _ _ hCo'⟩
  · exact J.pin p (List.mem_append_right _ hp)

/-- the context of a generator expression's frame -/
abbrev gcx (X : Cx) (A : Around) (s : Shared) (H : Hp) (cenv : Env) (fp : List Addr) (gp : List (Addr × Obj)) : Cx :=
  { X with A := A.deeper cenv, s_0 := s, H_0 := H, env := cenv, outer := X.stack, stack := cenv :: X.stack, ex := fp, fn := fun _ => false, calm := true, pn := gp, xe := fun _ _ => False }

theorem mid_of {X : Cx} {A : Around} {s s' : Shared} {H H' : Hp} {cenv : Env} {fp : List Addr} {gp ip : List (Addr × Obj)} {S a : Addr} {g : Nat} {C : CO} {ys : List V} {σ : L2.St}
    (hgen : ∀ (s' : Shared) (ys : List V) (o : Obj), s'.heap.get? S = some o → C ys o → (∀ p ∈ gp, s'.heap.get? p.1 = some p.2) → s'.heap.IsGen a g)
    (h : GIx (gcx X A s H cenv fp gp) S C ip ys σ H' s') : Mid X.prog X.w X.stack fp H s S a g C ys H' s' := by
  obtain ⟨o, hCo, I⟩ := h
  obtain ⟨eS, hS0, _⟩ := I.pin (S, o) (List.mem_append_right _ List.mem_cons_self)
  exact ⟨I.os, I.bare, I.nolimit, hgen s' ys o eS hCo fun p hp => (I.pin p (List.mem_append_left _ hp)).1, I.base, I.hok, hS0, o, eS, hCo⟩

theorem over_comp {A : Around} {elt : Expr} {gs : List Comprehension} {scope : Scope} {pos : Pos} {u v : Value} {env : Env} : A.over (.compLoop (.GeneratorExp elt gs scope pos) 0 u v env) [] = A.deeper env := by
  first
    | rfl
    | (obtain ⟨hd, d, fr, gs, u⟩ := A; simp [Around.over, Around.deeper, marksOver, frameCount, unitsOf, envsOf, guardsOf, pushEnvs, pushGuards, Code.envs, Code.env?, Code.isFrame, Code.guards, Code.isGuard, Code.weight, Code.frames, Code.isCreation, Code.isCaller, Code.cUnits])
theorem over_compS {A : Around} {elt : Expr} {gs : List Comprehension} {scope : Scope} {pos : Pos} {u v : Value} {env : Env} : A.over (.compStart (.GeneratorExp elt gs scope pos) 0 u v env) [] = A.deeper env := by
  first
    | rfl
    | (obtain ⟨hd, d, fr, gs, u⟩ := A; simp [Around.over, Around.deeper, marksOver, frameCount, unitsOf, envsOf, guardsOf, pushEnvs, pushGuards, Code.envs, Code.env?, Code.isFrame, Code.guards, Code.isGuard, Code.weight, Code.frames, Code.isCreation, Code.isCaller, Code.cUnits])

/-- a turn of the loop -/
def turnX (g : TG) (tt : TT) (te : TE) (vs : List Nat) (σ : L2.St) (Yo : YO) (En : EN) (J : It) (W : Nat → Nat → List V → Hp → Prop) : Prop := ∀ i m ys H, W i m ys H →
  (J.stop i H ∧ En ys H) ∨ (J.go i H ∧ ∀ x H', J.yld i H x H' → g x (wipe σ vs) H' fun σ2 H2 => wipe σ2 vs = wipe σ vs ∧ tt σ2 H2 fun b H3 =>
    if b = true then te σ2 H3 fun y H4 => ys.length < sizeLine ∧ Yo ys y H4 (∃ m', m' < m ∧ W (i + 1) m' (ys ++ [y]) H4) else ∃ m', m' < m ∧ W (i + 1) m' ys H3)

section
variable {X : Cx} {A : Around} {s : Shared} {H : Hp} {cenv : Env} {fp : List Addr} {gp : List (Addr × Obj)} {S a : Addr} {g0 : Nat} {C : CO} {Yo : YO} {En : EN}
  {elt tg iter : Expr} {ifs : List Expr} {scope : Scope} {pos : Pos} {it : Addr} {vs : List Nat} {σ : L2.St} {g : TG} {tt : TT} {te : TE} {J : It} {tn : Nat → Heap → Prop} {W : Nat → Nat → List V → Hp → Prop}
theorem seg_loop (hC : ∀ ys o, C ys o → ∀ v, o.data ≠ .cell v) (hY : ∀ ys y H K K', (K → K') → Yo ys y H K → Yo ys y H K')
    (hgen : ∀ (s' : Shared) (ys : List V) (o : Obj), s'.heap.get? S = some o → C ys o → (∀ p ∈ gp, s'.heap.get? p.1 = some p.2) → s'.heap.IsGen a g0)
    (hpn : ∀ p ∈ gp, p.1 ≠ S ∧ p.1 ∉ fp) (hSf : S ∉ fp) (hA : Apart (gcx X A s H cenv fp gp) S) (hco : cenv.scope.isCoroutine = false)
    (T : Turn X.prog X.w X.K tg J fp it tn) (pg : PG (gcx X A s H cenv fp gp) tg g) (pt : PTs (gcx X A s H cenv fp gp) ifs tt) (pe : PE (gcx X A s H cenv fp gp) elt te) (turn : turnX g tt te vs σ Yo En J W) :
    ∀ (m n i : Nat) (ys : List V) (H' : Hp) (s₀ s' : Shared), n + ys.length = sizeLine → W i m ys H' → GIx (gcx X A s H cenv fp gp) S C [] ys (wipe σ vs) H' s' → tn i s'.heap → (∀ b ∈ fp, H' b = none) → (∀ ob, s₀.heap.get? S = some ob → s'.heap.get? S = some ob) →
      Seg (model X.prog X.w) A (REx X.prog X.w X.stack fp H s S a g0 C En) (GYx X.prog X.w X.stack fp H s S a g0 C Yo) n s₀
        (.compLoop (.GeneratorExp elt [⟨tg, iter, ifs, 0⟩] scope pos) 0 (.ref it) .none cenv) ((model X.prog X.w).den (.compLoop (.GeneratorExp elt [⟨tg, iter, ifs, 0⟩] scope pos) 0 (.ref it) .none cenv)) [] s' := by
  have stat : ∀ {σ' : L2.St} {H' : Hp} {s' : Shared} {pins : List (Addr × Obj)}, Inv (gcx X A s H cenv fp gp) pins σ' H' s' → (∀ p ∈ pins, p.1 ∉ fp) → (∀ b ∈ fp, H' b = none) → ∀ b ∈ fp, FpOk (gcx X A s H cenv fp gp) pins H' b := fun {σ' H' s' pins} I' hp0 hn b hb =>
    ⟨hn b hb, (I'.ok.exf b hb).1, I'.ok.exfs b hb, .inl hb, fun x c e => (I'.ok.exf b hb).2 x c e, fun p hp z => (List.mem_append.mp hp).elim (fun q => (hpn p q).2 (z ▸ hb)) fun q => hp0 p q (z ▸ hb)⟩
  intro m
  induction m using Nat.strongRecOn with
  | ind m ih =>
    intro n i ys H' s₀ s' hn w hG st nf h0
    obtain ⟨o, hCo, I⟩ := _root_.id hG
    have h0' : ∀ ob, s₀.heap.get? S = some ob → ob = o := fun ob e => by
      have e1 := h0 ob e
      rw [(I.pin (S, o) (List.mem_append_right _ List.mem_cons_self)).1] at e1
      exact (Option.some.inj e1).symm
    have hp1 : ∀ p ∈ [(S, o)], p.1 ∉ fp := fun p hp => by rw [List.mem_singleton.mp hp]; exact hSf
    show Seg _ A _ _ n s₀ _ ((compTurn (.GeneratorExp elt [⟨tg, iter, ifs, 0⟩] scope pos) 0 (.ref it) .none cenv).onRaise (leaving cenv)) [] s'
    rw [compTurn_gen, Sem.onRaise_eq_wrap]
    refine seg_bind_wrap (wpAny_standAt ?_)
    rcases turn i m ys H' w with ⟨stop, hend⟩ | ⟨go, step⟩
    · refine seg_bind_wrap ?_
      rw [over_comp]
      refine thnF (T.done (gcx X A s H cenv fp gp) rfl rfl rfl rfl i [(S, o)] s' _ H' (fun _ _ => False) I (stat I hp1 nf) st stop) fun r s1 ⟨hr, I1⟩ => ?_
      subst hr
      exact seg_end (.ok .next) (.inl ⟨.inr rfl, ys, H', hn, fun ob e => by rw [h0' ob e]; exact (I1.pin (S, o) (List.mem_append_right _ List.mem_cons_self)).1, mid_of hgen ⟨o, hCo, I1⟩, hend⟩)
    · refine seg_bind_wrap ?_
      rw [over_comp]
      refine thnF (T.item (gcx X A s H cenv fp gp) rfl rfl rfl rfl i [(S, o)] s' _ H' (fun _ _ => False) I (stat I hp1 nf) st go) fun r s1 ⟨u, hr, h1⟩ => ?_
      subst hr
      refine seg_bind_wrap ?_
      rw [over_comp]
      refine thnF h1 fun _ s2 ⟨x, H2, I2, r2, y2, st2, n2⟩ => ?_
      have I2' := I2.pinned (stat I2 hp1 n2) (T.obj _ _ st2)
      refine seg_bind_wrap ?_
      rw [over_comp]
      refine thnF (pg.run _ s2 _ H2 x u _ I2' r2 (step x H2 y2)) fun _ s3 ⟨σ3, H3, I3, hw3, q3⟩ => ?_
      refine seg_bind_wrap ?_
      rw [over_comp]
      refine thnF (pt.run _ s3 σ3 H3 _ I3 q3) fun b s4 ⟨H4, I4, q4⟩ => ?_
      have hl : (wipe σ vs).length = σ3.length := by rw [← hw3, wipe_length]
      have fin : ∀ {n' : Nat} {s9 s₀' : Shared} {H9 : Hp} {zs : List V} {m' : Nat}, n' + zs.length = sizeLine → GIx (gcx X A s H cenv fp gp) S C (pinsAt fp s2.heap) zs σ3 H9 s9 → m' < m → W (i + 1) m' zs H9 → (∀ ob, s₀'.heap.get? S = some ob → s9.heap.get? S = some ob) →
          Seg (model X.prog X.w) A (REx X.prog X.w X.stack fp H s S a g0 C En) (GYx X.prog X.w X.stack fp H s S a g0 C Yo) n' s₀'
            (.compLoop (.GeneratorExp elt [⟨tg, iter, ifs, 0⟩] scope pos) 0 (.ref it) .none cenv) ((model X.prog X.w).den (.compLoop (.GeneratorExp elt [⟨tg, iter, ifs, 0⟩] scope pos) 0 (.ref it) .none cenv)) [] s9 := fun {n' s9 s₀' H9 zs m'} hn' hG9 hm' w9 h9 => by
        obtain ⟨o9, hCo9, I9⟩ := hG9
        have pin9 : ∀ b ∈ fp, ∀ ob, s2.heap.get? b = some ob → s9.heap.get? b = some ob ∧ H9 b = none := fun b hb ob e =>
          let z := I9.pin (b, ob) (List.mem_append_right _ (List.mem_cons_of_mem _ (mem_pinsAt hb e)))
          ⟨z.1, z.2.1⟩
        refine ih m' hm' n' (i + 1) zs H9 s₀' s9 hn' w9 ⟨o9, hCo9, ?_⟩ (T.keep _ _ _ st2 fun b hb ob e => (pin9 b hb ob e).1) (fun b hb => ?_) h9
        · refine Inv.weak (I9.pins_of fun p hp => I9.pin p (List.mem_append_right _ ?_)) hl fun j v e => ?_
          · rw [List.mem_singleton.mp hp]; exact List.mem_cons_self
          · rw [← hw3] at e
            exact (wipe_some e).1
        · obtain ⟨ob, e, _⟩ := T.obj _ _ st2 b hb
          exact (pin9 b hb ob e).2
      cases b with
      | false =>
        simp only [Bool.false_eq_true, if_false] at q4 ⊢
        obtain ⟨m', hm', w4⟩ := q4
        exact seg_again rfl (fin hn ⟨o, hCo, I4⟩ hm' w4 fun ob e => by rw [h0' ob e]; exact (I4.pin (S, o) (List.mem_append_right _ List.mem_cons_self)).1)
      | true =>
        simp only [if_true] at q4 ⊢
        have hy : ∀ v, yieldOut cenv v = yieldValue v := fun v => by simp only [yieldOut, hco, Bool.false_eq_true, if_false]
        simp only [hy]
        rw [Sem.bind_eq_wrap', Sem.bind_eq_wrap', Sem.wrap_wrap, Sem.wrap_wrap]
        refine seg_wrap ?_
        rw [over_comp]
        refine thnF (pe.run _ s4 σ3 H4 _ I4 q4) fun u5 s5 ⟨y, H5, I5, r5, hlt, q5⟩ => ?_
        obtain ⟨n, rfl⟩ : ∃ k, n = k + 1 := ⟨n - 1, by omega⟩
        have G5 : GIx (gcx X A s H cenv fp gp) S C (pinsAt fp s2.heap) ys σ3 H5 s5 := ⟨o, hCo, I5⟩
        refine seg_at (seg_yield rfl rfl rfl ⟨ys, y, H5, hn, r5, fun ob e => by rw [h0' ob e]; exact (I5.pin (S, o) (List.mem_append_right _ List.mem_cons_self)).1, mid_of hgen G5, hY _ _ _ _ _ (fun ⟨m', hm', w5⟩ s6 z => ?_) q5⟩)
        refine seg_again rfl (fin ?_ (G5.woken hC (fun p hp => (hpn p hp).1) (fun p hp z => hSf (z ▸ (of_pinsAt hp).1)) hA z) hm' w5 fun _ e => e)
        rw [List.length_append, List.length_singleton]; omega
end
end GE

set_option Elab.async false
set_option linter.all false
set_option maxRecDepth 100000
set_option maxHeartbeats 2000000
namespace GE
open PySem PySem.Spec PyProof.Rows L2 GenW
section
variable {X : Cx} {A : Around} {s : Shared} {H : Hp} {cenv : Env} {fp : List Addr} {gp : List (Addr × Obj)} {S a : Addr} {g0 : Nat} {C : CO} {Yo : YO} {En : EN}
  {elt tg iter : Expr} {ifs : List Expr} {scope : Scope} {pos : Pos} {it : Addr} {vs : List Nat} {σ : L2.St} {g : TG} {tt : TT} {te : TE} {J : It} {tn : Nat → Heap → Prop} {W : Nat → Nat → List V → Hp → Prop}
theorem seg_start {m : Nat} {H' : Hp} {s₀ s' : Shared} (hC : ∀ ys o, C ys o → ∀ v, o.data ≠ .cell v) (hY : ∀ ys y H K K', (K → K') → Yo ys y H K → Yo ys y H K')
    (hgen : ∀ (s' : Shared) (ys : List V) (o : Obj), s'.heap.get? S = some o → C ys o → (∀ p ∈ gp, s'.heap.get? p.1 = some p.2) → s'.heap.IsGen a g0)
    (hpn : ∀ p ∈ gp, p.1 ≠ S ∧ p.1 ∉ fp) (hSf : S ∉ fp) (hA : Apart (gcx X A s H cenv fp gp) S) (hco : cenv.scope.isCoroutine = false)
    (T : Turn X.prog X.w X.K tg J fp it tn) (pg : PG (gcx X A s H cenv fp gp) tg g) (pt : PTs (gcx X A s H cenv fp gp) ifs tt) (pe : PE (gcx X A s H cenv fp gp) elt te) (turn : turnX g tt te vs σ Yo En J W)
    (w : W 0 m [] H') (hG : GIx (gcx X A s H cenv fp gp) S C [] [] (wipe σ vs) H' s') (st : tn 0 s'.heap) (nf : ∀ b ∈ fp, H' b = none) (h0 : ∀ ob, s₀.heap.get? S = some ob → s'.heap.get? S = some ob) :
    Seg (model X.prog X.w) A (REx X.prog X.w X.stack fp H s S a g0 C En) (GYx X.prog X.w X.stack fp H s S a g0 C Yo) sizeLine s₀
        (.compStart (.GeneratorExp elt [⟨tg, iter, ifs, 0⟩] scope pos) 0 (.ref it) .none cenv) ((model X.prog X.w).den (.compStart (.GeneratorExp elt [⟨tg, iter, ifs, 0⟩] scope pos) 0 (.ref it) .none cenv)) [] s' := by
  have loop := seg_loop (pos := pos) (iter := iter) (scope := scope) hC hY hgen hpn hSf hA hco T pg pt pe turn m sizeLine 0 [] H' s₀ s' (Nat.add_zero _) w hG st nf h0
  show Seg _ A _ _ _ s₀ _ ((compStart (.GeneratorExp elt [⟨tg, iter, ifs, 0⟩] scope pos) 0 (.ref it) .none cenv).onRaise (leaving cenv)) [] s'
  unfold compStart
  rw [Sem.onRaise_eq_wrap]
  show Seg _ A _ _ _ s₀ _ ((ask >>= _).wrap _ _ _ _) [] s'
  refine seg_bind_wrap (wpAny_askSetting ?_)
  split
  · exact seg_again rfl loop
  · first
      | exact seg_bind_wrap (wpAny_rule (seg_bind_wrap (wpAny_standAt (seg_bind_wrap (T.self _ 0 s' _ _ st (seg_again rfl loop))))))
      | (refine seg_bind_wrap (wpAny_rule ?_); show Seg _ A _ _ _ s₀ _ ((standAt iter.pos >>= _).wrap _ _ _ _) [] s'; exact seg_bind_wrap (wpAny_standAt (seg_bind_wrap (T.self _ 0 s' _ _ st (seg_again rfl loop)))))

/-- the frame's start, in any later state that keeps what stood -/
theorem gen_start {pins pl : List (Addr × Obj)} {own : List (Str × Nat)} {code : Value} {m : Str → Option Value} {s2 : Shared} (I : Inv X pins σ H s) (ok : BlkOk X.N X.env.scope scope own) (hN : X.N.Nodup) (hnc : ∀ y ∈ scope.names, y.2 ≠ .cell)
    (hfp : ∀ b ∈ fp, FpOk X pins H b ∧ b < s.heap.objs.size) (hd : A.handled = none) (hfr : A.frames = some X.stack)
    (hce : cenv = genEnv scope (cloFrom X.env.cells scope.names []) s.heap.objs.size code builtinsNs X.env)
    (kp : ∀ b o, s.heap.get? b = some o → s2.heap.get? b = some o) (hns : s2.heap.Ns s.heap.objs.size m) (hos : s2.os = s.os) (hba : AllBare s2.gens)
    (hpl : ∀ p ∈ gp ++ pl, s2.heap.get? p.1 = some p.2 ∧ s.heap.objs.size < p.1 ∧ ∀ v, p.2.data ≠ .cell v) :
    Inv (gcx X A s H cenv fp gp) pl (wipe σ (own.map (·.2))) H s2 := by
  have hfree : ∀ y ∈ scope.names, y.2 = .free → ∃ c, X.env.cells.lookup y.1 = some c := fun y hy e => by
    rcases ok.free y hy e with k | k
    · exact I.ok.has _ (.inl k)
    · exact I.ok.has _ (.inr k)
  have hL : cenv.locals = s.heap.objs.size := by rw [hce]; rfl
  have hcl : cenv.cells = cloFrom X.env.cells scope.names [] := by rw [hce]; rfl
  have hsc : cenv.scope = scope := by rw [hce]; rfl
  have cm : ∀ {y c}, (y, c) ∈ cloFrom X.env.cells scope.names [] → X.env.cells.lookup y = some c ∧ c < s.heap.objs.size := fun {y c} hm => by
    rcases cloFrom_mem hm with hm | ⟨h1, rfl⟩
    · cases hm
    · obtain ⟨c, hc⟩ := hfree _ h1 rfl
      rw [hc]
      obtain ⟨w, z⟩ := I.cell _ _ hc
      exact ⟨rfl, z.lt⟩
  have mem : ∀ {y c}, cenv.cells.lookup y = some c → X.env.cells.lookup y = some c ∧ c < s.heap.objs.size := fun {y c} e => by
    rw [hcl] at e
    exact cm (PySem.mem_of_lookup e)
  have look : ∀ {y}, scope.names.lookup y = some .free → ∃ c, cenv.cells.lookup y = some c ∧ X.env.cells.lookup y = some c := fun {y} hl => by
    have hy : (y, NameKind.free) ∈ scope.names := PySem.mem_of_lookup hl
    obtain ⟨c', e'⟩ := mem_lookup (cloFrom_has (cells := X.env.cells) (acc := []) hy)
    rw [← hcl] at e'
    exact ⟨c', e', (mem e').1⟩
  have stkLt : ∀ b ∈ frs X.stack, b < s.heap.objs.size := fun b hb => by
    obtain ⟨_, o, ho, _⟩ := I.stack.mem hb
    exact Heap.lt_size ho
  have okB : (gcx X A s H cenv fp gp).Ok := by
    refine ⟨I.ok.mod, by show cenv.scope.kind = _; rw [hsc]; exact ok.kind, by show cenv.globals = _; rw [hce]; exact I.ok.glob, by show cenv.builtins = _; rw [hce]; rfl, by show s.heap.objs.size ≤ cenv.locals; rw [hL]; exact Nat.le_refl _,
      fun y z c e1 e2 => ?_, fun y hy => ?_, fun y c z e => ?_, fun _ => hd, ?_, .inr ⟨rfl, ?_⟩, fun b hb => ⟨?_, fun y c e z => ?_⟩, I.bs, Nat.le_trans I.ok.bsz I.sz, fun b o e hb => ?_, fun b hb z => ?_, I.stack, I.stkFree⟩
    · exact I.ok.inj y z c (mem e1).1 (mem e2).1
    · have key : ∀ k, scope.names.lookup y = some k → (k = .cell ∨ k = .free) → ∃ c, cenv.cells.lookup y = some c := fun k hk hk' => by
        rcases hk' with rfl | rfl
        · exact absurd rfl (hnc _ (PySem.mem_of_lookup hk))
        · obtain ⟨c, h1, _⟩ := look hk
          exact ⟨c, h1⟩
      have hy' : cenv.scope.names.lookup y = some .cell ∨ cenv.scope.names.lookup y = some .free := hy
      rw [hsc] at hy'
      rcases hy' with hy' | hy'
      · exact key _ hy' (.inl rfl)
      · exact key _ hy' (.inr rfl)
    · cases z
    · show (A.deeper cenv).frames = some (cenv :: X.stack)
      have e : (A.deeper cenv).frames = A.frames.map (cenv :: ·) := by first | rfl | (obtain ⟨a1, a2, a3, a4, a5⟩ := A; cases a3 <;> rfl)
      rw [e, hfr]; rfl
    · show cenv.frame = some cenv.locals
      rw [hce]; rfl
    · show b ≠ cenv.locals
      rw [hL]; exact Nat.ne_of_lt (hfp b hb).2
    · exact (hfp b hb).1.2.2.2.2.1 y c (mem e).1 z
    · rcases (hfp b hb).1.2.2.2.1 with z | z
      · exact I.ok.noex b o e z
      · exact absurd (Nat.lt_of_lt_of_le (Heap.lt_size e) (Nat.le_trans I.ok.bsz z)) (Nat.lt_irrefl _)
    · rcases List.mem_cons.mp (I.stkSub b z) with z | z
      · exact (hfp b hb).1.2.1 z
      · exact (hfp b hb).1.2.2.1 z
  refine ⟨okB, hos, hba, Un.kept kp, ⟨m, by show s2.heap.Ns cenv.locals m; rw [hL]; exact hns, fun i y av e1 e2 e3 => ?_⟩, fun y c e => ?_, ?_, fun y c e => ?_, fun p hp => ?_, I.hok.kept kp, by rw [wipe_length]; exact I.len⟩
  · obtain ⟨e2, hne⟩ := wipe_some e2
    have hfr : scope.names.lookup y = some .free := by
      have e3 : Vis cenv.scope y := e3
      rw [hsc] at e3
      have no : ∀ k, scope.names.lookup y = some k → ¬ (k = .local ∨ k = .cell) := fun k hk hh => by
        rcases ok.own _ (PySem.mem_of_lookup hk) hh with e' | e'
        · obtain ⟨p, hp, hpy⟩ := List.mem_map.mp e'
          have e3 := ok.ix p hp
          have : p.1 = y := hpy
          rw [this] at e3
          exact hne (List.mem_map.mpr ⟨p, hp, nodup_ix hN e3 e1⟩)
        · exact e' (List.mem_of_getElem? e1)
      rcases e3 with e3 | e3 | e3
      · exact absurd (.inl rfl) (no _ e3)
      · exact absurd (.inr rfl) (no _ e3)
      · exact e3
    obtain ⟨m', hn, hl⟩ := I.loc
    have hvis : Vis X.env.scope y := (ok.free _ (PySem.mem_of_lookup hfr) rfl).elim (fun k => .inr (.inl k)) (fun k => .inr (.inr k))
    obtain ⟨w, r, q⟩ := hl i y av e1 e2 hvis
    have hkf : cenv.kindOf y = some .free := by show cenv.scope.names.lookup y = _; rw [hsc]; exact hfr
    refine ⟨w, r, .inr ⟨.inr hkf, ?_⟩⟩
    obtain ⟨c, h1, h2⟩ := look hfr
    rcases q with ⟨k, _⟩ | ⟨_, c', e', z⟩
    · have k : X.env.scope.names.lookup y = some .local := k
      rcases ok.free _ (PySem.mem_of_lookup hfr) rfl with k' | k' <;> rw [show X.env.scope.names.lookup y = _ from k'] at k <;> cases k
    · rw [h2] at e'; cases e'
      exact ⟨c, h1, z.keeps kp⟩
  · obtain ⟨w, z⟩ := I.cell y c (mem e).1
    exact ⟨w, z.keeps kp⟩
  · show H cenv.locals = none
    rw [hL]; exact I.hok.fresh (Nat.le_refl _)
  · exact I.freeC y c (mem e).1
  · obtain ⟨h1, h2, h3⟩ := hpl p hp
    refine ⟨h1, I.hok.fresh (Nat.le_of_lt h2), by show p.1 ≠ cenv.locals; rw [hL]; exact Nat.ne_of_gt h2, fun z => ?_, h3⟩
    exact absurd (Nat.lt_trans h2 (stkLt _ z)) (Nat.lt_irrefl _)
end
end GE

set_option Elab.async false
set_option linter.all false
set_option maxRecDepth 100000
set_option maxHeartbeats 2000000
namespace GE
open PySem PySem.Spec PyProof.Rows L2 GenW
/-- the reading of a generator expression that is consumed at once: Yo at each item, En at the end; P: the def's table of code objects -/
def tGx (wi : TI) (g : TG) (tt : TT) (te : TE) (vs : List Nat) (P : Addr) (Yo : YO) (En : EN) : L2.St → Hp → Prop := fun σ H => wi σ H fun J H1 => GxR.TabG H1 P ∧ ∀ H2, GxR.Tabbed P H1 H2 →
  ∃ W : Nat → Nat → List V → Hp → Prop, (∃ m, W 0 m [] H2) ∧ turnX g tt te vs σ Yo En J W
/-- a generator that has not begun -/
def MadeX (X : Cx) (k : Nat) (H : Hp) (sc : Shared) (fp : List Addr) (Yo : YO) (En : EN) (u : Value) (s5 : Shared) : Prop :=
  ∃ (a : Addr) (g : Nat) (c : Code), u = .ref a ∧ sc.heap.objs.size < a ∧ a < s5.heap.objs.size ∧ s5.heap.IsGen a g ∧ s5.gens[g]? = some (.fresh c) ∧ (∃ go, s5.heap.get? a = some go ∧ (∀ h : Heap, h.get? a = some go → h.IsGen a g) ∧ ∀ v, go.data ≠ .cell v) ∧
    s5.os = sc.os ∧ AllBare s5.gens ∧ s5.heap.NoLimit ∧ (∀ b o, sc.heap.get? b = some o → s5.heap.get? b = some o) ∧
    ∀ (A : Around) (S : Addr) (C : CO) (gp : List (Addr × Obj)) (s2 : Shared), Room (k + 1) A → A.frames = some X.stack → (∀ ys o, C ys o → ∀ v, o.data ≠ .cell v) →
      (∀ (s' : Shared) (ys : List V) (o : Obj), s'.heap.get? S = some o → C ys o → (∀ p ∈ gp, s'.heap.get? p.1 = some p.2) → s'.heap.IsGen a g) →
      (∀ p ∈ gp, p.1 ≠ S ∧ sc.heap.objs.size < p.1 ∧ s2.heap.get? p.1 = some p.2 ∧ ∀ v, p.2.data ≠ .cell v) → sc.heap.objs.size < S → (∀ b o, s5.heap.get? b = some o → s2.heap.get? b = some o) →
      (∃ o, s2.heap.get? S = some o ∧ C [] o) → s2.os = sc.os → AllBare s2.gens →
      Seg (model X.prog X.w) A (REx X.prog X.w X.stack fp H sc S a g C En) (GYx X.prog X.w X.stack fp H sc S a g C Yo) sizeLine s2 c ((model X.prog X.w).den c) [] s2

section
variable {X : Cx} {pins : List (Addr × Obj)} {σ : L2.St} {H : Hp} {s : Shared}
theorem gen_make {c P : Addr} {elt iter tg : Expr} {ifs : List Expr} {gpos : Pos} {scope : Scope} {own : List (Str × Nat)} {wi : TI} {g : TG} {tt : TT} {te : TE} {k : Nat} {Yo : YO} {En : EN} {Q' : Value → Shared → Prop}
    (hr : Room (k + 2) X.A) (hN : X.N.Nodup) (TB : GxR.TabB X.base X.mg c P) (hcode : X.env.code = .ref c) (hi : PI X tg iter wi) (ok : BlkOk X.N X.env.scope scope own) (hnc : ∀ y ∈ scope.names, y.2 ≠ .cell) (hco : scope.isCoroutine = false)
    (h0 : scope.names.lookup (".0" : Str) = some NameKind.local)
    (hg : ∀ (A : Around) (s : Shared) (H : Hp) (C : Addr) (cl : List (Str × Addr)) (code : Value) (fp : List Addr) (gp : List (Addr × Obj)), PG (gcx X A s H (genEnv scope cl C code builtinsNs X.env) fp gp) tg g)
    (ht : ∀ (A : Around) (s : Shared) (H : Hp) (C : Addr) (cl : List (Str × Addr)) (code : Value) (fp : List Addr) (gp : List (Addr × Obj)), Room k (A.deeper (genEnv scope cl C code builtinsNs X.env)) → PTs (gcx X A s H (genEnv scope cl C code builtinsNs X.env) fp gp) ifs tt)
    (he : ∀ (A : Around) (s : Shared) (H : Hp) (C : Addr) (cl : List (Str × Addr)) (code : Value) (fp : List Addr) (gp : List (Addr × Obj)), Room k (A.deeper (genEnv scope cl C code builtinsNs X.env)) → PE (gcx X A s H (genEnv scope cl C code builtinsNs X.env) fp gp) elt te)
    (hY : ∀ ys y H K K', (K → K') → Yo ys y H K → Yo ys y H K')
    (hs : ∀ v, genFold iter X.env v = pure v) (I : Inv X pins σ H s) (h : tGx wi g tt te (own.map (·.2)) P Yo En σ H)
    (hQ : ∀ H2 sc fp u s5, Inv X pins σ H2 sc → ExOk X pins fp → MadeX X k H2 sc fp Yo En u s5 → Q' u s5) :
    wpAny (model X.prog X.w) X.A (eval (.GeneratorExp elt [⟨tg, iter, ifs, 0⟩] scope gpos) X.env) Q' X.xe s := by
  have hfree : ∀ y ∈ scope.names, y.2 = .free → ∃ c, X.env.cells.lookup y.1 = some c := fun y hy e => by
    rcases ok.free y hy e with k | k
    · exact I.ok.has _ (.inl k)
    · exact I.ok.has _ (.inr k)
  refine wpAny_GeneratorExp_make hco (closure_ok hfree) hnc h0 ok.kind (by have := hr.dp; omega) (thn (hi.run pins s σ H _ I h) fun xv s1 hx => thn hx fun itv s2 h2 => ?_) hs
  obtain ⟨it, fp, tn, J, H2, e, I2, T, st2, f2, ⟨ps, hP, htr⟩, q⟩ := h2
  subst e
  have hPs : s2.heap.get? P = some { cls := .none, data := .fields ps } := I2.hok P _ hP
  have cd : PySem.W.CodeHd s2.heap c P := TB.code.keeps fun b u e => I2.bk b u e
  refine ⟨I2.nolimit, ?_⟩
  have fpne : ∀ b ∈ fp, b ≠ P := fun b hb z => by
    have := (f2 b hb).1
    rw [z, hP] at this
    cases this
  have cont : ∀ (code : Value) (h3 : Heap) (tk : Nat) (ps' : Array Value), Heap.ExtBut P s2.heap h3 → h3.get? P = some { cls := .none, data := .fields ps' } → (∃ more, ps' = ps ++ more) → TriplesOk ps'.toList →
      wpAny (model X.prog X.w) X.A (builtinsFor X.env.globals X.env.builtins) (fun bi s₄ =>
        ∀ h', h'.Ns s₄.heap.objs.size (fun y => if y = ".0" then some (.ref it) else none) → Heap.SameBut s₄.heap.objs.size (s₄.heap.push { cls := .type "frame", data := .dict #[] }) h' →
          Q' (.ref h'.objs.size) { s₄ with
            gens := s₄.gens.push (.fresh (.compStart (.GeneratorExp elt [⟨tg, iter, ifs, 0⟩] scope gpos) 0 (.ref it) .none (genEnv scope (cloFrom X.env.cells scope.names []) s₄.heap.objs.size code bi X.env))),
            toks := s₄.toks + 1 + 1 + 1,
            heap := h'.push { cls := .type "generator", data := .fields #[.int s₄.gens.size 0, .str "<genexpr>" (s₄.toks + 1), .str (X.env.qual ++ "<genexpr>") (s₄.toks + 1 + 1)] } }) X.xe { s2 with heap := h3, toks := tk } := by
    intro code h3 tk ps' hx hP3 hmore ht3
    obtain ⟨more, em⟩ := hmore
    have I3 : Inv X pins σ (upd H2 P (.tbl (ps ++ more))) { s2 with heap := h3, gens := s2.gens, drawn := s2.drawn, toks := tk } :=
      GxR.inv_tab I2 hP (fun b u hb e => hx b u hb e) (by rw [← em]; exact hP3) I2.bare
    generalize hsc : ({ s2 with heap := h3, gens := s2.gens, drawn := s2.drawn, toks := tk } : Shared) = sc at I3
    have hh3 : sc.heap = h3 := by rw [← hsc]
    generalize hH3 : upd H2 P (.tbl (ps ++ more)) = H3 at I3
    have tab : GxR.Tabbed P H2 H3 := by rw [← hH3]; exact ⟨⟨ps ++ more, upd_same, by rw [← em]; exact ht3⟩, fun b hb => upd_ne hb⟩
    obtain ⟨bm, ob, e1, e2, e3, e4, e5, e6, e7, e8⟩ := TB.bm
    refine wpAny_builtinsFor (m := X.mg) (by rw [I3.ok.glob]; exact I3.mod.glob.keeps I3.bk) e1 e2 (I3.bk _ _ e5) e6 e7 e8 ?_
    intro h' hns hsb
    obtain ⟨W, ⟨m0, w0⟩, turn⟩ := q H3 tab
    have st3 : tn 0 sc.heap := T.keep _ _ _ st2 fun b hb o e => by rw [hh3]; exact hx b o (fpne b hb) e
    have f3 : ∀ b ∈ fp, FpOk X pins H3 b ∧ b < sc.heap.objs.size := fun b hb => by
      obtain ⟨o, e, _⟩ := T.obj _ _ st3 b hb
      exact ⟨⟨(tab.2 b (fpne b hb)).trans (f2 b hb).1, (f2 b hb).2⟩, Heap.lt_size e⟩
    have hsz : h'.objs.size = sc.heap.objs.size + 1 := by rw [hsb.1, Heap.size_push]
    have kp1 : ∀ b o, sc.heap.get? b = some o → h'.get? b = some o := fun b o e => hsb.extBut b o (Nat.ne_of_lt (Heap.lt_size e)) (Heap.get?_push_of_some _ e)
    have limc : sc.heap.NoLimit := I3.nolimit
    have main : ∀ (go : Obj) (nm qn : Value) (tk2 : Nat), go.cls = .type "generator" → go.data = .fields #[.int sc.gens.size 0, nm, qn] → go.slots = #[] → (∀ h : Heap, (h.push go).get? h.objs.size = some go) →
        Q' (.ref h'.objs.size) { sc with gens := sc.gens.push (.fresh (.compStart (.GeneratorExp elt [⟨tg, iter, ifs, 0⟩] scope gpos) 0 (.ref it) .none (genEnv scope (cloFrom X.env.cells scope.names []) sc.heap.objs.size code builtinsNs X.env))), toks := tk2, heap := h'.push go } := by
      intro go nm qn tk2 hgc hgd0 hgs hgp
      have hgen : ∀ h : Heap, h.get? h'.objs.size = some go → h.IsGen h'.objs.size sc.gens.size := fun h e => ⟨go, nm, qn, e, hgc, hgd0, hgs⟩
      have hgd : ∀ v, go.data ≠ .cell v := fun v q => by rw [hgd0] at q; cases q
      have kp5 : ∀ b o, sc.heap.get? b = some o → (h'.push go).get? b = some o := fun b o e => Heap.get?_push_of_some _ (kp1 b o e)
      refine hQ H3 sc fp _ _ I3 (fun b hb => ⟨(f3 b hb).1.2.2.2.1, (f3 b hb).1.2.1, (f3 b hb).1.2.2.2.2.1, (f3 b hb).1.2.2.2.2.2⟩) ⟨h'.objs.size, sc.gens.size, _, rfl, by omega, by show _ < (h'.push go).objs.size; rw [Heap.size_push]; exact Nat.lt_succ_self _, hgen _ (hgp _), Array.getElem?_push_size .., ⟨go, hgp _, hgen, hgd⟩, rfl, AllBare.push I3.bare rfl, limc.keeps kp5, kp5, ?_⟩
      intro A S C gp s9 hrA hfr hC hgn hgp9 hSy hk9 hS9 hos9 hba9
      obtain ⟨oS, eS, hCo⟩ := hS9
      have kp9 : ∀ b o, sc.heap.get? b = some o → s9.heap.get? b = some o := fun b o e => hk9 b o (kp5 b o e)
      have hns9 : s9.heap.Ns sc.heap.objs.size (fun y => if y = ".0" then some (.ref it) else none) := hns.keeps fun b o e => hk9 b o (Heap.get?_push_of_some _ e)
      have I9 := gen_start (A := A) (gp := gp) (pl := [(S, oS)]) (cenv := genEnv scope (cloFrom X.env.cells scope.names []) sc.heap.objs.size code builtinsNs X.env) (s2 := s9) I3 ok hN hnc f3 hrA.hd hfr rfl kp9 hns9 hos9 hba9 (fun p hp => by
        rcases List.mem_append.mp hp with hp | hp
        · exact ⟨(hgp9 p hp).2.2.1, (hgp9 p hp).2.1, (hgp9 p hp).2.2.2⟩
        · rw [List.mem_singleton.mp hp]
          exact ⟨eS, hSy, hC _ _ hCo⟩)
      have hSf : S ∉ fp := fun z => absurd (Nat.lt_trans hSy (f3 S z).2) (Nat.lt_irrefl _)
      have hAp : Apart (gcx X A sc H3 (genEnv scope (cloFrom X.env.cells scope.names []) sc.heap.objs.size code builtinsNs X.env) fp gp) S := by
        refine ⟨Nat.le_of_lt hSy, Nat.ne_of_gt hSy, fun y cc e z => ?_⟩
        obtain ⟨v, ob, ho, _⟩ := I9.cell y cc e
        have e' : (cloFrom X.env.cells scope.names []).lookup y = some cc := e
        rcases cloFrom_mem (PySem.mem_of_lookup e') with hm | ⟨h1, h2⟩
        · cases hm
        · obtain ⟨c2, hc2⟩ := hfree _ h1 rfl
          obtain ⟨w, z2⟩ := I3.cell _ _ hc2
          have h3 : cc = c2 := by rw [h2, hc2]; rfl
          have hl : c2 < sc.heap.objs.size := z2.lt
          rw [← h3, z] at hl
          exact absurd (Nat.lt_trans hSy hl) (Nat.lt_irrefl _)
      exact seg_start hC hY hgn (fun p hp => ⟨(hgp9 p hp).1, fun z => absurd (Nat.lt_trans (hgp9 p hp).2.1 (f3 _ z).2) (Nat.lt_irrefl _)⟩) hSf hAp hco T (hg A sc H3 _ _ _ fp gp) (ht A sc H3 _ _ _ fp gp (hrA.deeper _)) (he A sc H3 _ _ _ fp gp (hrA.deeper _)) turn w0
        ⟨oS, hCo, I9⟩ (T.keep _ _ _ st3 fun b hb o e => kp9 b o e) (fun b hb => (f3 b hb).1.1) fun _ e => e
    exact main _ _ _ _ rfl rfl rfl fun h => Heap.get?_push_size _ rfl
  cases hf : codeAmong gpos ps.toList with
  | none =>
    refine wpAny_genexprCodeX hcode (cd.code hPs htr) (cd.tab hPs) hf fun c' h' tk hx hge hlt hco' _ htab' _ => ?_
    obtain ⟨o1, vs, f1, tf, fl, tg, inF, tx, tt, op, _, _, _, _, _, _, _, _, _, htr', _⟩ := hco'
    exact cont _ h' tk _ hx htab'.2 ⟨_, rfl⟩ htr'
  | some cv =>
    refine wpAny_genexprCode_hit hcode (cd.code hPs htr) hf ?_
    exact cont cv s2.heap s2.toks ps (Heap.ExtBut.refl _ _) hPs ⟨#[], by simp⟩ htr
end
end GE

set_option Elab.async false
set_option linter.all false
set_option maxRecDepth 100000
set_option maxHeartbeats 2000000
namespace GE
open PySem PySem.Spec PyProof.Rows L2 GenW
structure Out (P : Program) (w : World) (outer : List Env) (ex : List Addr) (H : Hp) (s : Shared) (S : Addr) (C : CO) (ys : List V) (H' : Hp) (s' : Shared) : Prop where
  os : s'.os = s.os
  bare : AllBare s'.gens
  un : Un (frs outer) ex H H' s.heap s'.heap
  hok : HOk P w H' s'.heap
  free : H' S = none
  own : ∃ o, s'.heap.get? S = some o ∧ C ys o
section
variable {P : Program} {w : World} {outer : List Env} {ex : List Addr} {H : Hp} {sc : Shared} {S a : Addr} {g : Nat} {C : CO} {Yo : YO} {En : EN}
def RdyX (P : Program) (w : World) (outer : List Env) (ex : List Addr) (H : Hp) (sc : Shared) (S a : Addr) (g : Nat) (C : CO) (Yo : YO) (En : EN) (A1 : Around) (m : Nat) (s : Shared) : Prop :=
  s.heap.IsGen a g ∧ s.heap.NoLimit ∧ ∃ gs, s.gens[g]? = some gs ∧ gs.Goes (model P w) A1 (REx P w outer ex H sc S a g C En) (GYx P w outer ex H sc S a g C Yo) m (.send .none) (s.setGen g .running)
theorem next_x {A0 : Around} {s : Shared} {m : Nat} {Q : Option Value → Shared → Prop} {E : Value → Shared → Prop} (hY : ∀ ys y H K K', (K → K') → Yo ys y H K → Yo ys y H K') (hh : A0.handled = none) (hd : A0.depth < recursionLimit)
    (hr : RdyX P w outer ex H sc S a g C Yo En A0.in1 m s)
    (hend : ∀ ys H' s', Out P w outer ex H sc S C ys H' s' → (∀ ob, s.heap.get? S = some ob → s'.heap.get? S = some ob) → ys.length ≤ sizeLine → En ys H' → Q none s')
    (hyl : ∀ ys x H' v s', RelV x v → Out P w outer ex H sc S C ys H' s' → s'.heap.NoLimit → s'.heap.IsGen a g → (∀ ob, s.heap.get? S = some ob → s'.heap.get? S = some ob) → ys.length < sizeLine →
      Yo ys x H' (∀ s'', s''.os = s'.os → s''.gens = s'.gens → (∀ b o, b ≠ S → s'.heap.get? b = some o → s''.heap.get? b = some o) → (∃ o, s''.heap.get? S = some o ∧ C (ys ++ [x]) o) → s''.heap.IsGen a g → s''.heap.NoLimit →
        ∃ k, m = k + 1 ∧ RdyX P w outer ex H sc S a g C Yo En A0.in1 k s'') → Q (some v) s') :
    wpAny (model P w) A0 (pyNext (.ref a)) Q E s := by
  obtain ⟨hg, hl, gs, hgs, hgo⟩ := hr
  have hgl : g < s.gens.size := (Array.getElem?_eq_some_iff.mp hgs).1
  refine wpAny_gsz (n := g + 1) hgl (next_genG (F := Fi P w outer ex H sc S a g C En) (Er := fun _ _ => False) hh hl hd hg hgs hgo (fun v s₁ gs' hbare hv => ?_) (fun s₁ hp h' hk => ?_) fun e s₁ he => he.elim)
  · intro hsz
    have hsz1 : g < s₁.gens.size := by
      have q : (s₁.setGen g gs').gens.size = s₁.gens.size := setGen_size _ _ _
      have hsz' : g + 1 ≤ (s₁.setGen g gs').gens.size := hsz
      omega
    obtain ⟨ys, x, H', hn, rv, h0, M, hyo⟩ := hv
    refine hyl ys x H' v _ rv ⟨M.os, allBare_setGen M.bare hbare, M.un, M.hok, M.free, M.own⟩ M.lim M.gen h0 (by omega) (hY _ _ _ _ _ (fun hk s'' h1 h2 h3 h4 h5 h6 => ?_) hyo)
    have z := hk (s''.setGen g .running) ⟨h1, allBare_setGen (by rw [h2]; exact allBare_setGen M.bare hbare) rfl, h3, h4⟩
    cases m with
    | zero => exact False.elim z
    | succ k => exact ⟨k, rfl, h5, h6, gs', by rw [h2]; exact setGen_at hsz1, z⟩
  · intro _
    obtain ⟨ys, H', hn, h0, M, he⟩ := hp
    obtain ⟨o, eS, hCo⟩ := M.own
    exact hend ys H' _ ⟨M.os, allBare_setGen M.bare rfl, M.un.trans (Un.kept hk), M.hok.kept hk, M.free, o, hk _ _ eS, hCo⟩ (fun ob e => hk _ _ (h0 ob e)) (by omega) he

/-! ### all, any -/
def YAll (Qf : Hp → Prop) : YO := fun _ y H K => ∃ b, y = .bl b ∧ (b = true → K) ∧ (b = false → Qf H)
def YAny (Qt : Hp → Prop) : YO := fun _ y H K => ∃ b, y = .bl b ∧ (b = false → K) ∧ (b = true → Qt H)
theorem YAll.mono {Qf : Hp → Prop} : ∀ ys y H K K', (K → K') → YAll Qf ys y H K → YAll Qf ys y H K' := fun _ _ _ _ _ f ⟨b, e, h1, h2⟩ => ⟨b, e, fun z => f (h1 z), h2⟩
theorem YAny.mono {Qf : Hp → Prop} : ∀ ys y H K K', (K → K') → YAny Qf ys y H K → YAny Qf ys y H K' := fun _ _ _ _ _ f ⟨b, e, h1, h2⟩ => ⟨b, e, fun z => f (h1 z), h2⟩
theorem all_loop {A : Around} {R : Result → Shared → Prop} {go : Obj} {Qf : Hp → Prop} (hh : A.handled = none) (hd : A.depth < recursionLimit)
    (hT : ∀ ys H' s', Out P w outer ex H sc a (fun _ o => o = go) ys H' s' → En ys H' → R (.ok (.ret (.bool true))) s') (hF : ∀ ys H' s', Out P w outer ex H sc a (fun _ o => o = go) ys H' s' → Qf H' → R (.ok (.ret (.bool false))) s') :
    ∀ (m : Nat) (s : Shared), RdyX P w outer ex H sc a a g (fun _ o => o = go) (YAll Qf) En A.in1.in1 m s → codeAny (model P w) A (.builtin "all.loop" ⟨[.ref a], []⟩) R s := by
  intro m
  induction m using Nat.strongRecOn with
  | ind m ih =>
    intro s hr
    refine codeAny_builtin F.entry_all_loop ?_
    rw [Around.under_plainId F.plain_all_loop _]
    show wpAny _ A.in1 (pyNext (.ref a) >>= _) _ _ s
    refine wpAny_bind (next_x (A0 := A.in1) YAll.mono hh hd hr (fun ys H' s' O _ _ he => ?_) fun ys x H' v s' rv O hl hg _ hlt hy => ?_)
    · exact wpAny_bind (wpAny_rule (wpAny_pure (hT ys H' s' O he)))
    · obtain ⟨b, rfl, h1, h2⟩ := hy
      obtain rfl : v = Value.bool b := rv
      refine wpAny_bind (wpAny_holding (wpAny_truthy_bool ?_))
      refine wpAny_bind (wpAny_letGo ?_)
      cases b with
      | true =>
        simp only [if_true]
        obtain ⟨k, rfl, hr'⟩ := h1 rfl s' rfl rfl (fun _ _ _ e => e) O.own hg hl
        exact wpAny_pure ⟨plainId_quiet F.plain_all_loop _, ih k (Nat.lt_succ_self k) s' hr'⟩
      | false =>
        simp only [Bool.false_eq_true, if_false]
        exact wpAny_bind (wpAny_rule (wpAny_pure (hF ys H' s' O (h2 rfl))))
theorem any_loop {A : Around} {R : Result → Shared → Prop} {go : Obj} {Qt : Hp → Prop} (hh : A.handled = none) (hd : A.depth < recursionLimit)
    (hF : ∀ ys H' s', Out P w outer ex H sc a (fun _ o => o = go) ys H' s' → En ys H' → R (.ok (.ret (.bool false))) s') (hT : ∀ ys H' s', Out P w outer ex H sc a (fun _ o => o = go) ys H' s' → Qt H' → R (.ok (.ret (.bool true))) s') :
    ∀ (m : Nat) (s : Shared), RdyX P w outer ex H sc a a g (fun _ o => o = go) (YAny Qt) En A.in1.in1 m s → codeAny (model P w) A (.builtin "any.loop" ⟨[.ref a], []⟩) R s := by
  intro m
  induction m using Nat.strongRecOn with
  | ind m ih =>
    intro s hr
    refine codeAny_builtin F.entry_any_loop ?_
    rw [Around.under_plainId F.plain_any_loop _]
    show wpAny _ A.in1 (pyNext (.ref a) >>= _) _ _ s
    refine wpAny_bind (next_x (A0 := A.in1) YAny.mono hh hd hr (fun ys H' s' O _ _ he => ?_) fun ys x H' v s' rv O hl hg _ hlt hy => ?_)
    · exact wpAny_bind (wpAny_rule (wpAny_pure (hF ys H' s' O he)))
    · obtain ⟨b, rfl, h1, h2⟩ := hy
      obtain rfl : v = Value.bool b := rv
      refine wpAny_bind (wpAny_holding (wpAny_truthy_bool ?_))
      refine wpAny_bind (wpAny_letGo ?_)
      cases b with
      | false =>
        simp only [Bool.false_eq_true, if_false]
        obtain ⟨k, rfl, hr'⟩ := h1 rfl s' rfl rfl (fun _ _ _ e => e) O.own hg hl
        exact wpAny_pure ⟨plainId_quiet F.plain_any_loop _, ih k (Nat.lt_succ_self k) s' hr'⟩
      | true =>
        simp only [if_true]
        exact wpAny_bind (wpAny_rule (wpAny_pure (hT ys H' s' O (h2 rfl))))

/-! ### sum -/
def iv : V → Int
  | .int z => z
  | _ => 0
def isum (ys : List V) : Int := (ys.map iv).sum
theorem isum_snoc (ys : List V) (z : Int) : isum (ys ++ [.int z]) = isum ys + z := by
  unfold isum
  rw [List.map_append, List.sum_append]
  show _ + ([z] : List Int).sum = _
  rw [show ([z] : List Int).sum = z by simp]
def YSum : YO := fun ys y _ K => ∃ z, y = .int z ∧ (-(2 ^ 63) ≤ z ∧ z < 2 ^ 63) ∧ (-(2 ^ 63) ≤ isum ys + z ∧ isum ys + z < 2 ^ 63) ∧ K
theorem YSum.mono : ∀ ys y H K K', (K → K') → YSum ys y H K → YSum ys y H K' := fun _ _ _ _ _ f ⟨b, e, h1, h2, h3⟩ => ⟨b, e, h1, h2, f h3⟩
def CSum : CO := fun ys o => ∃ (t : Tok) (c : Nat), o = { cls := .type "list", dict := none, data := .seq #[.int (isum ys) t] c, slots := #[] }
theorem sum_loop {A : Around} {R : Result → Shared → Prop} (hh : A.handled = none) (hd : A.depth < recursionLimit) (hSa : S ≠ a) (hSc : S ≠ cStatics)
    (hT : ∀ ys H' s' t, Out P w outer ex H sc S CSum ys H' s' → En ys H' → R (.ok (.ret (.int (isum ys) t))) s') :
    ∀ (m : Nat) (s : Shared) (ys : List V), RdyX P w outer ex H sc S a g CSum YSum En A.in1.in1 m s → (∃ o, s.heap.get? S = some o ∧ CSum ys o) →
      codeAny (model P w) A (.builtin "sum.loop" ⟨[.ref a, .ref S, rawInt 0, rawInt 0], []⟩) R s := by
  have same : ∀ {zs ws : List V} {o : Obj}, CSum zs o → CSum ws o → isum zs = isum ws := fun {zs ws o} h1 h2 => by
    obtain ⟨t, c, e1⟩ := h1
    obtain ⟨t', c', e2⟩ := h2
    rw [e1] at e2
    have e3 := congrArg Obj.data e2
    injection e3 with e4 _
    have e5 := congrArg (fun v : Array Value => v[0]?) e4
    simp at e5
    exact e5.1
  intro m
  induction m using Nat.strongRecOn with
  | ind m ih =>
    intro s ys hr hS
    obtain ⟨o, eS, hCo⟩ := hS
    obtain ⟨t, c, eo⟩ := _root_.id hCo
    refine codeAny_builtin F.entry_sum_loop ?_
    rw [Around.under_plainId F.plain_sum_loop _]
    show wpAny _ A.in1 (seqItems? (.ref S) >>= _) _ _ s
    refine wpAny_bind (wpAny_seqItems eS (by rw [eo]) ?_)
    show wpAny _ A.in1 (tryCatch (pyNext (.ref a)) _ >>= _) _ _ s
    refine wpAny_bind (wpAny_tryCatch (next_x (A0 := A.in1) YSum.mono hh hd hr (fun zs H' s' O h0 _ he => ?_) fun zs x H' v s' rv O hl hg h0 hlt hy => ?_))
    · obtain ⟨o', eS', hCo'⟩ := O.own
      have eoo := h0 o eS
      rw [eS'] at eoo
      have : o' = o := Option.some.inj eoo
      rw [this] at hCo'
      have hsum := same hCo hCo'
      have := hT zs H' s' t O he
      rw [← hsum] at this
      exact wpAny_pure this
    · obtain ⟨o', eS', hCo'⟩ := O.own
      have eoo := h0 o eS
      rw [eS'] at eoo
      have e9 : o' = o := Option.some.inj eoo
      rw [e9] at hCo' eS'
      have hsum := same hCo hCo'
      obtain ⟨z, rfl, ⟨f1, f2⟩, ⟨f3, f4⟩, hk⟩ := hy
      obtain ⟨tz, rfl⟩ := (show ∃ t, v = Value.int z t from rv)
      rw [← hsum] at f3 f4
      have hc : ((decide (-(2 ^ 63) ≤ z) && decide (z < 2 ^ 63)) && (decide (-(2 ^ 63) ≤ isum ys + z) && decide (isum ys + z < 2 ^ 63))) = true := by
        simp only [Bool.and_eq_true, decide_eq_true_eq]
        exact ⟨⟨f1, f2⟩, f3, f4⟩
      show wpAny _ A.in1 (if (_ : Bool) = true then (mkInt (isum ys + z) >>= _) else _) _ _ _
      split
      · refine wpAny_bind (wpAny_mkInt ?_)
        show wpAny _ A.in1 (updateSeq S (fun _ => #[.int (isum ys + z) s'.toks]) >>= _) _ _ _
        refine wpAny_bind ?_
        have eS2 : s'.heap.get? S = some { cls := .type "list", dict := none, data := .seq #[.int (isum ys) t] c, slots := #[] } := by rw [eS', eo]
        have keep3 : ∀ b ob, b ≠ S → s'.heap.get? b = some ob → (s'.heap.update S (Obj.mapSeq (fun _ => #[.int (isum ys + z) s'.toks]))).get? b = some ob := fun b ob hb e => (Heap.get?_update_other _ _ (Ne.symm hb)).trans e
        refine wpAny_updateSeq eS2 rfl (wpAny_pure ⟨plainId_quiet F.plain_sum_loop _, ?_⟩)
        have own2 : ∃ o, (s'.heap.update S (Obj.mapSeq (fun _ => #[.int (isum ys + z) s'.toks]))).get? S = some o ∧ CSum (zs ++ [.int z]) o := ⟨_, Heap.get?_update_self _ eS2 rfl, s'.toks, _, by rw [isum_snoc, ← hsum]; rfl⟩
        obtain ⟨k, rfl, hr'⟩ := hk { s' with heap := s'.heap.update S (Obj.mapSeq (fun _ => #[.int (isum ys + z) s'.toks])), toks := s'.toks + 1 } rfl rfl keep3 own2 (by obtain ⟨og, nm, qn, ho, r⟩ := hg; exact ⟨og, nm, qn, keep3 a og (Ne.symm hSa) ho, r⟩)
          (by obtain ⟨mc, hns, hnn⟩ := hl; exact ⟨mc, hns.at' fun o e => keep3 _ o (Ne.symm hSc) e, hnn⟩)
        exact ih k (Nat.lt_succ_self k) _ (zs ++ [.int z]) hr' own2
      · rename_i hneg
        exact absurd hc hneg
end
end GE

set_option Elab.async false
set_option linter.all false
set_option maxRecDepth 100000
set_option maxHeartbeats 2000000
namespace GE
open PySem PySem.Spec PyProof.Rows L2 GenW
open Sem (wp)
open AutoSeq1 (wpAny_loadPart')
/-! ### a list filled -/
def CLst : CO := fun ys o => ∃ (acc : Array Value) (c : Nat), Vals ys acc.toList ∧ o = lstObj acc c
def YItm : YO := fun _ _ _ K => K
theorem YItm.mono : ∀ ys y H K K', (K → K') → YItm ys y H K → YItm ys y H K' := fun _ _ _ _ _ f h => f h
section
variable {P : Program} {w : World} {outer : List Env} {ex : List Addr} {H : Hp} {sc : Shared} {S a : Addr} {g : Nat} {En : EN}
theorem lst_loop {A : Around} {R : Result → Shared → Prop} {res : Value} (hh : A.handled = none) (hd : A.depth < recursionLimit) (hSa : S ≠ a) (hSc : S ≠ cStatics)
    (hT : ∀ ys H' s', Out P w outer ex H sc S CLst ys H' s' → ys.length ≤ sizeLine → En ys H' → R (.ok (.ret res)) s') :
    ∀ (m : Nat) (s : Shared), RdyX P w outer ex H sc S a g CLst YItm En A.in1.in1 m s → codeAny (model P w) A (.builtin "list.extend.loop" ⟨[.ref S, .ref a, res], []⟩) R s := by
  intro m
  induction m using Nat.strongRecOn with
  | ind m ih =>
    intro s hr
    refine codeAny_builtin F.entry_extend_loop ?_
    rw [Around.under_plainId F.plain_extend_loop _]
    show wpAny _ A.in1 (pyNext (.ref a) >>= _) _ _ s
    refine wpAny_bind (next_x (A0 := A.in1) YItm.mono hh hd hr (fun zs H' s' O h0 hle he => ?_) fun zs x H' v s' rv O hl hg h0 hlt hk => ?_)
    · exact wpAny_pure (hT zs H' s' O hle he)
    · obtain ⟨o', eS', acc, c, r, eo⟩ := O.own
      rw [eo] at eS'
      have hsz : acc.size = zs.length := by
        have e1 := r.length
        have e2 : acc.toList.length = acc.size := by simp
        omega
      show wpAny _ A.in1 (updateSeq S (·.push v) >>= _) _ _ _
      refine wpAny_bind ?_
      have keep3 : ∀ b ob, b ≠ S → s'.heap.get? b = some ob → (s'.heap.update S (Obj.mapSeq (·.push v))).get? b = some ob := fun b ob hb e => (Heap.get?_update_other _ _ (Ne.symm hb)).trans e
      refine wpAny_updateSeq eS' rfl (wpAny_pure ⟨plainId_quiet F.plain_extend_loop _, ?_⟩) (by omega) (by show (acc.push v).size ≤ sizeLine + 1; rw [Array.size_push]; omega)
      obtain ⟨k, rfl, hr'⟩ := hk { s' with heap := s'.heap.update S (Obj.mapSeq (·.push v)) } rfl rfl keep3 ⟨_, Heap.get?_update_self _ eS' rfl, acc.push v, _, by rw [Array.toList_push]; exact r.append (.cons rv .nil), rfl⟩
        (by obtain ⟨og, nm, qn, ho, r⟩ := hg; exact ⟨og, nm, qn, keep3 a og (Ne.symm hSa) ho, r⟩) (by obtain ⟨mc, hns, hnn⟩ := hl; exact ⟨mc, hns.at' fun o e => keep3 _ o (Ne.symm hSc) e, hnn⟩)
      exact ih k (Nat.lt_succ_self k) _ hr'
end
/-- a generator that has not begun, collected -/
theorem collect_x {X : Cx} {k : Nat} {H : Hp} {sc s : Shared} {fp : List Addr} {En : EN} {u : Value} {A : Around} {Q : List Value → Shared → Prop} {E : Value → Shared → Prop} (hr : Room (k + 1) A.in1.in1) (hfr : A.in1.in1.frames = some X.stack) (hM : MadeX X k H sc fp YItm En u s)
    (hQ : ∀ ys H' s' acc, Out X.prog X.w X.stack fp H sc s.heap.objs.size CLst ys H' s' → Vals ys acc → ys.length ≤ sizeLine → En ys H' → Q acc s') : wpAny (model X.prog X.w) A (collect u) Q E s := by
  obtain ⟨a, g, c, rfl, ha1, ha2, hg, hgs, ⟨go, hgo, hgen, hgd⟩, hos, hb, hl, hkp, wake⟩ := hM
  have hcl : cStatics < s.heap.objs.size := let ⟨_, hn, _⟩ := hl; hn.lt
  have hSc : s.heap.objs.size ≠ cStatics := Nat.ne_of_gt hcl
  have hSI : s.heap.objs.size ≠ a := Nat.ne_of_gt ha2
  unfold collect
  refine wpAny_bind (wpAny_runValue (codeAny_builtin F.entry_proto_collect ?_))
  rw [Around.under_plainId F.plain_proto_collect _]
  show wpAny _ A.in1 (newList [] >>= fun l => again (.builtin "list.__iadd__" ⟨[l, .ref a], []⟩)) _ _ s
  refine wpAny_bind (wpAny_newObj_type ?_)
  refine wpAny_pure ⟨plainId_quiet F.plain_list_iadd _, codeAny_builtin F.entry_list_iadd ?_⟩
  rw [Around.under_plainId F.plain_list_iadd _]
  have k1 : ∀ b o, s.heap.get? b = some o → (s.heap.push { cls := .type "list", data := .seq ([] : List Value).toArray }).get? b = some o := fun b o e => Heap.get?_push_of_some _ e
  have gty : ∀ {h : Heap}, (∀ b o, s.heap.get? b = some o → h.get? b = some o) → h.IsGen a g := fun {h} q => hg.keeps q
  show wpAny _ A.in1 (Builtin.List.listExtendWith (.ref s.heap.objs.size) (.ref a) (.ref s.heap.objs.size)) _ _ _
  unfold Builtin.List.listExtendWith
  refine wpAny_bind (wpAny_typeOf (Heap.IsGen.typeIs (s := { s with heap := _ }) (gty k1)) ?_)
  have h1 : Builtin.List.listSameRef (.ref s.heap.objs.size) (.ref a) = false := by simp [Builtin.List.listSameRef, hSI]
  have h2 : (Value.type "generator" == Value.type "list") = false := by decide
  have h3 : (Value.type "generator" == Value.type "tuple") = false := by decide
  simp only [h1, h2, h3, Bool.or_false, Bool.false_eq_true, if_false]
  refine wpAny_bind (wpAny_pyIter_gen (s := { s with heap := _ }) (gty k1) ?_)
  refine wpAny_bind (wpAny_holding ?_)
  unfold Builtin.List.listLengthHint
  refine wpAny_bind (wpAny_specialOf (Heap.IsGen.typeIs (s := { s with heap := _ }) (gty k1)) F.gen_no_len ?_)
  show wpAny _ A.in1 (specialOf (Value.ref a) (Str.ofString "__length_hint__") >>= _) _ _ _
  refine wpAny_bind (wpAny_specialOf (Heap.IsGen.typeIs (s := { s with heap := _ }) (gty k1)) F.gen_no_hint ?_)
  refine wpAny_pure ?_
  show wpAny _ A.in1 (rule "list.extend.makes-room" >>= fun _ => Builtin.List.listTouch (.ref s.heap.objs.size) >>= fun _ =>
    again (.builtin "list.extend.loop" ⟨[.ref s.heap.objs.size, .ref a, .ref s.heap.objs.size], []⟩)) _ _ _
  refine wpAny_bind (wpAny_rule ?_)
  have hS₁ : (s.heap.push { cls := .type "list", data := .seq ([] : List Value).toArray }).get? s.heap.objs.size = some { cls := .type "list", data := .seq ([] : List Value).toArray } := Heap.get?_push_size _ rfl
  refine wpAny_bind ?_
  show wpAny _ A.in1 (updateSeq s.heap.objs.size (·.push .none) >>= fun _ => updateSeq s.heap.objs.size (·.pop)) _ _ _
  refine wpAny_bind (wpAny_updateSeq hS₁ rfl ?_)
  have hS₂ := Heap.get?_update_self (Obj.mapSeq (·.push Value.none)) hS₁ rfl
  refine wpAny_updateSeq hS₂ rfl ?_
  have hS₃ := Heap.get?_update_self (Obj.mapSeq (·.pop)) hS₂ rfl
  have k3 : ∀ b o, s.heap.get? b = some o →
      (((s.heap.push { cls := .type "list", data := .seq ([] : List Value).toArray }).update s.heap.objs.size (Obj.mapSeq (·.push Value.none))).update s.heap.objs.size (Obj.mapSeq (·.pop))).get? b = some o :=
    fun b o e => (Heap.get?_update_other _ _ (Ne.symm (Nat.ne_of_lt (Heap.lt_size e)))).trans ((Heap.get?_update_other _ _ (Ne.symm (Nat.ne_of_lt (Heap.lt_size e)))).trans (k1 b o e))
  refine wpAny_pure ⟨plainId_quiet F.plain_extend_loop _, lst_loop (A := A) (P := X.prog) (w := X.w) (outer := X.stack) (ex := fp) (H := H) (sc := sc) (En := En) (g := g) (show A.handled = none from hr.hd) (by have := hr.dp; show A.depth < _; have : A.in1.in1.depth = A.depth := rfl; omega) hSI hSc (fun ys H' s' O hle he => ?_) sizeLine _ ⟨gty k3, hl.keeps k3, _, hgs, rfl, ?_⟩⟩
  · obtain ⟨o, eS, acc, c', r, eo⟩ := _root_.id O.own
    rw [eo] at eS
    show wpAny _ A (load s.heap.objs.size >>= _) _ _ s'
    refine wpAny_bind (wpAny_load eS ?_)
    exact wpAny_pure (hQ ys H' s' acc.toList O r hle he)
  · refine wake A.in1.in1 s.heap.objs.size CLst [(a, go)] _ hr hfr (fun ys o hc v => ?_) (fun s' ys o e1 e2 e3 => hgen _ (e3 (a, go) (List.mem_singleton.mpr rfl))) (fun p hp => ?_) (Nat.lt_trans ha1 ha2) (fun b o e => k3 b o e) ⟨_, hS₃, #[], _, .nil, rfl⟩ hos (allBare_setGen (s := { s with heap := _ }) hb rfl)
    · obtain ⟨acc, cc, _, eo⟩ := hc
      rw [eo]
      exact fun z => by cases z
    · rw [List.mem_singleton.mp hp]
      exact ⟨Ne.symm hSI, ha1, k3 _ _ hgo, hgd⟩
theorem tuple_new_x {X : Cx} {k : Nat} {H : Hp} {sc s : Shared} {fp : List Addr} {En : EN} {u : Value} {A : Around} {Q₁ : Value → Shared → Prop} {E : Value → Shared → Prop} (hr : Room (k + 1) A.in1.in1.in1) (hfr : A.in1.in1.in1.frames = some X.stack) (hM : MadeX X k H sc fp YItm En u s)
    (hQ : ∀ ys H' s' acc, Out X.prog X.w X.stack fp H sc s.heap.objs.size CLst ys H' s' → Vals ys acc → ys.length ≤ sizeLine → En ys H' → Q₁ (.ref s'.heap.objs.size) { s' with heap := s'.heap.push { cls := .type "tuple", data := .seq acc.toArray } }) :
    codeAny (model X.prog X.w) A (.call (.builtin "tuple.__new__") ⟨[.type "tuple", u], []⟩) (wants Q₁ E) s := by
  have hM' := hM
  obtain ⟨a, g, c, rfl, ha1, ha2, hg, hgs, ⟨go, hgo, hgen, hgd⟩, hos, hb, hl, hkp, wake⟩ := hM'
  refine codeAny_of_tree ?_
  show wpAny _ A.in1 (do checkBuiltinCall "tuple.__new__" ⟨[.type "tuple", .ref a], []⟩; again (.builtin "tuple.__new__" ⟨[.type "tuple", .ref a], []⟩)) _ _ s
  refine wpAny_bind (wpAny_of_eq (F.newCall_tuple_1 _) (wpAny_pure ⟨plainId_quiet F.plain_tuple_new _, codeAny_builtin F.entry_tuple_new ?_⟩))
  rw [Around.under_plainId F.plain_tuple_new _]
  have hsub := sub_tuple_self
  have hinit := init_tuple_lookup
  have hmh := madeHere_tuple
  have hTI : s.TypeIs (.ref a) "generator" := hg.typeIs
  wp_walk using wpAny_typeOf hTI, collect_x hr hfr hM
  intro ys H' s' acc O r hle he
  show wpAny _ _ (Builtin.Tuple.tupleExact acc.toArray >>= fun v => ret v) _ _ _
  unfold Builtin.Tuple.tupleExact
  have hsz : acc.toArray.size ≤ sizeLine := by
    have e1 := r.length
    rw [List.size_toArray]; omega
  refine wpAny_bind (wpAny_newObj_type ?_ hsz)
  exact wpAny_pure (hQ ys H' s' acc O r hle he)
theorem call_tuple_x {X : Cx} {k : Nat} {H : Hp} {sc s : Shared} {fp : List Addr} {En : EN} {u : Value} {A : Around} {Q : Value → Shared → Prop} {E : Value → Shared → Prop} (hr : Room (k + 1) A.in1.in1.in1.in1) (hfr : A.in1.in1.in1.in1.frames = some X.stack) (hM : MadeX X k H sc fp YItm En u s)
    (hQ : ∀ ys H' s' acc, Out X.prog X.w X.stack fp H sc s.heap.objs.size CLst ys H' s' → Vals ys acc → ys.length ≤ sizeLine → En ys H' → Q (.ref s'.heap.objs.size) { s' with heap := s'.heap.push { cls := .type "tuple", data := .seq acc.toArray } }) :
    wpAny (model X.prog X.w) A (call (.type "tuple") [u]) Q E s := by
  obtain ⟨a, _, _, rfl, _⟩ := _root_.id hM
  refine callType_codes (Q₁ := fun obj s₁ => s₁.TypeIs obj "tuple" ∧ Q obj s₁) F.called_tuple (F.typeCall_tuple_1 _) F.entry_object_init
    (tuple_new_x hr hfr hM fun ys H' s' acc O r hle he => ⟨⟨_, Heap.get?_push_size _ rfl, rfl⟩, hQ ys H' s' acc O r hle he⟩) fun obj s₁ h₁ => ?_
  exact ⟨h₁.1, F.args_object_init_2 obj _, object_init_meets F.called_tuple.init.lookup F.called_tuple.made (by decide) _ _ A.in1 _ s₁ ⟨h₁.1, rfl, h₁.2⟩⟩
end GE

set_option Elab.async false
set_option linter.all false
set_option maxRecDepth 100000
set_option maxHeartbeats 2000000
namespace GE
open PySem PySem.Spec PyProof.Rows L2 GenW
section
variable {X : Cx}
theorem back {pins : List (Addr × Obj)} {σ : L2.St} {H2 H' : Hp} {sc s' : Shared} {fp : List Addr} {S : Addr} {C : CO} {ys : List V} (I : Inv X pins σ H2 sc) (hex : ExOk X pins fp) (O : Out X.prog X.w X.stack fp H2 sc S C ys H' s') : Inv X pins σ H' s' :=
  I.call' (ch := fp) O.os O.un O.hok O.bare hex
variable {c P : Addr} {elt iter tg : Expr} {ifs : List Expr} {gpos p pos : Pos} {scope : Scope} {own : List (Str × Nat)} {wi : TI} {g : TG} {tt : TT} {te : TE} {k : Nat}
def tAllG (wi : TI) (g : TG) (tt : TT) (te : TE) (vs : List Nat) (P : Addr) : TE := fun σ H Q => tGx wi g tt te vs P (YAll fun H' => Q (.bl false) H') (fun _ H' => Q (.bl true) H') σ H
def tAnyG (wi : TI) (g : TG) (tt : TT) (te : TE) (vs : List Nat) (P : Addr) : TE := fun σ H Q => tGx wi g tt te vs P (YAny fun H' => Q (.bl true) H') (fun _ H' => Q (.bl false) H') σ H
def tSumG (wi : TI) (g : TG) (tt : TT) (te : TE) (vs : List Nat) (P : Addr) : TE := fun σ H Q => tGx wi g tt te vs P YSum (fun ys H' => Q (.int (isum ys)) H') σ H
def tTupG (wi : TI) (g : TG) (tt : TT) (te : TE) (vs : List Nat) (P : Addr) : TE := fun σ H Q => tGx wi g tt te vs P YItm (fun ys H' => ∀ q, H' q = none → Q (.ref q) (upd H' q (.tup ys))) σ H
/-- what a genexpr's block asks -/
structure GBlk (X : Cx) (scope : Scope) (own : List (Str × Nat)) : Prop where
  ok : BlkOk X.N X.env.scope scope own
  nc : ∀ y ∈ scope.names, y.2 ≠ .cell
  co : scope.isCoroutine = false
  dot : scope.names.lookup (".0" : Str) = some NameKind.local
def gblkC (N : List Str) (sc scope : Scope) (own : List (Str × Nat)) : Bool := blkC N sc scope own && (scope.names.all fun y => match y.2 with | .cell => false | _ => true) && (!scope.isCoroutine) && (match scope.names.lookup (".0" : Str) with | some .local => true | _ => false)
theorem gblk_by {N : List Str} {sc : Scope} (h : gblkC N sc scope own = true) (hN : X.N = N := by rfl) (hsc : X.env.scope = sc := by rfl) : GBlk X scope own := by
  unfold gblkC at h
  simp only [Bool.and_eq_true, List.all_eq_true] at h
  obtain ⟨⟨⟨h1, h2⟩, h3⟩, h4⟩ := h
  refine ⟨by rw [hN, hsc]; exact blkOk_by h1, fun y hy e => ?_, by simpa using h3, ?_⟩
  · have := h2 y hy
    rw [e] at this
    cases this
  · split at h4
    · assumption
    · cases h4
theorem pe_allG (hr : Room (k + 2) X.A) (hgl : Gl X "all") (hm : X.mg "all" = none) (hN : X.N.Nodup) (TB : GxR.TabB X.base X.mg c P) (hcode : X.env.code = .ref c) (hi : PI X tg iter wi) (B : GBlk X scope own)
    (hg : ∀ (A : Around) (s : Shared) (H : Hp) (C : Addr) (cl : List (Str × Addr)) (code : Value) (fp : List Addr) (gp : List (Addr × Obj)), PG (gcx X A s H (genEnv scope cl C code builtinsNs X.env) fp gp) tg g)
    (ht : ∀ (A : Around) (s : Shared) (H : Hp) (C : Addr) (cl : List (Str × Addr)) (code : Value) (fp : List Addr) (gp : List (Addr × Obj)), Room k (A.deeper (genEnv scope cl C code builtinsNs X.env)) → PTs (gcx X A s H (genEnv scope cl C code builtinsNs X.env) fp gp) ifs tt)
    (hel : ∀ (A : Around) (s : Shared) (H : Hp) (C : Addr) (cl : List (Str × Addr)) (code : Value) (fp : List Addr) (gp : List (Addr × Obj)), Room k (A.deeper (genEnv scope cl C code builtinsNs X.env)) → PE (gcx X A s H (genEnv scope cl C code builtinsNs X.env) fp gp) elt te)
    (hs : ∀ v, genFold iter X.env v = pure v := by intro _; rfl) (hb : bootBuiltins "all" = some (.builtin "all") := by decide +kernel)
    (he : starEach [.GeneratorExp elt [⟨tg, iter, ifs, 0⟩] scope gpos] X.env = (false, eval (.GeneratorExp elt [⟨tg, iter, ifs, 0⟩] scope gpos) X.env) :: starEach [] X.env := by rfl) :
    PE X (.Call (.Name "all" p) [.GeneratorExp elt [⟨tg, iter, ifs, 0⟩] scope gpos] [] pos) (tAllG wi g tt te (own.map (·.2)) P) := by
  refine ⟨fun pins s σ H Q I h => ?_⟩
  refine wpAny_Call_Name_kw (ld_blt I hgl hm hb ?_)
  refine PyProof.Rows.callWith_builtin1 ?_ he (by rfl)
  rw [he]
  show wpAny _ _ (spliced ((false, eval (.GeneratorExp elt [⟨tg, iter, ifs, 0⟩] scope gpos) X.env) :: backTo pos (starEach [] X.env))) _ _ s
  refine Calls.spliced_cons (gen_make hr hN TB hcode hi B.ok B.nc B.co B.dot hg ht hel YAll.mono hs I h fun H2 sc fp u s5 I2 hex hM => ?_)
  refine Calls.spliced_nil ?_
  obtain ⟨a, g, cc, rfl, ha1, ha2, hgn, hgs, ⟨go, hgo, hgen, hgd⟩, hos, hba, hl, hkp, wake⟩ := hM
  refine call_function_tree F.kind_all F.plain_all F.entry_all (F.args_all1 _) ?_
  unfold Builtin.«all»
  refine wpAny_bind (m := oneArg "all" _) (wpAny_pure ?_)
  refine wpAny_bind (wpAny_pyIter_gen hgn ?_)
  refine wpAny_pure ⟨plainId_quiet F.plain_all_loop _, all_loop (A := X.A) (P := X.prog) (w := X.w) (outer := X.stack) (ex := fp) (H := H2) (sc := sc) (g := g) (go := go) hr.hd (by have := hr.dp; omega)
    (fun ys H' s' O he => ⟨.bl true, H', back I2 hex O, rfl, he⟩) (fun ys H' s' O he => ⟨.bl false, H', back I2 hex O, rfl, he⟩) sizeLine s5 ⟨hgn, hl, _, hgs, rfl, ?_⟩⟩
  refine wake X.A.in1.in1 a (fun _ o => o = go) [] _ ⟨hr.hd, ?_, ?_⟩ I.ok.frames (fun _ o e v => by rw [e]; exact hgd v) (fun s' ys o e1 e2 _ => hgen _ (by rw [e1, e2])) (fun p hp => by simp at hp) ha1 (fun b o e => e) ⟨go, hgo, rfl⟩ hos (allBare_setGen hba rfl)
  · have := hr.dp
    show X.A.depth + 3 * (k + 1) + 5 < _
    omega
  · have := hr.un
    show X.A.units + 1 + 1 + 16 * (k + 1) + 200 < _
    omega
theorem pe_anyG (hr : Room (k + 2) X.A) (hgl : Gl X "any") (hm : X.mg "any" = none) (hN : X.N.Nodup) (TB : GxR.TabB X.base X.mg c P) (hcode : X.env.code = .ref c) (hi : PI X tg iter wi) (B : GBlk X scope own)
    (hg : ∀ (A : Around) (s : Shared) (H : Hp) (C : Addr) (cl : List (Str × Addr)) (code : Value) (fp : List Addr) (gp : List (Addr × Obj)), PG (gcx X A s H (genEnv scope cl C code builtinsNs X.env) fp gp) tg g)
    (ht : ∀ (A : Around) (s : Shared) (H : Hp) (C : Addr) (cl : List (Str × Addr)) (code : Value) (fp : List Addr) (gp : List (Addr × Obj)), Room k (A.deeper (genEnv scope cl C code builtinsNs X.env)) → PTs (gcx X A s H (genEnv scope cl C code builtinsNs X.env) fp gp) ifs tt)
    (hel : ∀ (A : Around) (s : Shared) (H : Hp) (C : Addr) (cl : List (Str × Addr)) (code : Value) (fp : List Addr) (gp : List (Addr × Obj)), Room k (A.deeper (genEnv scope cl C code builtinsNs X.env)) → PE (gcx X A s H (genEnv scope cl C code builtinsNs X.env) fp gp) elt te)
    (hs : ∀ v, genFold iter X.env v = pure v := by intro _; rfl) (hb : bootBuiltins "any" = some (.builtin "any") := by decide +kernel)
    (he : starEach [.GeneratorExp elt [⟨tg, iter, ifs, 0⟩] scope gpos] X.env = (false, eval (.GeneratorExp elt [⟨tg, iter, ifs, 0⟩] scope gpos) X.env) :: starEach [] X.env := by rfl) :
    PE X (.Call (.Name "any" p) [.GeneratorExp elt [⟨tg, iter, ifs, 0⟩] scope gpos] [] pos) (tAnyG wi g tt te (own.map (·.2)) P) := by
  refine ⟨fun pins s σ H Q I h => ?_⟩
  refine wpAny_Call_Name_kw (ld_blt I hgl hm hb ?_)
  refine PyProof.Rows.callWith_builtin1 ?_ he (by rfl)
  rw [he]
  show wpAny _ _ (spliced ((false, eval (.GeneratorExp elt [⟨tg, iter, ifs, 0⟩] scope gpos) X.env) :: backTo pos (starEach [] X.env))) _ _ s
  refine Calls.spliced_cons (gen_make hr hN TB hcode hi B.ok B.nc B.co B.dot hg ht hel YAny.mono hs I h fun H2 sc fp u s5 I2 hex hM => ?_)
  refine Calls.spliced_nil ?_
  obtain ⟨a, g, cc, rfl, ha1, ha2, hgn, hgs, ⟨go, hgo, hgen, hgd⟩, hos, hba, hl, hkp, wake⟩ := hM
  refine call_function_tree F.kind_any F.plain_any F.entry_any (F.args_any1 _) ?_
  unfold Builtin.«any»
  refine wpAny_bind (m := oneArg "any" _) (wpAny_pure ?_)
  refine wpAny_bind (wpAny_pyIter_gen hgn ?_)
  refine wpAny_pure ⟨plainId_quiet F.plain_any_loop _, any_loop (A := X.A) (P := X.prog) (w := X.w) (outer := X.stack) (ex := fp) (H := H2) (sc := sc) (g := g) (go := go) hr.hd (by have := hr.dp; omega)
    (fun ys H' s' O he => ⟨.bl false, H', back I2 hex O, rfl, he⟩) (fun ys H' s' O he => ⟨.bl true, H', back I2 hex O, rfl, he⟩) sizeLine s5 ⟨hgn, hl, _, hgs, rfl, ?_⟩⟩
  refine wake X.A.in1.in1 a (fun _ o => o = go) [] _ ⟨hr.hd, ?_, ?_⟩ I.ok.frames (fun _ o e v => by rw [e]; exact hgd v) (fun s' ys o e1 e2 _ => hgen _ (by rw [e1, e2])) (fun p hp => by simp at hp) ha1 (fun b o e => e) ⟨go, hgo, rfl⟩ hos (allBare_setGen hba rfl)
  · have := hr.dp
    show X.A.depth + 3 * (k + 1) + 5 < _
    omega
  · have := hr.un
    show X.A.units + 1 + 1 + 16 * (k + 1) + 200 < _
    omega
theorem pe_sumG (hr : Room (k + 2) X.A) (hgl : Gl X "sum") (hm : X.mg "sum" = none) (hN : X.N.Nodup) (TB : GxR.TabB X.base X.mg c P) (hcode : X.env.code = .ref c) (hi : PI X tg iter wi) (B : GBlk X scope own)
    (hg : ∀ (A : Around) (s : Shared) (H : Hp) (C : Addr) (cl : List (Str × Addr)) (code : Value) (fp : List Addr) (gp : List (Addr × Obj)), PG (gcx X A s H (genEnv scope cl C code builtinsNs X.env) fp gp) tg g)
    (ht : ∀ (A : Around) (s : Shared) (H : Hp) (C : Addr) (cl : List (Str × Addr)) (code : Value) (fp : List Addr) (gp : List (Addr × Obj)), Room k (A.deeper (genEnv scope cl C code builtinsNs X.env)) → PTs (gcx X A s H (genEnv scope cl C code builtinsNs X.env) fp gp) ifs tt)
    (hel : ∀ (A : Around) (s : Shared) (H : Hp) (C : Addr) (cl : List (Str × Addr)) (code : Value) (fp : List Addr) (gp : List (Addr × Obj)), Room k (A.deeper (genEnv scope cl C code builtinsNs X.env)) → PE (gcx X A s H (genEnv scope cl C code builtinsNs X.env) fp gp) elt te)
    (hs : ∀ v, genFold iter X.env v = pure v := by intro _; rfl) (hb : bootBuiltins "sum" = some (.builtin "sum") := by decide +kernel)
    (he : starEach [.GeneratorExp elt [⟨tg, iter, ifs, 0⟩] scope gpos] X.env = (false, eval (.GeneratorExp elt [⟨tg, iter, ifs, 0⟩] scope gpos) X.env) :: starEach [] X.env := by rfl) :
    PE X (.Call (.Name "sum" p) [.GeneratorExp elt [⟨tg, iter, ifs, 0⟩] scope gpos] [] pos) (tSumG wi g tt te (own.map (·.2)) P) := by
  refine ⟨fun pins s σ H Q I h => ?_⟩
  refine wpAny_Call_Name_kw (ld_blt I hgl hm hb ?_)
  refine PyProof.Rows.callWith_builtin1 ?_ he (by rfl)
  rw [he]
  show wpAny _ _ (spliced ((false, eval (.GeneratorExp elt [⟨tg, iter, ifs, 0⟩] scope gpos) X.env) :: backTo pos (starEach [] X.env))) _ _ s
  refine Calls.spliced_cons (gen_make hr hN TB hcode hi B.ok B.nc B.co B.dot hg ht hel YSum.mono hs I h fun H2 sc fp u s5 I2 hex hM => ?_)
  refine Calls.spliced_nil ?_
  obtain ⟨a, g, cc, rfl, ha1, ha2, hgn, hgs, ⟨go, hgo, hgen, hgd⟩, hos, hba, hl, hkp, wake⟩ := hM
  refine call_function_tree F.kind_sum F.plain_sum F.entry_sum (F.args_sum1 _) ?_
  unfold Builtin.«sum»
  simp only [List.length_cons, List.length_nil]
  rw [if_neg (by decide)]
  refine wpAny_bind (wpAny_of_eq (show Builtin.Builtins.bindParams "sum" ["start"] 0 { } = pure [none] from rfl) ?_)
  refine wpAny_bind (wpAny_pyIter_gen hgn ?_)
  refine wpAny_bind (wpAny_mkInt ?_)
  refine wpAny_bind (wpAny_pure ?_)
  simp only [List.forIn_cons, List.forIn_nil]
  refine wpAny_bind (wpAny_bind (wpAny_bind (wpAny_isInstance (T := "int") (b := false) (typeIs_int _ _ _) PySem.sub_int_str ?_)))
  simp only [Bool.false_eq_true, if_false]
  refine wpAny_pure (wpAny_bind (wpAny_bind (wpAny_isInstance (T := "int") (b := false) (typeIs_int _ _ _) PySem.sub_int_bytes ?_)))
  simp only [Bool.false_eq_true, if_false]
  refine wpAny_pure (wpAny_bind (wpAny_bind (wpAny_isInstance (T := "int") (b := false) (typeIs_int _ _ _) PySem.sub_int_bytearray ?_)))
  simp only [Bool.false_eq_true, if_false]
  refine wpAny_pure (wpAny_pure ?_)
  refine wpAny_bind (wpAny_newObj_type ?_)
  have hcl : cStatics < s5.heap.objs.size := let ⟨_, hn, _⟩ := hl; hn.lt
  have k1 : ∀ b o, s5.heap.get? b = some o → (s5.heap.push { cls := .type "list", data := .seq ([Value.int 0 s5.toks] : List Value).toArray }).get? b = some o := fun b o e => Heap.get?_push_of_some _ e
  have hS1 : (s5.heap.push { cls := .type "list", data := .seq ([Value.int 0 s5.toks] : List Value).toArray }).get? s5.heap.objs.size = some { cls := .type "list", data := .seq ([Value.int 0 s5.toks] : List Value).toArray } := Heap.get?_push_size _ rfl
  have hC0 : CSum [] { cls := .type "list", data := .seq ([Value.int 0 s5.toks] : List Value).toArray } := ⟨_, _, rfl⟩
  refine wpAny_pure ⟨plainId_quiet F.plain_sum_loop _, sum_loop (A := X.A) (P := X.prog) (w := X.w) (outer := X.stack) (ex := fp) (H := H2) (sc := sc) (g := g) (S := s5.heap.objs.size) hr.hd (by have := hr.dp; omega) (Nat.ne_of_gt ha2) (Nat.ne_of_gt hcl)
    (fun ys H' s' t O he => ⟨.int (isum ys), H', back I2 hex O, ⟨t, rfl⟩, he⟩) sizeLine _ [] ⟨hgn.keeps k1, hl.keeps k1, _, hgs, rfl, ?_⟩ ⟨_, hS1, hC0⟩⟩
  refine wake X.A.in1.in1 s5.heap.objs.size CSum [(a, go)] _ ⟨hr.hd, ?_, ?_⟩ I.ok.frames (fun _ o e v => by obtain ⟨t, c', e⟩ := e; rw [e]; exact fun z => by cases z) (fun s' ys o e1 e2 e3 => hgen _ (e3 (a, go) (List.mem_singleton.mpr rfl)))
    (fun p hp => by rw [List.mem_singleton.mp hp]; exact ⟨Nat.ne_of_lt ha2, ha1, k1 _ _ hgo, hgd⟩) (Nat.lt_trans ha1 ha2) (fun b o e => k1 b o e) ⟨_, hS1, hC0⟩ hos (allBare_setGen (s := { s5 with heap := _ }) hba rfl)
  · have := hr.dp
    show X.A.depth + 3 * (k + 1) + 5 < _
    omega
  · have := hr.un
    show X.A.units + 1 + 1 + 16 * (k + 1) + 200 < _
    omega
theorem pe_tupG (hr : Room (k + 2) X.A) (hgl : Gl X "tuple") (hm : X.mg "tuple" = none) (hN : X.N.Nodup) (TB : GxR.TabB X.base X.mg c P) (hcode : X.env.code = .ref c) (hi : PI X tg iter wi) (B : GBlk X scope own)
    (hg : ∀ (A : Around) (s : Shared) (H : Hp) (C : Addr) (cl : List (Str × Addr)) (code : Value) (fp : List Addr) (gp : List (Addr × Obj)), PG (gcx X A s H (genEnv scope cl C code builtinsNs X.env) fp gp) tg g)
    (ht : ∀ (A : Around) (s : Shared) (H : Hp) (C : Addr) (cl : List (Str × Addr)) (code : Value) (fp : List Addr) (gp : List (Addr × Obj)), Room k (A.deeper (genEnv scope cl C code builtinsNs X.env)) → PTs (gcx X A s H (genEnv scope cl C code builtinsNs X.env) fp gp) ifs tt)
    (hel : ∀ (A : Around) (s : Shared) (H : Hp) (C : Addr) (cl : List (Str × Addr)) (code : Value) (fp : List Addr) (gp : List (Addr × Obj)), Room k (A.deeper (genEnv scope cl C code builtinsNs X.env)) → PE (gcx X A s H (genEnv scope cl C code builtinsNs X.env) fp gp) elt te)
    (hs : ∀ v, genFold iter X.env v = pure v := by intro _; rfl) (hb : bootBuiltins "tuple" = some (.type "tuple") := by decide +kernel)
    (he : starEach [.GeneratorExp elt [⟨tg, iter, ifs, 0⟩] scope gpos] X.env = (false, eval (.GeneratorExp elt [⟨tg, iter, ifs, 0⟩] scope gpos) X.env) :: starEach [] X.env := by rfl) :
    PE X (.Call (.Name "tuple" p) [.GeneratorExp elt [⟨tg, iter, ifs, 0⟩] scope gpos] [] pos) (tTupG wi g tt te (own.map (·.2)) P) := by
  refine ⟨fun pins s σ H Q I h => ?_⟩
  refine wpAny_Call_Name_kw (ld_blt I hgl hm hb ?_)
  refine PyProof.Rows.callWith_type1 ?_ he (by rfl)
  rw [he]
  show wpAny _ _ (spliced ((false, eval (.GeneratorExp elt [⟨tg, iter, ifs, 0⟩] scope gpos) X.env) :: backTo pos (starEach [] X.env))) _ _ s
  refine Calls.spliced_cons (gen_make hr hN TB hcode hi B.ok B.nc B.co B.dot hg ht hel YItm.mono hs I h fun H2 sc fp u s5 I2 hex hM => ?_)
  refine Calls.spliced_nil ?_
  refine call_tuple_x (A := X.A) ⟨hr.hd, ?_, ?_⟩ I.ok.frames hM fun ys H' s' acc O r hle he => ?_
  · have := hr.dp
    show X.A.depth + 3 * (k + 1) + 5 < _
    omega
  · have := hr.un
    show X.A.units + 1 + 1 + 1 + 1 + 16 * (k + 1) + 200 < _
    omega
  · have J := back I2 hex O
    refine ⟨.ref s'.heap.objs.size, upd H' s'.heap.objs.size (.tup ys), ?_, rfl, he _ (O.hok.fresh (Nat.le_refl _))⟩
    exact J.laid (t' := s'.toks) (fun b o e => Heap.get?_push_of_some _ e) (Nat.le_refl _) ⟨hle, acc, r, IsTup.new s'.heap _⟩
end
end GE

set_option Elab.async false
set_option linter.all false
set_option maxRecDepth 100000
set_option maxHeartbeats 2000000
namespace GE
open PySem PySem.Spec PyProof.Rows L2
/-- a def whose code object stands at c -/
structure FunC (K : PySem.W.Frag) (x qual : Str) (st : Stmt) (f : Addr) (fd : FuncData) (c : Addr) : Prop where
  ex : ∃ (oc : Value) (od : Option Addr) (kV doc pm : Value) (an : Option Addr) (ct : Value) (osl : Array (Option Value)),
    fd = PySem.W.fnOf x qual (defArgs st) (defBody st) (defScope st) .none kV doc pm an (.ref c) ct ∧ K.lookup f = some ⟨oc, od, .func fd, osl⟩ ∧ PySem.W.codeIn K (.ref c) qual = true
  kp : PySem.W.keepIn K (.ref f) = true
section
variable {P : Program} {w : World} {K : PySem.W.Frag} {mg : Str → Option Value} {base : Heap}
theorem FunC.fun {x qual : Str} {st : Stmt} {f c : Addr} {fd : FuncData} (F : FunC K x qual st f fd c) : Fun K x qual st f fd := by
  obtain ⟨oc, od, kV, doc, pm, an, ct, osl, h1, h2, h3⟩ := F.ex
  exact ⟨⟨oc, od, kV, doc, pm, an, .ref c, ct, osl, h1, h2, h3⟩, F.kp⟩
theorem FunC.ok {x qual : Str} {st : Stmt} {f c : Addr} {fd : FuncData} {N ps : List Str} {k : Nat} {sp : Sp} (F : FunC K x qual st f fd c) (S : FnScope N ps (defScope st)) (len : ∀ vs H Q E, sp vs H Q E → vs.length = ps.length)
    (hbody : ∀ (A : Around) (outer : List Env) (s : Shared) (H : Hp) (vs : List V) (Q : VK) (E : XK), Room k (A.deeper (envOfC qual (defScope st) s.heap.objs.size f (.ref c))) → sp vs H Q E →
      ∃ t, PSs (cxOf CX0 P w K mg base N qual (defScope st) f (.ref c) A outer s H E).nox (defBody st) t ∧ t { nx := fun _ H' => Q .non H', rt := Q } (start N vs) H) : FnOk P w K mg base CX0 (k + 1) f fd ps sp := by
  obtain ⟨oc, od, kV, doc, pm, an, ct, osl, rfl, lk, hcd⟩ := F.ex
  refine fn_of lk hcd S len fun A outer s H vs Q E hr hsp => ?_
  obtain ⟨t, h, q⟩ := hbody A outer s H vs Q E hr hsp
  exact ⟨t, h.nox, q⟩
theorem funC_mk {x qual : Str} {st : Stmt} {f c : Addr} {oc : Value} {od an : Option Addr} {osl : Array (Option Value)} {kV doc pm ct : Value} (l : K.lookup f = some ⟨oc, od, .func (PySem.W.fnOf x qual (defArgs st) (defBody st) (defScope st) .none kV doc pm an (.ref c) ct), osl⟩)
    (cd : PySem.W.codeIn K (.ref c) qual = true) (k : PySem.W.keepIn K (.ref f) = true) : FunC K x qual st f (PySem.W.fnOf x qual (defArgs st) (defBody st) (defScope st) .none kV doc pm an (.ref c) ct) c := ⟨⟨oc, od, kV, doc, pm, an, ct, osl, rfl, l, cd⟩, k⟩
end
/-- the tables of the defs of the view -/
def TabsOf (q : Program) (K : PySem.W.Frag) (h : Heap) : Prop := ∀ (x : Str) (e : DefRec) (c P : Addr), (recsOf q).find? (fun e => e.name == x) = some e → PySem.W.tabIn K x = some (c, P) → PySem.W.CodeHd h c P ∧ h.get? P = some { cls := .none, data := .fields #[] }
theorem nT_of {K : PySem.W.Frag} {h : Heap} {P : Addr} (X : K.In h) (hK : PySem.W.noTabs K = true) (hP : h.get? P = some { cls := .none, data := .fields #[] }) : K.lookup P = none := by
  cases e : K.lookup P with
  | none => rfl
  | some o =>
    have e2 := X P o e
    rw [hP] at e2
    have h2 := List.all_eq_true.mp hK (P, o) (PySem.W.mem_of_lookupK e)
    cases e2
    exact absurd (show false = true from h2) Bool.false_ne_true
theorem walk_tab {l : PySem.W.OpenLaw} {n k : Nat} {q : Program} {loose : List Str} {XP : (Str → Option Value) → Heap → Prop} {YP : World → Heap → Prop} {d : DefRec} {K : Params → PySem.W.Frag} {CX : World → CXT} {x : Str}
    (hn : l.most = some n) (hn2 : n ≤ sizeLine) (hdf : d.params.defaults = []) (hr : Room k callerA) (hY : ∀ (w : World) (h : Heap), YP w h → (K w.params).In h)
    (F : ∀ (w : World) (mg : Str → Option Value) (fa : Addr) (h : Heap), (K w.params).In h → h.Ns mainGlobals mg → mg d.name = some (.ref fa) → TabsOf q (K w.params) h → LamX.LawAtS l w (K w.params) (CX w) k n x mg fa h)
    (hCX : ∀ (w : World) (H : Hp) (s : Shared) (e : Value) (s' : Shared), CX w [] H s (fun _ _ _ => False) e s' → False) :
    PySem.W.WalkO q loose XP YP l.row.toRowW d [] (fun f vs => PySem.call f vs) := by
  refine Att.attach_callB hn hdf fun w s₀ s₁ mg mb fa o pm cd doc a vs ns G Y ho hd hcd hmg hobj hints hlen hbits hg => ?_
  have KX := hY w _ Y
  obtain ⟨fd, cs, sp, hT, nT, C, hb, hsp, hF⟩ := F w mg fa _ KX G.T.g hmg fun x e c P h1 h2 => PySem.W.tab_of G.T KX h1 h2
  exact LamX.law_callTs KX G.T.g G.T.b G.T.builtins G.T.nolimit hg hT nT C G.T.bmain hobj hints (Nat.le_trans hlen hn2) hr hF hb (fun H hH hS => hsp H a ns hlen hbits hH hS) fun H e s' => hCX w H s₁ e s'
theorem tabB_of {base : Heap} {mg : Str → Option Value} {c P : Addr} (t : LamX.TabB base mg c P) : GxR.TabB base mg c P := ⟨t.code, t.bm, t.gP⟩

/-! ### what is kept -/
structure Ext (T : List Addr) (M : Addr → Prop) (H H' : Hp) : Prop where
  kp : ∀ b o, ¬ M b → H b = some o → (∀ ps, o ≠ .tbl ps) → H' b = some o
  tb : ∀ P ∈ T, GxR.TabG H P → GxR.TabG H' P
  fr : ∀ b, H' b = none → H b = none
abbrev noM : Addr → Prop := fun _ => False
section
variable {T : List Addr} {M : Addr → Prop} {H H' H1 H2 : Hp} {K : PySem.W.Frag}
theorem Ext.refl (T : List Addr) (M : Addr → Prop) (H : Hp) : Ext T M H H := ⟨fun _ _ _ e _ => e, fun _ _ h => h, fun _ h => h⟩
theorem Ext.trans (a : Ext T M H H1) (b : Ext T M H1 H2) : Ext T M H H2 := ⟨fun x o m e n => b.kp x o m (a.kp x o m e n) n, fun P hP h => b.tb P hP (a.tb P hP h), fun x h => a.fr x (b.fr x h)⟩
theorem Ext.weak (a : Ext T noM H H1) : Ext T M H H1 := ⟨fun x o _ e n => a.kp x o (fun z => z) e n, a.tb, a.fr⟩
theorem tabG_ne {P p : Addr} {o : HO} (h : GxR.TabG H P) (e : H p = some o) (n : ∀ ps, o ≠ .tbl ps) : P ≠ p := fun z => by
  obtain ⟨ps, hp, _⟩ := h
  rw [z, e] at hp
  exact n ps (Option.some.inj hp)
theorem Ext.new {p : Addr} {o : HO} (h : H p = none) : Ext T M H (upd H p o) := by
  refine ⟨fun b u _ e _ => ?_, fun P _ ⟨ps, hp, ht⟩ => ⟨ps, ?_, ht⟩, fun b e => ?_⟩
  · rw [upd_ne (ne_of_none e h)]; exact e
  · rw [upd_ne (ne_of_none hp h)]; exact hp
  · by_cases hb : b = p
    · rw [hb]; exact h
    · rw [upd_ne hb] at e; exact e
/-- a thing that was not there, or may change, is written -/
theorem Ext.mut {p : Addr} {o u : HO} (a : Ext T M H H') (h : H p = none ∨ M p) (e : H' p = some u) (n : ∀ ps, u ≠ .tbl ps) : Ext T M H (upd H' p o) := by
  refine ⟨fun b v m eb nb => ?_, fun P hP hg => ?_, fun b eb => ?_⟩
  · have hbp : b ≠ p := fun z => by
      rcases h with h | h
      · rw [z, h] at eb; cases eb
      · exact m (z ▸ h)
    rw [upd_ne hbp]; exact a.kp b v m eb nb
  · have hg' := a.tb P hP hg
    have hne := tabG_ne hg' e n
    obtain ⟨ps, hp, ht⟩ := hg'
    exact ⟨ps, by rw [upd_ne hne]; exact hp, ht⟩
  · by_cases hb : b = p
    · rw [hb, upd_same] at eb; cases eb
    · rw [upd_ne hb] at eb; exact a.fr b eb
theorem Ext.tab {P : Addr} (h : GxR.TabG H P) (t : GxR.Tabbed P H H') : Ext T M H H' := by
  obtain ⟨ps, hp, _⟩ := h
  refine ⟨fun b o _ e n => ?_, fun R _ hR => ?_, fun b e => ?_⟩
  · have hb : b ≠ P := fun z => by rw [z, hp] at e; exact n ps (Option.some.inj e).symm
    rw [t.2 b hb]; exact e
  · by_cases hb : R = P
    · rw [hb]; exact t.1
    · obtain ⟨qs, hq, hqt⟩ := hR
      exact ⟨qs, by rw [t.2 R hb]; exact hq, hqt⟩
  · by_cases hb : b = P
    · obtain ⟨qs, hq, _⟩ := t.1
      rw [hb, hq] at e; cases e
    · rw [t.2 b hb] at e; exact e
theorem Ext.lst {a : Addr} {xs : List V} (e : Ext T M H H') (m : ¬ M a) (h : H a = some (.lst xs)) : H' a = some (.lst xs) := e.kp a _ m h fun ps z => by cases z
theorem Ext.tup {a : Addr} {xs : List V} (e : Ext T M H H') (m : ¬ M a) (h : H a = some (.tup xs)) : H' a = some (.tup xs) := e.kp a _ m h fun ps z => by cases z
theorem Ext.l {a : Addr} {xs : List V} (e : Ext T M H H') (m : ¬ M a) (h : SqL K H a xs) : SqL K H' a xs := by
  rcases h with (h | ⟨o, h⟩) | h
  · exact .inl (.inl (e.lst m h))
  · exact .inl (.inr ⟨o, e.kp _ _ m h fun ps z => by cases z⟩)
  · exact .inr h
/-- the tables stand -/
def Wd (T : List Addr) (H : Hp) : Prop := ∀ P ∈ T, GxR.TabG H P
theorem Wd.ext (h : Wd T H) (e : Ext T M H H') : Wd T H' := fun P hP => e.tb P hP (h P hP)

/-! ### data -/
inductive D where
  | i (n : Int) | non | bl (b : Bool)
  | t (ds : List D)
mutual
def Rp (H : Hp) : D → V → Prop
  | .i n, v => v = .int n
  | .non, v => v = .non
  | .bl b, v => v = .bl b
  | .t ds, v => ∃ a vs, v = .ref a ∧ H a = some (.tup vs) ∧ RpL H ds vs
def RpL (H : Hp) : List D → List V → Prop
  | [], vs => vs = []
  | d :: ds, vs => ∃ v r, vs = v :: r ∧ Rp H d v ∧ RpL H ds r
end
theorem Rp.i {n : Int} {v : V} (h : Rp H (.i n) v) : v = .int n := by unfold Rp at h; exact h
theorem Rp.t {ds : List D} {v : V} (h : Rp H (.t ds) v) : ∃ a vs, v = .ref a ∧ H a = some (.tup vs) ∧ RpL H ds vs := by unfold Rp at h; exact h
theorem rp_i (n : Int) : Rp H (.i n) (.int n) := by unfold Rp; rfl
theorem rp_t {ds : List D} {a : Addr} {vs : List V} (h : H a = some (.tup vs)) (r : RpL H ds vs) : Rp H (.t ds) (.ref a) := by unfold Rp; exact ⟨a, vs, rfl, h, r⟩
theorem rpl_nil : RpL H [] [] := by unfold RpL; rfl
theorem rpl_cons {d : D} {ds : List D} {v : V} {vs : List V} (h : Rp H d v) (r : RpL H ds vs) : RpL H (d :: ds) (v :: vs) := by unfold RpL; exact ⟨v, vs, rfl, h, r⟩
theorem RpL.cons {d : D} {ds : List D} {vs : List V} (h : RpL H (d :: ds) vs) : ∃ v r, vs = v :: r ∧ Rp H d v ∧ RpL H ds r := by unfold RpL at h; exact h
theorem RpL.nil {vs : List V} (h : RpL H [] vs) : vs = [] := by unfold RpL at h; exact h
theorem RpL.len : ∀ {ds : List D} {vs : List V}, RpL H ds vs → vs.length = ds.length
  | [], vs, h => by rw [h.nil] <;> rfl
  | d :: ds, vs, h => by
    obtain ⟨v, r, rfl, _, h2⟩ := h.cons
    rw [List.length_cons, List.length_cons, RpL.len h2]
theorem RpL.get : ∀ {ds : List D} {vs : List V} {i : Nat} {d : D}, RpL H ds vs → ds[i]? = some d → ∃ v, vs[i]? = some v ∧ Rp H d v
  | [], vs, i, d, _, e => by simp at e
  | d :: ds, vs, 0, d', h, e => by
    obtain ⟨v, r, rfl, h1, _⟩ := h.cons
    simp at e
    exact ⟨v, rfl, e ▸ h1⟩
  | d :: ds, vs, i + 1, d', h, e => by
    obtain ⟨v, r, rfl, _, h2⟩ := h.cons
    obtain ⟨u, e1, e2⟩ := RpL.get (i := i) h2 (by simpa using e)
    exact ⟨u, by simpa using e1, e2⟩
theorem RpL.snoc : ∀ {ds : List D} {vs : List V} {d : D} {v : V}, RpL H ds vs → Rp H d v → RpL H (ds ++ [d]) (vs ++ [v])
  | [], vs, d, v, h, hv => by rw [h.nil]; exact rpl_cons hv rpl_nil
  | e :: ds, vs, d, v, h, hv => by
    obtain ⟨u, r, rfl, h1, h2⟩ := h.cons
    exact rpl_cons h1 (RpL.snoc h2 hv)
theorem RpL.take : ∀ {ds : List D} {vs : List V} (n : Nat), RpL H ds vs → RpL H (ds.take n) (vs.take n)
  | ds, vs, 0, h => by simp; exact rpl_nil
  | [], vs, n + 1, h => by rw [h.nil]; exact rpl_nil
  | d :: ds, vs, n + 1, h => by
    obtain ⟨u, r, rfl, h1, h2⟩ := h.cons
    exact rpl_cons h1 (RpL.take n h2)
theorem RpL.drop : ∀ {ds : List D} {vs : List V} (n : Nat), RpL H ds vs → RpL H (ds.drop n) (vs.drop n)
  | ds, vs, 0, h => by simpa using h
  | [], vs, n + 1, h => by rw [h.nil]; exact rpl_nil
  | d :: ds, vs, n + 1, h => by
    obtain ⟨u, r, rfl, h1, h2⟩ := h.cons
    exact RpL.drop n h2
theorem RpL.append : ∀ {ds es : List D} {vs ws : List V}, RpL H ds vs → RpL H es ws → RpL H (ds ++ es) (vs ++ ws)
  | [], es, vs, ws, h, g => by rw [h.nil]; exact g
  | e :: ds, es, vs, ws, h, g => by
    obtain ⟨u, r, rfl, h1, h2⟩ := h.cons
    exact rpl_cons h1 (RpL.append h2 g)
theorem rpl_ints : ∀ (ns : List Int), RpL H (ns.map D.i) (ns.map V.int)
  | [] => rpl_nil
  | n :: r => rpl_cons (rp_i n) (rpl_ints r)
theorem RpL.ints : ∀ {ns : List Int} {vs : List V}, RpL H (ns.map D.i) vs → vs = ns.map V.int
  | [], vs, h => h.nil
  | n :: r, vs, h => by
    obtain ⟨v, s, rfl, h1, h2⟩ := h.cons
    rw [h1.i, RpL.ints h2]; rfl
mutual
theorem Rp.ext (e : Ext T M H H') (hM : ∀ b vs, M b → H b ≠ some (.tup vs)) : ∀ {d : D} {v : V}, Rp H d v → Rp H' d v
  | .i n, v, h => by rw [h.i]; exact rp_i n
  | .non, v, h => by unfold Rp at h ⊢; exact h
  | .bl b, v, h => by unfold Rp at h ⊢; exact h
  | .t ds, v, h => by
    obtain ⟨a, vs, rfl, h1, h2⟩ := h.t
    exact rp_t (e.tup (fun m => hM a vs m h1) h1) (RpL.ext e hM h2)
theorem RpL.ext (e : Ext T M H H') (hM : ∀ b vs, M b → H b ≠ some (.tup vs)) : ∀ {ds : List D} {vs : List V}, RpL H ds vs → RpL H' ds vs
  | [], vs, h => by rw [h.nil]; exact rpl_nil
  | d :: ds, vs, h => by
    obtain ⟨v, r, rfl, h1, h2⟩ := h.cons
    exact rpl_cons (Rp.ext e hM h1) (RpL.ext e hM h2)
end
theorem Rp.x (e : Ext T noM H H') {d : D} {v : V} (h : Rp H d v) : Rp H' d v := h.ext e fun _ _ m => m.elim
theorem RpL.x (e : Ext T noM H H') {ds : List D} {vs : List V} (h : RpL H ds vs) : RpL H' ds vs := h.ext e fun _ _ m => m.elim
end
end GE

set_option Elab.async false
set_option linter.all false
set_option maxRecDepth 100000
set_option maxHeartbeats 4000000

namespace Mw
open PySem PySem.Spec PyProof.Rows L2 GE
def top (i : Nat) : Stmt := PySem.Challenge.pw_moatways_k21_wrong_lines_of_tasks.main.body.getD i (.Pass ⟨0, 0, 0, 0⟩)
abbrev sApart___init__ : Stmt := inClass (top 2) 0
theorem scApart___init__ : FnScope ["self", "index"] ["self", "index"] (defScope sApart___init__) := ⟨rfl, rfl, rfl, by decide +kernel, rfl, by decide +kernel, by decide +kernel⟩
abbrev sBadText___init__ : Stmt := inClass (top 3) 0
theorem scBadText___init__ : FnScope ["self", "line"] ["self", "line"] (defScope sBadText___init__) := ⟨rfl, rfl, rfl, by decide +kernel, rfl, by decide +kernel, by decide +kernel⟩
abbrev sRefused___init__ : Stmt := inClass (top 4) 0
theorem scRefused___init__ : FnScope ["self", "reason"] ["self", "reason"] (defScope sRefused___init__) := ⟨rfl, rfl, rfl, by decide +kernel, rfl, by decide +kernel, by decide +kernel⟩
abbrev swrite_task : Stmt := top 10
theorem scwrite_task : FnScope ["net", "pairs", "places", "ways", "lines", "a", "b", "cost"] ["net", "pairs"] (defScope swrite_task) := ⟨rfl, rfl, rfl, by decide +kernel, rfl, by decide +kernel, by decide +kernel⟩
abbrev sread_task : Stmt := top 11
theorem scread_task : FnScope ["text", "lines", "behind", "reader", "number", "line"] ["text"] (defScope sread_task) := ⟨rfl, rfl, rfl, by decide +kernel, rfl, by decide +kernel, by decide +kernel⟩
abbrev sReader___init__ : Stmt := inClass (top 12) 0
theorem scReader___init__ : FnScope ["self"] ["self"] (defScope sReader___init__) := ⟨rfl, rfl, rfl, by decide +kernel, rfl, by decide +kernel, by decide +kernel⟩
abbrev sReader_takes : Stmt := inClass (top 12) 1
theorem scReader_takes : FnScope ["self", "line", "words"] ["self", "line"] (defScope sReader_takes) := ⟨rfl, rfl, rfl, by decide +kernel, rfl, by decide +kernel, by decide +kernel⟩
abbrev sReader__takes_places : Stmt := inClass (top 12) 2
theorem scReader__takes_places : FnScope ["self", "words"] ["self", "words"] (defScope sReader__takes_places) := ⟨rfl, rfl, rfl, by decide +kernel, rfl, by decide +kernel, by decide +kernel⟩
abbrev sReader__takes_way : Stmt := inClass (top 12) 3
theorem scReader__takes_way : FnScope ["self", "words", "ends", "cost"] ["self", "words"] (defScope sReader__takes_way) := ⟨rfl, rfl, rfl, by decide +kernel, rfl, by decide +kernel, by decide +kernel⟩
abbrev sReader__takes_pair : Stmt := inClass (top 12) 4
theorem scReader__takes_pair : FnScope ["self", "words", "ends"] ["self", "words"] (defScope sReader__takes_pair) := ⟨rfl, rfl, rfl, by decide +kernel, rfl, by decide +kernel, by decide +kernel⟩
abbrev s_ends : Stmt := top 13
theorem sc_ends : FnScope ["first", "second", "places", "a", "b"] ["first", "second", "places"] (defScope s_ends) := ⟨rfl, rfl, rfl, by decide +kernel, rfl, by decide +kernel, by decide +kernel⟩
abbrev s_number : Stmt := top 14
theorem sc_number : FnScope ["word", "low", "high", "number"] ["word", "low", "high"] (defScope s_number) := ⟨rfl, rfl, rfl, by decide +kernel, rfl, by decide +kernel, by decide +kernel⟩
abbrev s_law_pool : Stmt := top 16
theorem sc_law_pool : FnScope ["script"] ["script"] (defScope s_law_pool) := ⟨rfl, rfl, rfl, by decide +kernel, rfl, by decide +kernel, by decide +kernel⟩
abbrev s_law_draw : Stmt := top 17
theorem sc_law_draw : FnScope ["pool", "many", "found", "cell", "mixed"] ["pool", "many"] (defScope s_law_draw) := ⟨rfl, rfl, rfl, by decide +kernel, rfl, by decide +kernel, by decide +kernel⟩
abbrev s_law_pick : Stmt := top 18
theorem sc_law_pick : FnScope ["pool", "rows"] ["pool", "rows"] (defScope s_law_pick) := ⟨rfl, rfl, rfl, by decide +kernel, rfl, by decide +kernel, by decide +kernel⟩
abbrev s_law_same : Stmt := top 19
theorem sc_law_same : FnScope ["actual", "due", "k"] ["actual", "due"] (defScope s_law_same) := ⟨rfl, rfl, rfl, by decide +kernel, rfl, by decide +kernel, by decide +kernel⟩
abbrev s_law_cost : Stmt := top 20
theorem sc_law_cost : FnScope ["pool", "pick"] ["pool"] (defScope s_law_cost) := ⟨rfl, rfl, rfl, by decide +kernel, rfl, by decide +kernel, by decide +kernel⟩
abbrev s_law_way : Stmt := top 21
theorem sc_law_way : FnScope ["pool", "places", "a"] ["pool", "places"] (defScope s_law_way) := ⟨rfl, rfl, rfl, by decide +kernel, rfl, by decide +kernel, by decide +kernel⟩
abbrev s_law_net : Stmt := top 22
theorem sc_law_net : FnScope ["pool", "most", "ways", "places", "found", "place", "k"] ["pool", "most", "ways"] (defScope s_law_net) := ⟨rfl, rfl, rfl, by decide +kernel, rfl, by decide +kernel, by decide +kernel⟩
abbrev s_law_pairs : Stmt := top 23
theorem sc_law_pairs : FnScope ["pool", "places", "most", "found", "k", "a", "pair"] ["pool", "places", "most"] (defScope s_law_pairs) := ⟨rfl, rfl, rfl, by decide +kernel, rfl, by decide +kernel, by decide +kernel⟩
abbrev s_law_lines : Stmt := top 24
theorem sc_law_lines : FnScope ["net", "pairs", "lines", "way", "pair"] ["net", "pairs"] (defScope s_law_lines) := ⟨rfl, rfl, rfl, by decide +kernel, rfl, by decide +kernel, by decide +kernel⟩
abbrev s_law_number : Stmt := top 25
theorem sc_law_number : FnScope ["word", "char"] ["word"] (defScope s_law_number) := ⟨rfl, rfl, rfl, by decide +kernel, rfl, by decide +kernel, by decide +kernel⟩
abbrev s_law_stands : Stmt := top 26
theorem sc_law_stands : FnScope ["state", "words", "numbers", "word", "pairs"] ["state", "words"] (defScope s_law_stands) := ⟨rfl, rfl, rfl, by decide +kernel, rfl, by decide +kernel, by decide +kernel⟩
abbrev s_law_wrong : Stmt := top 27
theorem sc_law_wrong : FnScope ["text", "lines", "rest", "state", "k"] ["text"] (defScope s_law_wrong) := ⟨rfl, rfl, rfl, by decide +kernel, rfl, by decide +kernel, by decide +kernel⟩
abbrev s_law_spoilt : Stmt := top 28
theorem sc_law_spoilt : FnScope ["pool", "lines", "at", "pick", "k", "found", "a", "words", "here", "strange", "signs", "line", "sign", "changed"] ["pool", "lines"] (defScope s_law_spoilt) := ⟨rfl, rfl, rfl, by decide +kernel, rfl, by decide +kernel, by decide +kernel⟩
abbrev slaw : Stmt := top 29
theorem sclaw : FnScope ["script", "pool", "net", "lines", "k", "text", "line", "pick", "due", "found", "e"] ["script"] (defScope slaw) := ⟨rfl, rfl, rfl, by decide +kernel, rfl, by decide +kernel, by decide +kernel⟩
/-! ### the pool -/
def PoolAt (H : Hp) (p s : Addr) : Prop := ∃ (ns : List Int) (i1 i2 i3 i4 : Int), H p = some (.lst [.ref s, .int i1, .int i2, .int i3, .int i4]) ∧ H s = some (.lst (ns.map V.int)) ∧ ns.length ≤ 63 ∧ 0 ≤ i1 ∧ 0 ≤ i2
abbrev atP (p : Addr) : Addr → Prop := fun b => b = p
theorem PoolAt.tup {H : Hp} {p s : Addr} (h : PoolAt H p s) : ∀ b vs, atP p b → H b ≠ some (.tup vs) := fun b vs e z => by
  obtain ⟨ns, i1, i2, i3, i4, hp, _⟩ := h
  rw [show b = p from e, hp] at z
  cases z
theorem PoolAt.keep {T : List Addr} {H H' : Hp} {p s : Addr} (h : PoolAt H p s) (e : Ext T noM H H') : PoolAt H' p s := by
  obtain ⟨ns, i1, i2, i3, i4, hp, hs, hl, h1, h2⟩ := h
  exact ⟨ns, i1, i2, i3, i4, e.lst (fun z => z) hp, e.lst (fun z => z) hs, hl, h1, h2⟩
theorem Rp.p {T : List Addr} {H H' : Hp} {p s : Addr} {d : D} {v : V} (h : Rp H d v) (hp : PoolAt H p s) (e : Ext T (atP p) H H') : Rp H' d v := h.ext e hp.tup
theorem ltbl {xs : List V} : ∀ ps, HO.lst xs ≠ .tbl ps := fun ps z => by cases z
theorem PoolAt.upd {H : Hp} {p s l : Addr} {o : HO} (h : PoolAt H p s) (h1 : l ≠ p) (h2 : l ≠ s) : PoolAt (upd H l o) p s := by
  obtain ⟨ns, i1, i2, i3, i4, hp, hs, r⟩ := h
  exact ⟨ns, i1, i2, i3, i4, by rw [upd_ne (Ne.symm h1)]; exact hp, by rw [upd_ne (Ne.symm h2)]; exact hs, r⟩
theorem PoolAt.ne {H : Hp} {p s l : Addr} (h : PoolAt H p s) (e : H l = none) : l ≠ p ∧ l ≠ s := by
  obtain ⟨ns, i1, i2, i3, i4, hp, hs, r⟩ := h
  exact ⟨fun z => (by rw [z, hp] at e; cases e), fun z => (by rw [z, hs] at e; cases e)⟩
theorem rpl_upd {H : Hp} {l : Addr} {xs : List V} {o : HO} {ds : List D} {vs : List V} (h : RpL H ds vs) (hl : H l = some (.lst xs)) : RpL (upd H l o) ds vs :=
  h.ext (T := []) ((Ext.refl [] (atP l) H).mut (.inr rfl) hl fun ps z => by cases z) fun b vs e z => by rw [show b = l from e, hl] at z; cases z
theorem rp_upd {H : Hp} {l : Addr} {xs : List V} {o : HO} {d : D} {v : V} (h : Rp H d v) (hl : H l = some (.lst xs)) : Rp (upd H l o) d v :=
  h.ext (T := []) ((Ext.refl [] (atP l) H).mut (.inr rfl) hl fun ps z => by cases z) fun b vs e z => by rw [show b = l from e, hl] at z; cases z
theorem RpL.p {T : List Addr} {H H' : Hp} {p s : Addr} {d : List D} {v : List V} (h : RpL H d v) (hp : PoolAt H p s) (e : Ext T (atP p) H H') : RpL H' d v := h.ext e hp.tup
def spPool (K : PySem.W.Frag) (T : List Addr) : Sp := fun vs H Q _ => ∃ (a : Addr) (ns : List Int), vs = [.ref a] ∧ SqL K H a (ns.map V.int) ∧ ns.length ≤ 63 ∧ ∀ p s H', H p = none → H s = none → PoolAt H' p s → Ext T noM H H' → Q (.ref p) H'
def spDraw (T : List Addr) : Sp := fun vs H Q _ => ∃ (p s : Addr) (many : Int), vs = [.ref p, .int many] ∧ PoolAt H p s ∧ 1 ≤ many ∧ many < 1073741824 ∧ ∀ r H', 0 ≤ r → r < many → PoolAt H' p s → Ext T (atP p) H H' → Q (.int r) H'
def spPick (T : List Addr) : Sp := fun vs H Q _ => ∃ (p s a : Addr) (xs : List V), vs = [.ref p, .ref a] ∧ PoolAt H p s ∧ H a = some (.lst xs) ∧ a ≠ p ∧ 1 ≤ xs.length ∧ xs.length ≤ 1000 ∧ ∀ v H', v ∈ xs → PoolAt H' p s → Ext T (atP p) H H' → Q v H'
def spCost (T : List Addr) : Sp := fun vs H Q _ => ∃ (p s : Addr), vs = [.ref p] ∧ PoolAt H p s ∧ ∀ r H', 1 ≤ r → r ≤ 10000 → PoolAt H' p s → Ext T (atP p) H H' → Q (.int r) H'
section
variable {P : Program} {w : World} {K : PySem.W.Frag} {mg : Str → Option Value} {base : Heap} {T : List Addr}
theorem pool_upd {H : Hp} {p s : Addr} {ns : List Int} {i1 i2 i3 i4 j1 j2 j3 j4 : Int} (hp : H p = some (.lst [.ref s, .int i1, .int i2, .int i3, .int i4])) (hs : H s = some (.lst (ns.map V.int))) (hl : ns.length ≤ 63) (h1 : 0 ≤ j1) (h2 : 0 ≤ j2) :
    PoolAt (upd H p (.lst [.ref s, .int j1, .int j2, .int j3, .int j4])) p s ∧ Ext T (atP p) H (upd H p (.lst [.ref s, .int j1, .int j2, .int j3, .int j4])) := by
  have hsp : s ≠ p := fun z => by
    rw [z, hp] at hs
    have e := HO.lst.inj (Option.some.inj hs)
    cases ns with
    | nil => cases e
    | cons x r => cases e
  exact ⟨⟨ns, j1, j2, j3, j4, upd_same, by rw [upd_ne hsp]; exact hs, hl, h1, h2⟩, (Ext.refl T _ H).mut (.inr rfl) hp fun ps z => by cases z⟩
theorem ok__law_pool {f : Addr} {fd : FuncData} (F : Fun K "_law_pool" "_law_pool" s_law_pool f fd) (m_list : mg "list" = none) : FnOk P w K mg base CX0 1 f fd ["script"] (spPool K T) := by
  refine F.ok sc_law_pool (fun vs H Q E h => ?_) (fun cdv A outer s H vs Q E hr h => ?_)
  · obtain ⟨a, ns, rfl, hS, hlen, k⟩ := h
    rfl
  · obtain ⟨a, ns, rfl, hS, hlen, k⟩ := h
    refine ⟨_, (pss_one (ps_ret (pe_lst (pa_cons (pe_callTy call_list_of (by rfl) m_list (by decide +kernel) (pa_cons (pv 0) pa_nil)) (pa_cons pe_int (pa_cons pe_int (pa_cons pe_int (pa_cons pe_int pa_nil)))))))), ?_⟩
    refine ⟨_, rfl, a, _, rfl, .inl hS, fun l hl => ?_⟩
    refine ⟨by show 5 ≤ sizeLine; decide, fun p hp => ?_⟩
    have hlp : l ≠ p := fun z => by rw [← z, upd_same] at hp; cases hp
    have hpH : H p = none := by rw [upd_ne (Ne.symm hlp)] at hp; exact hp
    exact k p l _ hpH hl ⟨ns, 0, 0, 0, 0, upd_same, by rw [upd_ne hlp, upd_same], hlen, by omega, by omega⟩ ((Ext.new hl).trans (Ext.new hp))
theorem ok__law_draw {f : Addr} {fd : FuncData} (F : Fun K "_law_draw" "_law_draw" s_law_draw f fd) (m_abs : mg "abs" = none) (m_int : mg "int" = none) (m_len : mg "len" = none) : FnOk P w K mg base CX0 1 f fd ["pool", "many"] (spDraw T) := by
  refine F.ok sc_law_draw (fun vs H Q E h => ?_) (fun cdv A outer s H vs Q E hr h => ?_)
  · obtain ⟨p, s, many, rfl, hP, hm1, hm2, k⟩ := h
    rfl
  · obtain ⟨p, s, many, rfl, hP, hm1, hm2, k⟩ := h
    refine ⟨_, (pss_cons (ps_if (pt_cmpR op_gt (pe_ix ix_list (pv 0) pe_int (fun _ _ => rfl)) pe_int (nomark _)) (pss_cons (ps_set (i := 2) sc_law_draw.nd rfl (Or.inl rfl) (pe_op op_mod (pe_callTy call_int1 (by rfl) m_int (by decide +kernel) (pa_cons (pe_ix ix_list (pv 0) pe_int (fun _ _ => rfl)) pa_nil)) (pv 1)))
      (pss_cons (ps_asg (pe_op op_fdivN (pe_ix ix_list (pv 0) pe_int (fun _ _ => rfl)) (pv 1)) (pg_sub (pv 0) pe_int set_list))
      (pss_one (ps_ret (pv 2))))) pss_nil)
      (Evl.pss_cut (ps_if (PW.pt (pw_and (pt_cmpR op_eq (pe_op op_mod (pe_callTy call_int1 (by rfl) m_int (by decide +kernel) (pa_cons (pe_ix ix_list (pv 0) pe_int (fun _ _ => rfl)) pa_nil)) pe_int) pe_int (nomark _)) (pw_and1 (pt_cmpR op_lt (pe_ix ix_list (pv 0) pe_int (fun _ _ => rfl)) (pe_callB call_len_seq (by rfl) m_len PySem.boot_len (pa_cons (pe_ix ix_list (pv 0) pe_int (fun _ _ => rfl)) pa_nil)) (nomark _))))) (pss_cons (ps_set (i := 3) sc_law_draw.nd rfl (Or.inl rfl) (pe_callB call_abs (by rfl) m_abs (by decide +kernel) (pa_cons (pe_ix ix_list (pe_ix ix_list (pv 0) pe_int (fun _ _ => rfl)) (pe_ix ix_list (pv 0) pe_int (fun _ _ => rfl)) (fun _ _ => rfl)) pa_nil)))
      (pss_cons (ps_asg (pe_op op_add (pe_ix ix_list (pv 0) pe_int (fun _ _ => rfl)) pe_int) (pg_sub (pv 0) pe_int set_list))
      (pss_cons (ps_if (pt_cmpR op_ge (pv 3) (pe_op op_pow pe_int pe_int) (nomark _)) (pss_cons (ps_asg (pe_op op_fdivN (pv 3) (pv 1)) (pg_sub (pv 0) pe_int set_list))
      (pss_one (ps_ret (pe_op op_mod (pe_callTy call_int1 (by rfl) m_int (by decide +kernel) (pa_cons (pv 3) pa_nil)) (pv 1))))) pss_nil)
      (pss_one (ps_asg (pv 3) (pg_sub (pv 0) pe_int set_list)))))) pss_nil)
      (pss_cons (ps_asg (pe_op op_add (pe_ix ix_list (pv 0) pe_int (fun _ _ => rfl)) pe_int) (pg_sub (pv 0) pe_int set_list))
      (pss_cons (ps_set (i := 4) sc_law_draw.nd rfl (Or.inl rfl) (pe_op op_mod (pe_callTy call_int1 (by rfl) m_int (by decide +kernel) (pa_cons (pe_op op_add (pe_op op_add (pe_op op_mul (pe_ix ix_list (pv 0) pe_int (fun _ _ => rfl)) pe_int) (pe_op op_mul (pe_ix ix_list (pv 0) pe_int (fun _ _ => rfl)) pe_int)) pe_int) pa_nil)) pe_int))
      (pss_cons (ps_set (i := 4) sc_law_draw.nd rfl (Or.inl rfl) (pe_op op_mod (pe_callTy call_int1 (by rfl) m_int (by decide +kernel) (pa_cons (pe_op op_add (pe_op op_mul (pv 4) (pv 4)) (pe_op op_mul (pe_ix ix_list (pv 0) pe_int (fun _ _ => rfl)) pe_int)) pa_nil)) pe_int))
      (pss_one (ps_ret (pe_op op_mod (pe_callTy call_int1 (by rfl) m_int (by decide +kernel) (pa_cons (pv 4) pa_nil)) (pv 1))))))))), ?_⟩
    obtain ⟨ns, i1, i2, i3, i4, hp, hs, hl, h1, h2⟩ := hP
    have hm0 : (0 : Int) < many := by omega
    have hmod : ∀ z : Int, 0 ≤ z % many ∧ z % many < many := fun z => ⟨Int.emod_nonneg _ (by omega), Int.emod_lt_of_pos _ hm0⟩
    have hsp : s ≠ p := fun z => by
      rw [z, hp] at hs
      have e := HO.lst.inj (Option.some.inj hs)
      cases ns with
      | nil => cases e
      | cons x r => cases e
    refine ⟨_, rfl, p, _, _, _, rfl, rfl, SqL.of hp, at_of (j := 2) rfl rfl, _, _, rfl, rfl, _, rfl, ?_⟩
    refine ite2 (fun c => ?_) (fun c => ?_)
    · have c' : i2 > 0 := of_decide_eq_true c
      refine ⟨_, rfl, p, _, _, _, rfl, rfl, SqL.of hp, at_of (j := 2) rfl rfl, .inl ⟨_, rfl, _, rfl, _, _, rfl, rfl, hm0, ?_⟩⟩
      refine ⟨_, rfl, p, _, _, _, rfl, rfl, SqL.of hp, at_of (j := 2) rfl rfl, _, rfl, _, _, rfl, rfl, ⟨by omega, by omega⟩, _, rfl, p, _, _, 2, rfl, rfl, hp, rfl, ?_⟩
      obtain ⟨g1, g2⟩ := pool_upd (T := T) (j1 := i1) (j2 := i2.fdiv many) (j3 := i3) (j4 := i4) hp hs hl h1 (by rw [Int.fdiv_eq_ediv_of_nonneg _ (by omega)]; exact Int.ediv_nonneg h2 (by omega))
      exact ⟨_, rfl, k _ _ (hmod _).1 (hmod _).2 g1 g2⟩
    · refine ⟨fun σ' H' => ∃ y2 y3 y4, σ' = [some (.ref p), some (.int many), y2, y3, y4] ∧ PoolAt H' p s ∧ Ext T (atP p) H H', ?_, ?_⟩
      · refine ⟨_, rfl, p, _, _, _, rfl, rfl, SqL.of hp, at_of (j := 4) rfl rfl, .inl ⟨_, rfl, _, _, rfl, rfl, (by show (0 : Int) < 8; decide), rfl, _, rfl, ?_⟩⟩
        have stay : ∃ y2 y3 y4, [some (V.ref p), some (V.int many), none, none, none] = [some (V.ref p), some (V.int many), y2, y3, y4] ∧ PoolAt H p s ∧ Ext T (atP p) H H := ⟨none, none, none, rfl, ⟨ns, i1, i2, i3, i4, hp, hs, hl, h1, h2⟩, Ext.refl T _ H⟩
        refine ite2 (fun c1 => ?_) (fun c1 => iteF stay)
        refine ⟨_, rfl, p, _, _, _, rfl, rfl, SqL.of hp, at_of (j := 1) rfl rfl, _, rfl, p, _, _, _, rfl, rfl, SqL.of hp, at_of (j := 0) rfl rfl, s, _, rfl, .inl (SqL.of hs), _, _, rfl, rfl, _, rfl, ?_⟩
        refine ite2 (fun c2 => ?_) (fun c2 => stay)
        have c2' : i1 < ((ns.map V.int).length : Int) := of_decide_eq_true c2
        rw [List.length_map] at c2'
        have hj : i1.toNat < ns.length := by omega
        have ga : atI (ns.map V.int) i1 = some (.int ns[i1.toNat]) := at_of (j := i1.toNat) (by omega) (by rw [List.getElem?_map, List.getElem?_eq_getElem hj]; rfl)
        -- cell = abs(pool[0][pool[1]])
        refine ⟨_, rfl, p, _, _, _, rfl, rfl, SqL.of hp, at_of (j := 0) rfl rfl, _, rfl, p, _, _, _, rfl, rfl, SqL.of hp, at_of (j := 1) rfl rfl, s, _, _, _, rfl, rfl, SqL.of hs, ga, _, rfl, ?_⟩
        generalize hz : (if ns[i1.toNat] < 0 then -ns[i1.toNat] else ns[i1.toNat]) = z
        have z0 : 0 ≤ z := by rw [← hz]; split <;> omega
        -- pool[1] = pool[1] + 1
        refine ⟨_, rfl, p, _, _, _, rfl, rfl, SqL.of hp, at_of (j := 1) rfl rfl, _, _, rfl, rfl, _, rfl, p, _, _, 1, rfl, rfl, hp, rfl, ?_⟩
        obtain ⟨g1, g2⟩ := pool_upd (T := T) (j1 := i1 + 1) (j2 := i2) (j3 := i3) (j4 := i4) hp hs hl (by omega) h2
        have hp1 : (upd H p (.lst [.ref s, .int (i1 + 1), .int i2, .int i3, .int i4])) p = some (.lst [.ref s, .int (i1 + 1), .int i2, .int i3, .int i4]) := upd_same
        have hs1 : (upd H p (.lst [.ref s, .int (i1 + 1), .int i2, .int i3, .int i4])) s = some (.lst (ns.map V.int)) := by rw [upd_ne hsp]; exact hs
        -- if cell >= 10 ** 18
        refine ⟨_, rfl, _, _, rfl, rfl, ⟨by decide, by decide, by decide⟩, _, _, rfl, rfl, _, rfl, ?_⟩
        refine ite2 (fun c3 => ?_) (fun c3 => ?_)
        · refine ⟨_, rfl, _, rfl, _, _, rfl, rfl, ⟨by omega, by omega⟩, _, rfl, p, _, _, 2, rfl, rfl, hp1, rfl, ?_⟩
          obtain ⟨g3, g4⟩ := pool_upd (T := T) (j1 := i1 + 1) (j2 := z.fdiv many) (j3 := i3) (j4 := i4) hp1 hs1 hl (by omega) (by rw [Int.fdiv_eq_ediv_of_nonneg _ (by omega)]; exact Int.ediv_nonneg z0 (by omega))
          exact ⟨_, rfl, .inl ⟨_, rfl, _, rfl, _, _, rfl, rfl, hm0, k _ _ (hmod _).1 (hmod _).2 g3 (g2.trans g4)⟩⟩
        · refine ⟨_, rfl, _, rfl, p, _, _, 3, rfl, rfl, hp1, rfl, ?_⟩
          obtain ⟨g3, g4⟩ := pool_upd (T := T) (j1 := i1 + 1) (j2 := i2) (j3 := z) (j4 := i4) hp1 hs1 hl (by omega) h2
          exact ⟨_, _, _, rfl, g3, g2.trans g4⟩
      · rintro σ' H1 ⟨y2, y3, y4, rfl, ⟨ns, i1, i2, i3, i4, hp, hs, hl, h1, h2⟩, e1⟩
        refine ⟨_, rfl, p, _, _, _, rfl, rfl, SqL.of hp, at_of (j := 4) rfl rfl, _, _, rfl, rfl, _, rfl, p, _, _, 4, rfl, rfl, hp, rfl, ?_⟩
        obtain ⟨g1, g2⟩ := pool_upd (T := T) (j1 := i1) (j2 := i2) (j3 := i3) (j4 := i4 + 1) hp hs hl h1 h2
        have hp : (upd H1 p (.lst [.ref s, .int i1, .int i2, .int i3, .int (i4 + 1)])) p = some (.lst [.ref s, .int i1, .int i2, .int i3, .int (i4 + 1)]) := upd_same
        refine ⟨_, rfl, p, _, _, _, rfl, rfl, SqL.of hp, at_of (j := 3) rfl rfl, _, _, rfl, rfl, .inr ⟨by decide, by decide⟩, _, rfl, p, _, _, _, rfl, rfl, SqL.of hp, at_of (j := 4) rfl rfl, _, _, rfl, rfl, .inr ⟨by decide, by decide⟩, _, _, rfl, rfl, _, _, rfl, rfl, .inl ⟨_, rfl, _, _, rfl, rfl, (by show (0 : Int) < 2147483647; decide), ?_⟩⟩
        have b1 : ∀ z : Int, 0 ≤ z % 2147483647 ∧ z % 2147483647 < 2147483647 := fun z => ⟨Int.emod_nonneg _ (by decide), Int.emod_lt_of_pos _ (by decide)⟩
        refine ⟨_, rfl, _, rfl, _, _, rfl, rfl, .inl ⟨?_, ?_⟩, _, rfl, p, _, _, _, rfl, rfl, SqL.of hp, at_of (j := 4) rfl rfl, _, _, rfl, rfl, .inr ⟨by decide, by decide⟩, _, _, rfl, rfl, .inl ⟨_, rfl, _, _, rfl, rfl, (by show (0 : Int) < 2147483399; decide), ?_⟩⟩
        · have := (b1 (i3 * 48271 + (i4 + 1) * 69621 + 7919)).1; omega
        · have := (b1 (i3 * 48271 + (i4 + 1) * 69621 + 7919)).2; omega
        exact ⟨_, rfl, .inl ⟨_, rfl, _, rfl, _, _, rfl, rfl, hm0, k _ _ (hmod _).1 (hmod _).2 g1 (e1.trans g2)⟩⟩
theorem ok__law_pick {f : Addr} {fd : FuncData} (F : Fun K "_law_pick" "_law_pick" s_law_pick f fd) (m_len : mg "len" = none) {f_law_draw : Addr} {fd_law_draw : FuncData} (F_law_draw : Fun K "_law_draw" "_law_draw" s_law_draw f_law_draw fd_law_draw) (G_law_draw : FnOk P w K mg base CX0 1 f_law_draw fd_law_draw ["pool", "many"] (spDraw T)) (b_law_draw : Binds K fd_law_draw ["pool", "many"] []) (g_law_draw : mg "_law_draw" = some (.ref f_law_draw)) : FnOk P w K mg base CX0 2 f fd ["pool", "rows"] (spPick T) := by
  refine F.ok sc_law_pick (fun vs H Q E h => ?_) (fun cdv A outer s H vs Q E hr h => ?_)
  · obtain ⟨p, s, a, xs, rfl, hP, ha, hap, hl1, hl2, k⟩ := h
    rfl
  · obtain ⟨p, s, a, xs, rfl, hP, ha, hap, hl1, hl2, k⟩ := h
    refine ⟨_, (pss_one (ps_ret (pe_ix ix_list (pv 1) (pe_call G_law_draw hr (by rfl) g_law_draw F_law_draw.kp b_law_draw .nil pass0 (pa_cons (pv 0) (pa_cons (pe_callB call_len_seq (by rfl) m_len PySem.boot_len (pa_cons (pv 1) pa_nil)) pa_nil))) (fun _ _ => rfl)))), ?_⟩
    refine ⟨_, rfl, _, rfl, _, rfl, a, xs, rfl, .inl (SqL.of ha), p, s, _, rfl, hP, by omega, by omega, fun r H1 r0 r1 hP1 e1 => ?_⟩
    have hj : r.toNat < xs.length := by omega
    refine ⟨a, xs, r, xs[r.toNat], rfl, rfl, SqL.of (e1.lst hap ha), at_of (j := r.toNat) (by omega) (List.getElem?_eq_getElem hj), ?_⟩
    exact k _ _ (List.getElem_mem hj) hP1 e1
theorem ok__law_cost {f : Addr} {fd : FuncData} (F : Fun K "_law_cost" "_law_cost" s_law_cost f fd) {f_law_draw : Addr} {fd_law_draw : FuncData} (F_law_draw : Fun K "_law_draw" "_law_draw" s_law_draw f_law_draw fd_law_draw) (G_law_draw : FnOk P w K mg base CX0 1 f_law_draw fd_law_draw ["pool", "many"] (spDraw T)) (b_law_draw : Binds K fd_law_draw ["pool", "many"] []) (g_law_draw : mg "_law_draw" = some (.ref f_law_draw)) : FnOk P w K mg base CX0 2 f fd ["pool"] (spCost T) := by
  refine F.ok sc_law_cost (fun vs H Q E h => ?_) (fun cdv A outer s H vs Q E hr h => ?_)
  · obtain ⟨p, s, rfl, hP, k⟩ := h
    rfl
  · obtain ⟨p, s, rfl, hP, k⟩ := h
    refine ⟨_, (pss_cons (ps_set (i := 1) sc_law_cost.nd rfl (Or.inl rfl) (pe_call G_law_draw hr (by rfl) g_law_draw F_law_draw.kp b_law_draw .nil pass0 (pa_cons (pv 0) (pa_cons pe_int pa_nil))))
      (pss_cons (ps_if (pt_cmpR op_eq (pv 1) pe_int (nomark _)) (pss_one (ps_ret (pe_op op_add pe_int (pe_call G_law_draw hr (by rfl) g_law_draw F_law_draw.kp b_law_draw .nil pass0 (pa_cons (pv 0) (pa_cons pe_int pa_nil)))))) pss_nil)
      (pss_cons (ps_if (pt_cmpR op_lt (pv 1) pe_int (nomark _)) (pss_one (ps_ret (pe_ix ix_list (pe_lst (pa_cons pe_int (pa_cons pe_int (pa_cons pe_int (pa_cons pe_int (pa_cons pe_int pa_nil)))))) (pe_call G_law_draw hr (by rfl) g_law_draw F_law_draw.kp b_law_draw .nil pass0 (pa_cons (pv 0) (pa_cons pe_int pa_nil))) (fun _ _ => rfl)))) pss_nil)
      (pss_one (ps_ret (pe_op op_add pe_int (pe_call G_law_draw hr (by rfl) g_law_draw F_law_draw.kp b_law_draw .nil pass0 (pa_cons (pv 0) (pa_cons pe_int pa_nil))))))))), ?_⟩
    refine ⟨_, rfl, p, s, _, rfl, hP, by decide, by decide, fun r H1 r0 r1 hP1 e1 => ?_⟩
    refine ⟨_, rfl, rfl, _, rfl, ?_⟩
    refine ite2 (fun c => ?_) (fun c => ?_)
    · refine ⟨_, rfl, p, s, _, rfl, hP1, by decide, by decide, fun r2 H2 r20 r21 hP2 e2 => ⟨_, _, rfl, rfl, ?_⟩⟩
      exact k _ _ (by omega) (by omega) hP2 (e1.trans e2)
    · refine ⟨_, rfl, _, _, rfl, rfl, _, rfl, ?_⟩
      refine ite2 (fun c => ?_) (fun c => ?_)
      · refine ⟨by show 5 ≤ sizeLine; decide, fun l hl => ?_⟩
        have hlp : p ≠ l := fun z => by obtain ⟨_, _, _, _, _, q, _⟩ := hP1; rw [z, hl] at q; cases q
        refine ⟨_, rfl, p, s, _, rfl, hP1.keep (T := T) (Ext.new hl), by decide, by decide, fun r2 H2 r20 r21 hP2 e2 => ?_⟩
        have hl2 : H2 l = some (.lst [.int 1, .int 2, .int 2, .int 3, .int 4]) := e2.lst (fun z => hlp z.symm) upd_same
        obtain ⟨j, rfl⟩ : ∃ j : Nat, r2 = (j : Int) := ⟨r2.toNat, by omega⟩
        have done : ∀ z : Int, 1 ≤ z → z ≤ 10000 → ([.int 1, .int 2, .int 2, .int 3, .int 4] : List V)[j]? = some (.int z) → tRet (tOp (rIxL K) (tC (.ref l)) (tC (.int (j : Int)))) { nx := fun _ H' => Q .non H', rt := Q } [] H2 := fun z z1 z2 e => ⟨l, _, _, _, rfl, rfl, SqL.of hl2, at_of rfl e, k _ _ z1 z2 hP2 ((e1.trans (Ext.new hl)).trans e2)⟩
        have hj : j < 5 := by omega
        match j, hj with
        | 0, _ => exact done 1 (by decide) (by decide) rfl
        | 1, _ => exact done 2 (by decide) (by decide) rfl
        | 2, _ => exact done 2 (by decide) (by decide) rfl
        | 3, _ => exact done 3 (by decide) (by decide) rfl
        | 4, _ => exact done 4 (by decide) (by decide) rfl
      · refine ⟨_, rfl, p, s, _, rfl, hP1, by decide, by decide, fun r2 H2 r20 r21 hP2 e2 => ⟨_, _, rfl, rfl, ?_⟩⟩
        exact k _ _ (by omega) (by omega) hP2 (e1.trans e2)
end
end Mw

set_option Elab.async false
set_option linter.all false
set_option maxRecDepth 100000
set_option maxHeartbeats 4000000
namespace Mw
open PySem PySem.Spec PyProof.Rows L2 GE
/-! ### nets -/
abbrev Wy := Nat × Nat × Nat
def wayD (w : Wy) : D := .t [.i w.1, .i w.2.1, .i w.2.2]
def netD (n : Nat) (ws : List Wy) : D := .t [.i n, .t (ws.map wayD)]
def chD (cs : List Nat) : D := .t (cs.map fun (c : Nat) => D.i (c : Int))
def WayOk (n : Nat) (w : Wy) : Prop := w.1 < w.2.1 ∧ w.2.1 < n ∧ 1 ≤ w.2.2 ∧ w.2.2 ≤ 10000
structure Wf (n : Nat) (ws : List Wy) : Prop where
  n1 : 1 ≤ n
  n12 : n ≤ 12
  ln : ws.length ≤ 24
  ok : ∀ w ∈ ws, WayOk n w
structure Ch (m : Nat) (cs : List Nat) : Prop where
  lt : ∀ c ∈ cs, c < m
  asc : cs.Pairwise (· < ·)
theorem Ch.len {m : Nat} {cs : List Nat} (h : Ch m cs) : cs.length ≤ m := by
  have key : ∀ (cs : List Nat) (lo m : Nat), cs.Pairwise (· < ·) → (∀ c ∈ cs, lo ≤ c ∧ c < m) → cs.length ≤ m - lo := by
    intro cs
    induction cs with
    | nil => intro lo m _ _; exact Nat.zero_le _
    | cons c r ih =>
      intro lo m hp hb
      have h1 := hb c List.mem_cons_self
      obtain ⟨h2, h3⟩ := List.pairwise_cons.mp hp
      have := ih (c + 1) m h3 fun x hx => ⟨h2 x hx, (hb x (List.mem_cons_of_mem _ hx)).2⟩
      rw [List.length_cons]; omega
  have := key cs 0 m h.asc fun c hc => ⟨Nat.zero_le _, h.lt c hc⟩
  omega
def spWay (T : List Addr) : Sp := fun vs H Q _ => ∃ (p s : Addr) (n : Nat), vs = [.ref p, .int n] ∧ PoolAt H p s ∧ 2 ≤ n ∧ n ≤ 1000 ∧ ∀ v w H', WayOk n w → Rp H' (wayD w) v → PoolAt H' p s → Ext T (atP p) H H' → Q v H'
def spNet (T : List Addr) : Sp := fun vs H Q _ => ∃ (p s : Addr) (most ways : Int), vs = [.ref p, .int most, .int ways] ∧ PoolAt H p s ∧ 1 ≤ most ∧ most ≤ 12 ∧ 0 ≤ ways ∧ ways ≤ 24 ∧ ∀ v n ws H', Wf n ws → Rp H' (netD n ws) v → PoolAt H' p s → Ext T (atP p) H H' → Q v H'
def spChoice (T : List Addr) : Sp := fun vs H Q _ => ∃ (p s : Addr) (v : V) (n : Nat) (ws : List Wy), vs = [.ref p, v] ∧ PoolAt H p s ∧ Wf n ws ∧ Rp H (netD n ws) v ∧ ∀ u cs H', Ch ws.length cs → Rp H' (chD cs) u → PoolAt H' p s → Ext T (atP p) H H' → Q u H'
theorem rp_way {H : Hp} {a : Addr} {x y z : Nat} (h : H a = some (.tup [.int x, .int y, .int z])) : Rp H (wayD (x, y, z)) (.ref a) := rp_t h (rpl_cons (rp_i _) (rpl_cons (rp_i _) (rpl_cons (rp_i _) rpl_nil)))
theorem way_at {H : Hp} {w : Wy} {v : V} (h : Rp H (wayD w) v) : ∃ a, v = .ref a ∧ H a = some (.tup [.int w.1, .int w.2.1, .int w.2.2]) := by
  obtain ⟨a, vs, rfl, h1, h2⟩ := h.t
  exact ⟨a, rfl, by rw [h1, RpL.ints (ns := [w.1, w.2.1, w.2.2]) h2]; rfl⟩
theorem net_at {H : Hp} {n : Nat} {ws : List Wy} {v : V} (h : Rp H (netD n ws) v) : ∃ a b vs, v = .ref a ∧ H a = some (.tup [.int n, .ref b]) ∧ H b = some (.tup vs) ∧ RpL H (ws.map wayD) vs := by
  obtain ⟨a, us, rfl, h1, h2⟩ := h.t
  obtain ⟨u1, r1, rfl, g1, h3⟩ := h2.cons
  obtain ⟨u2, r2, rfl, g2, h4⟩ := h3.cons
  rw [h4.nil, g1.i] at h1
  obtain ⟨b, vs, rfl, k1, k2⟩ := g2.t
  exact ⟨a, b, vs, rfl, h1, k1, k2⟩
theorem rp_net {H : Hp} {n : Nat} {ws : List Wy} {a b : Addr} {vs : List V} (h1 : H a = some (.tup [.int n, .ref b])) (h2 : H b = some (.tup vs)) (h3 : RpL H (ws.map wayD) vs) : Rp H (netD n ws) (.ref a) :=
  rp_t h1 (rpl_cons (rp_i _) (rpl_cons (rp_t h2 h3) rpl_nil))
theorem ch_at {H : Hp} {cs : List Nat} {v : V} (h : Rp H (chD cs) v) : ∃ a, v = .ref a ∧ H a = some (.tup (cs.map fun (c : Nat) => V.int (c : Int))) := by
  obtain ⟨a, us, rfl, h1, h2⟩ := h.t
  refine ⟨a, rfl, ?_⟩
  have e : us = (cs.map fun c : Nat => (c : Int)).map V.int := RpL.ints (H := H) (by rw [List.map_map]; exact h2)
  rw [h1, e, List.map_map]; rfl
theorem rp_ch {H : Hp} {cs : List Nat} {a : Addr} (h : H a = some (.tup (cs.map fun (c : Nat) => V.int (c : Int)))) : Rp H (chD cs) (.ref a) := by
  refine rp_t h ?_
  have e := rpl_ints (H := H) (cs.map fun c : Nat => (c : Int))
  rw [List.map_map, List.map_map] at e
  exact e
theorem ne_of_pool {H : Hp} {p s l : Addr} (h : PoolAt H p s) (e : H l = none) : p ≠ l := fun z => (h.ne e).1 z.symm
theorem nat_of {r : Int} (h : 0 ≤ r) : ∃ j : Nat, r = (j : Int) := ⟨r.toNat, by omega⟩
section
variable {P : Program} {w : World} {K : PySem.W.Frag} {mg : Str → Option Value} {base : Heap} {T : List Addr}
theorem ok__law_way {f : Addr} {fd : FuncData} (F : Fun K "_law_way" "_law_way" s_law_way f fd) {f_law_draw : Addr} {fd_law_draw : FuncData} (F_law_draw : Fun K "_law_draw" "_law_draw" s_law_draw f_law_draw fd_law_draw) (G_law_draw : FnOk P w K mg base CX0 2 f_law_draw fd_law_draw ["pool", "many"] (spDraw T)) (b_law_draw : Binds K fd_law_draw ["pool", "many"] []) (g_law_draw : mg "_law_draw" = some (.ref f_law_draw)) {f_law_cost : Addr} {fd_law_cost : FuncData} (F_law_cost : Fun K "_law_cost" "_law_cost" s_law_cost f_law_cost fd_law_cost) (G_law_cost : FnOk P w K mg base CX0 2 f_law_cost fd_law_cost ["pool"] (spCost T)) (b_law_cost : Binds K fd_law_cost ["pool"] []) (g_law_cost : mg "_law_cost" = some (.ref f_law_cost)) : FnOk P w K mg base CX0 3 f fd ["pool", "places"] (spWay T) := by
  refine F.ok sc_law_way (fun vs H Q E h => ?_) (fun cdv A outer s H vs Q E hr h => ?_)
  · obtain ⟨p, s, n, rfl, hP, h2, h1000, k⟩ := h
    rfl
  · obtain ⟨p, s, n, rfl, hP, h2, h1000, k⟩ := h
    refine ⟨_, (pss_cons (ps_set (i := 2) sc_law_way.nd rfl (Or.inl rfl) (pe_call G_law_draw hr (by rfl) g_law_draw F_law_draw.kp b_law_draw .nil pass0 (pa_cons (pv 0) (pa_cons (pe_op op_sub (pv 1) pe_int) pa_nil))))
      (pss_one (ps_ret (pe_tup (pa_cons (pv 2) (pa_cons (pe_op op_add (pe_op op_add (pv 2) pe_int) (pe_call G_law_draw hr (by rfl) g_law_draw F_law_draw.kp b_law_draw .nil pass0 (pa_cons (pv 0) (pa_cons (pe_op op_sub (pe_op op_sub (pv 1) pe_int) (pv 2)) pa_nil)))) (pa_cons (pe_call G_law_cost hr (by rfl) g_law_cost F_law_cost.kp b_law_cost .nil pass0 (pa_cons (pv 0) pa_nil)) pa_nil))))))), ?_⟩
    refine ⟨_, rfl, _, rfl, _, _, rfl, rfl, p, s, _, rfl, hP, by omega, by omega, fun r H1 r0 r1 hP1 e1 => ?_⟩
    obtain ⟨a, rfl⟩ := nat_of r0
    refine ⟨_, rfl, _, rfl, _, _, rfl, rfl, _, rfl, _, rfl, _, _, rfl, rfl, _, rfl, _, _, rfl, rfl, p, s, _, rfl, hP1, by omega, by omega, fun r2 H2 r20 r21 hP2 e2 => ?_⟩
    obtain ⟨b, rfl⟩ := nat_of r20
    refine ⟨_, _, rfl, rfl, _, rfl, p, s, rfl, hP2, fun c H3 c0 c1 hP3 e3 => ?_⟩
    obtain ⟨cc, rfl⟩ := nat_of (show 0 ≤ c by omega)
    refine ⟨by show 3 ≤ sizeLine; decide, fun t ht => ?_⟩
    refine k (.ref t) (a, a + 1 + b, cc) _ ⟨by show a < a + 1 + b; omega, by show a + 1 + b < n; omega, by show 1 ≤ cc; omega, by show cc ≤ 10000; omega⟩ (rp_way (by rw [upd_same]; push_cast; rfl)) (hP3.keep (T := T) (Ext.new ht)) (((e1.trans e2).trans e3).trans (Ext.new ht))
/-- the list that is filled with ways -/
def FillAt (H0 H : Hp) (T : List Addr) (p s l : Addr) (n m : Nat) : Prop := ∃ (ws : List Wy) (vs : List V), PoolAt H p s ∧ Ext T (atP p) H0 H ∧ H l = some (.lst vs) ∧ RpL H (ws.map wayD) vs ∧ ws.length ≤ m ∧ ∀ w ∈ ws, WayOk n w
theorem FillAt.draw {H0 H H' : Hp} {p s l : Addr} {n m : Nat} (f : FillAt H0 H T p s l n m) (hl : l ≠ p) (hP : PoolAt H' p s) (e : Ext T (atP p) H H') : FillAt H0 H' T p s l n m := by
  obtain ⟨ws, vs, hP0, e0, hv, r, hm, ok⟩ := f
  exact ⟨ws, vs, hP, e0.trans e, e.lst hl hv, RpL.p r hP0 e, hm, ok⟩
theorem FillAt.pool {H0 H : Hp} {p s l : Addr} {n m : Nat} (f : FillAt H0 H T p s l n m) : PoolAt H p s := by
  obtain ⟨ws, vs, hP0, _⟩ := f
  exact hP0
theorem FillAt.lst {H0 H : Hp} {p s l : Addr} {n m : Nat} (f : FillAt H0 H T p s l n m) : ∃ vs, H l = some (.lst vs) := by
  obtain ⟨ws, vs, hP0, e0, hv, _⟩ := f
  exact ⟨vs, hv⟩
theorem cutTo (xs : List V) (j : Nat) : cutV xs none (some (j : Int)) = xs.take j := by
  unfold cutV
  rw [HT.sIx_none, HT.sIx_nat]
  show List.take (min j xs.length - 0) (xs.drop 0) = _
  rw [List.drop_zero, Nat.sub_zero]
  by_cases h : j ≤ xs.length
  · rw [Nat.min_eq_left h]
  · rw [Nat.min_eq_right (by omega), List.take_of_length_le (Nat.le_refl _), List.take_of_length_le (by omega)]
theorem minI (a b : Int) : (if b < a then b else a) ≤ a ∧ (if b < a then b else a) ≤ b := by split <;> omega
theorem ok__law_net {f : Addr} {fd : FuncData} (F : Fun K "_law_net" "_law_net" s_law_net f fd) (m_range : mg "range" = none) (m_tuple : mg "tuple" = none) (m_min : mg "min" = none) (m_len : mg "len" = none) {f_law_draw : Addr} {fd_law_draw : FuncData} (F_law_draw : Fun K "_law_draw" "_law_draw" s_law_draw f_law_draw fd_law_draw) (G_law_draw : FnOk P w K mg base CX0 3 f_law_draw fd_law_draw ["pool", "many"] (spDraw T)) (b_law_draw : Binds K fd_law_draw ["pool", "many"] []) (g_law_draw : mg "_law_draw" = some (.ref f_law_draw)) {f_law_way : Addr} {fd_law_way : FuncData} (F_law_way : Fun K "_law_way" "_law_way" s_law_way f_law_way fd_law_way) (G_law_way : FnOk P w K mg base CX0 3 f_law_way fd_law_way ["pool", "places"] (spWay T)) (b_law_way : Binds K fd_law_way ["pool", "places"] []) (g_law_way : mg "_law_way" = some (.ref f_law_way)) {f_law_cost : Addr} {fd_law_cost : FuncData} (F_law_cost : Fun K "_law_cost" "_law_cost" s_law_cost f_law_cost fd_law_cost) (G_law_cost : FnOk P w K mg base CX0 3 f_law_cost fd_law_cost ["pool"] (spCost T)) (b_law_cost : Binds K fd_law_cost ["pool"] []) (g_law_cost : mg "_law_cost" = some (.ref f_law_cost)) : FnOk P w K mg base CX0 4 f fd ["pool", "most", "ways"] (spNet T) := by
  refine F.ok sc_law_net (fun vs H Q E h => ?_) (fun cdv A outer s H vs Q E hr h => ?_)
  · obtain ⟨p, s, most, ways, rfl, hP, hm1, hm2, hw1, hw2, k⟩ := h
    rfl
  · obtain ⟨p, s, most, ways, rfl, hP, hm1, hm2, hw1, hw2, k⟩ := h
    refine ⟨_, (pss_cons (ps_set (i := 3) sc_law_net.nd rfl (Or.inl rfl) (pe_op op_add pe_int (pe_call G_law_draw hr (by rfl) g_law_draw F_law_draw.kp b_law_draw .nil pass0 (pa_cons (pv 0) (pa_cons (pv 1) pa_nil)))))
      (pss_cons (ps_set (i := 4) sc_law_net.nd rfl (Or.inl rfl) (pe_lst pa_nil))
      (Evl.pss_cut (ps_if (PW.pt (pw_and (pt_cmpR op_gt (pv 3) pe_int (nomark _)) (pw_and1 (pt_cmpR op_gt (pe_call G_law_draw hr (by rfl) g_law_draw F_law_draw.kp b_law_draw .nil pass0 (pa_cons (pv 0) (pa_cons pe_int pa_nil))) pe_int (nomark _))))) (pss_one (ps_for PassesOwn.never rfl (pi_range2 (by rfl) m_range (pa_cons pe_int (pa_cons (pv 3) pa_nil))) (pg_name (i := 5) sc_law_net.nd rfl (Or.inl rfl)) (pss_one (ps_expr (pe_bm PySem.F.plainAttrs_list PySem.F.slot_list_append PySem.F.type_list_append mt_append (pv 4) (pa_cons (pe_tup (pa_cons (pe_call G_law_draw hr (by rfl) g_law_draw F_law_draw.kp b_law_draw .nil pass0 (pa_cons (pv 0) (pa_cons (pv 5) pa_nil))) (pa_cons (pv 5) (pa_cons (pe_call G_law_cost hr (by rfl) g_law_cost F_law_cost.kp b_law_cost .nil pass0 (pa_cons (pv 0) pa_nil)) pa_nil)))) pa_nil)))))) pss_nil)
      (Evl.pss_cut (ps_if (pt_cmpR op_gt (pv 3) pe_int (nomark _)) (pss_one (ps_for PassesOwn.never rfl (pi_range1 (by rfl) m_range (pa_cons (pe_call G_law_draw hr (by rfl) g_law_draw F_law_draw.kp b_law_draw .nil pass0 (pa_cons (pv 0) (pa_cons (pe_op op_sub (pe_op op_add (pv 2) pe_int) (pe_callB (call_min2 rfl) (by rfl) m_min (by decide +kernel) (pa_cons (pv 2) (pa_cons (pe_callB call_len_seq (by rfl) m_len PySem.boot_len (pa_cons (pv 4) pa_nil)) pa_nil)))) pa_nil))) pa_nil)) (pg_name (i := 6) sc_law_net.nd rfl (Or.inl rfl)) (pss_one (ps_expr (pe_bm PySem.F.plainAttrs_list PySem.F.slot_list_insert PySem.F.type_list_insert mt_insert (pv 4) (pa_cons (pe_call G_law_draw hr (by rfl) g_law_draw F_law_draw.kp b_law_draw .nil pass0 (pa_cons (pv 0) (pa_cons (pe_op op_add (pe_callB call_len_seq (by rfl) m_len PySem.boot_len (pa_cons (pv 4) pa_nil)) pe_int) pa_nil))) (pa_cons (pe_call G_law_way hr (by rfl) g_law_way F_law_way.kp b_law_way .nil pass0 (pa_cons (pv 0) (pa_cons (pv 3) pa_nil))) pa_nil))))))) pss_nil)
      (pss_one (ps_ret (pe_tup (pa_cons (pv 3) (pa_cons (pe_callTy call_tuple_of (by rfl) m_tuple (by decide +kernel) (pa_cons (pe_slice sl_list (pv 4) po_none (po_some (pv 2))) pa_nil)) pa_nil))))))))), ?_⟩
    refine ⟨_, rfl, _, rfl, p, s, _, rfl, hP, by omega, by omega, fun r H1 r0 r1 hP1 e1 => ⟨_, _, rfl, rfl, ?_⟩⟩
    obtain ⟨n, hn⟩ : ∃ n : Nat, 1 + r = (n : Int) := ⟨(1 + r).toNat, by omega⟩
    have n1 : 1 ≤ n := by omega
    have n12 : n ≤ 12 := by omega
    dsimp only
    rw [hn]
    refine ⟨by show 0 ≤ sizeLine; decide, fun l hl => ?_⟩
    obtain ⟨hlp, hls⟩ := hP1.ne hl
    have hl0 : H l = none := e1.fr l hl
    have F0 : FillAt H (upd H1 l (.lst [])) T p s l n 0 := ⟨[], [], hP1.upd hlp hls, e1.trans (Ext.new hl), upd_same, rpl_nil, Nat.le_refl _, fun w hw => by simp at hw⟩
    -- the first ways
    refine ⟨fun σ' H' => ∃ y5, σ' = [some (.ref p), some (.int most), some (.int ways), some (.int n), some (.ref l), y5, none] ∧ FillAt H H' T p s l n 11, ?_, ?_⟩
    · refine ⟨_, rfl, _, _, rfl, rfl, _, rfl, ?_⟩
      have F1 : ∀ {m H'}, FillAt H H' T p s l n m → m ≤ 11 → FillAt H H' T p s l n 11 := fun {m H'} ⟨ws, vs, a1, a2, a3, a4, a5, a6⟩ h => ⟨ws, vs, a1, a2, a3, a4, Nat.le_trans a5 h, a6⟩
      refine ite2 (fun c => ?_) (fun c => iteF ⟨none, rfl, F1 F0 (by omega)⟩)
      refine ⟨_, rfl, p, s, _, rfl, F0.pool, by decide, by decide, fun r2 H2 r20 r21 hP2 e2 => ⟨_, _, rfl, rfl, _, rfl, ?_⟩⟩
      have F2 := F0.draw hlp hP2 e2
      refine ite2 (fun c2 => ?_) (fun c2 => ⟨none, rfl, F1 F2 (by omega)⟩)
      have c' : (n : Int) > 1 := of_decide_eq_true c
      refine ⟨_, rfl, 1, n, rfl, ⟨by decide, by decide, by omega, by omega⟩, for_range (lo := 1) (n := ((n : Int) - 1).toNat) (fun i σ' H' => ∃ y5, σ' = [some (.ref p), some (.int most), some (.int ways), some (.int n), some (.ref l), y5, none] ∧ FillAt H H' T p s l n i) ⟨none, rfl, F2⟩ ?_ ?_⟩
      · rintro i σ' H3 hi ⟨y5, rfl, F3⟩
        have hP3 : PoolAt H3 p s := F3.pool
        obtain ⟨vs3, hl3⟩ := F3.lst
        refine ⟨_, rfl, .inl ⟨rfl, _, SqL.of hl3⟩, ?_⟩
        refine ⟨_, rfl, _, rfl, p, s, _, rfl, hP3, by omega, by omega, fun r4 H4 r40 r41 hP4 e4 => ?_⟩
        have F4 := F3.draw hlp hP4 e4
        obtain ⟨a, rfl⟩ := nat_of r40
        refine ⟨_, rfl, _, rfl, p, s, rfl, hP4, fun c5 H5 c0 c1 hP5 e5 => ?_⟩
        obtain ⟨ws, vs, _, e05, hl5, r5, hm5, ok5⟩ := F4.draw hlp hP5 e5
        obtain ⟨cc, rfl⟩ := nat_of (show 0 ≤ c5 by omega)
        refine ⟨by show 3 ≤ sizeLine; decide, fun t ht => ?_⟩
        have htl : l ≠ t := ne_of_none hl5 ht
        have e6 : Ext T (atP p) H5 (upd H5 t (.tup [.int (a : Int), .int (1 + (i : Int)), .int (cc : Int)])) := Ext.new ht
        have hl6 : (upd H5 t (.tup [.int (a : Int), .int (1 + (i : Int)), .int (cc : Int)])) l = some (.lst vs) := by rw [upd_ne htl]; exact hl5
        have hvl : vs.length = ws.length := by rw [r5.len, List.length_map]
        refine ⟨l, vs, _, rfl, rfl, hl6, small1000 (by omega), ?_⟩
        refine ⟨_, rfl, ws ++ [(a, 1 + i, cc)], vs ++ [.ref t], (hP5.keep (T := T) (Ext.new ht)).upd hlp hls, (e05.trans e6).mut (.inl hl0) hl6 ltbl, upd_same, ?_, ?_, ?_⟩
        · rw [List.map_append]
          refine rpl_upd (RpL.snoc (RpL.p r5 hP5 e6) (rp_way ?_)) hl6
          rw [upd_same]; push_cast; rfl
        · rw [List.length_append, List.length_singleton]; omega
        · intro w hw
          rcases List.mem_append.mp hw with h | h
          · exact ok5 w h
          · rw [List.mem_singleton.mp h]
            exact ⟨by show a < 1 + i; omega, by show 1 + i < n; omega, by show 1 ≤ cc; omega, by show cc ≤ 10000; omega⟩
      · rintro σ' H3 ⟨y5, rfl, F3⟩
        exact ⟨_, rfl, F1 F3 (by omega)⟩
    · rintro σ' H2 ⟨y5, rfl, F2⟩
      -- the other ways
      refine ⟨fun σ' H' => ∃ y6, σ' = [some (.ref p), some (.int most), some (.int ways), some (.int n), some (.ref l), y5, y6] ∧ FillAt H H' T p s l n 36, ?_, ?_⟩
      · have F1 : ∀ {m H'}, FillAt H H' T p s l n m → m ≤ 36 → FillAt H H' T p s l n 36 := fun {m H'} ⟨ws, vs, a1, a2, a3, a4, a5, a6⟩ h => ⟨ws, vs, a1, a2, a3, a4, Nat.le_trans a5 h, a6⟩
        refine ⟨_, rfl, _, _, rfl, rfl, _, rfl, ?_⟩
        refine ite2 (fun c => ?_) (fun c => ⟨none, rfl, F1 F2 (by omega)⟩)
        have c' : (n : Int) > 1 := of_decide_eq_true c
        obtain ⟨ws2, vs2, hP2, e02, hl2, r2, hm2', ok2⟩ := _root_.id F2
        have hv2 : vs2.length = ws2.length := by rw [r2.len, List.length_map]
        have mn := minI ways (vs2.length : Int)
        refine ⟨_, rfl, _, rfl, _, _, rfl, rfl, _, rfl, _, rfl, l, _, rfl, .inl (SqL.of hl2), _, _, rfl, _, _, rfl, rfl, p, s, _, rfl, hP2, by omega, by omega, fun r3 H3 r30 r31 hP3 e3 => ?_⟩
        have F3 := F2.draw hlp hP3 e3
        have hb : r3 < 26 := by omega
        refine ⟨r3, rfl, by omega, by omega, for_range (lo := 0) (n := r3.toNat) (fun i σ' H' => ∃ y6, σ' = [some (.ref p), some (.int most), some (.int ways), some (.int n), some (.ref l), y5, y6] ∧ FillAt H H' T p s l n (11 + i)) ⟨none, rfl, F3⟩ ?_ ?_⟩
        · rintro i σ' H4 hi ⟨y6, rfl, F4⟩
          obtain ⟨ws4, vs4, hP4, e04, hl4, r4, hm4, ok4⟩ := _root_.id F4
          have hv4 : vs4.length = ws4.length := by rw [r4.len, List.length_map]
          refine ⟨_, rfl, .inl ⟨rfl, _, SqL.of hl4⟩, ?_⟩
          refine ⟨_, rfl, _, rfl, l, _, rfl, .inl (SqL.of hl4), _, _, rfl, rfl, p, s, _, rfl, hP4, by omega, by omega, fun r5 H5 r50 r51 hP5 e5 => ?_⟩
          have F5 := F4.draw hlp hP5 e5
          have hl5 := e5.lst hlp hl4
          refine ⟨_, rfl, _, rfl, p, s, n, rfl, hP5, by omega, by omega, fun v w H6 hw hv hP6 e6 => ?_⟩
          have r6 := RpL.p (RpL.p r4 hP4 e5) hP5 e6
          have hl6 := e6.lst hlp hl5
          refine ⟨l, vs4, r5, v, rfl, rfl, hl6, small1000 (by omega), r50, by omega, ?_⟩
          refine ⟨_, rfl, ws4.take r5.toNat ++ [w] ++ ws4.drop r5.toNat, vs4.take r5.toNat ++ [v] ++ vs4.drop r5.toNat, hP6.upd hlp hls, ((e04.trans e5).trans e6).mut (.inl hl0) hl6 ltbl, upd_same, ?_, ?_, ?_⟩
          · rw [List.map_append, List.map_append, List.map_take, List.map_drop]
            exact rpl_upd (((r6.take _).append (rpl_cons hv rpl_nil)).append (r6.drop _)) hl6
          · have := List.length_take_le r5.toNat ws4
            rw [List.length_append, List.length_append, List.length_take, List.length_drop, List.length_singleton]; omega
          · intro x hx
            rcases List.mem_append.mp hx with h | h
            · rcases List.mem_append.mp h with h | h
              · exact ok4 x (List.mem_of_mem_take h)
              · rw [List.mem_singleton.mp h]; exact hw
            · exact ok4 x (List.mem_of_mem_drop h)
        · rintro σ' H4 ⟨y6, rfl, F4⟩
          exact ⟨_, rfl, F1 F4 (by omega)⟩
      · rintro σ' H3 ⟨y6, rfl, ws, vs, hP3, e03, hl3, r3, hm3, ok3⟩
        refine ⟨_, rfl, _, rfl, _, rfl, ways, rfl, l, vs, rfl, SqL.of hl3, fun q hq => ?_⟩
        obtain ⟨j, rfl⟩ := nat_of hw1
        rw [cutTo]
        refine ⟨q, _, rfl, .inl ⟨SqL.of upd_same, fun t ht => ?_⟩⟩
        refine ⟨by show 2 ≤ sizeLine; decide, fun u hu => ?_⟩
        have eq1 : Ext T noM H3 (upd H3 q (.lst (vs.take j))) := Ext.new hq
        have eq2 : Ext T noM (upd H3 q (.lst (vs.take j))) (upd (upd H3 q (.lst (vs.take j))) t (.tup (vs.take j))) := Ext.new ht
        have eq3 : Ext T noM (upd (upd H3 q (.lst (vs.take j))) t (.tup (vs.take j))) (upd (upd (upd H3 q (.lst (vs.take j))) t (.tup (vs.take j))) u (.tup [.int (n : Int), .ref t])) := Ext.new hu
        have e123 := (eq1.trans eq2).trans eq3
        have htu : t ≠ u := fun z => by rw [← z, upd_same] at hu; cases hu
        refine k (.ref u) n (ws.take j) _ ⟨n1, n12, ?_, fun x hx => ok3 x (List.mem_of_mem_take hx)⟩ (rp_net (b := t) (vs := vs.take j) upd_same (by rw [upd_ne htu, upd_same]) ?_) (hP3.keep e123) (e03.trans e123.weak)
        · have := List.length_take_le j ws
          omega
        · rw [List.map_take]
          exact (RpL.x e123 r3).take j
end
end Mw

set_option linter.all false
namespace Mw
/-- connected by the edges -/
inductive Cn (es : List (Nat × Nat)) : Nat → Nat → Prop where
  | refl (x : Nat) : Cn es x x
  | fwd {x a b : Nat} : Cn es x a → (a, b) ∈ es → Cn es x b
  | bwd {x a b : Nat} : Cn es x b → (a, b) ∈ es → Cn es x a
namespace Cn
variable {es fs : List (Nat × Nat)}
theorem trans {x y z : Nat} (h : Cn es x y) (g : Cn es y z) : Cn es x z := by
  induction g with
  | refl => exact h
  | fwd _ he ih => exact ih.fwd he
  | bwd _ he ih => exact ih.bwd he
theorem symm {x y : Nat} (h : Cn es x y) : Cn es y x := by
  induction h with
  | refl => exact .refl _
  | fwd _ he ih => exact (Cn.bwd (.refl _) he).trans ih
  | bwd _ he ih => exact (Cn.fwd (.refl _) he).trans ih
theorem mono (hs : ∀ e ∈ es, e ∈ fs) {x y : Nat} (h : Cn es x y) : Cn fs x y := by
  induction h with
  | refl => exact .refl _
  | fwd _ he ih => exact ih.fwd (hs _ he)
  | bwd _ he ih => exact ih.bwd (hs _ he)
theorem inv {x y : Nat} (h : Cn es x y) {P : Nat → Prop} (hP : ∀ e ∈ es, P e.1 ↔ P e.2) : P x ↔ P y := by
  induction h with
  | refl => exact Iff.rfl
  | fwd _ he ih => exact ih.trans (hP _ he)
  | bwd _ he ih => exact ih.trans (hP _ he).symm
theorem nil {x y : Nat} (h : Cn [] x y) : x = y := by
  induction h with
  | refl => rfl
  | fwd _ he _ => cases he
  | bwd _ he _ => cases he
end Cn

/-- h tells of each place below n the first place of its group -/
structure Hom (n : Nat) (es : List (Nat × Nat)) (h : Nat → Nat) : Prop where
  le : ∀ x, x < n → h x ≤ x
  idem : ∀ x, x < n → h (h x) = h x
  iff : ∀ x y, x < n → y < n → (h x = h y ↔ Cn es x y)
  bd : ∀ e ∈ es, e.1 < n ∧ e.2 < n
theorem Hom.start (n : Nat) : Hom n [] (fun x => x) := ⟨fun _ _ => Nat.le_refl _, fun _ _ => rfl, fun x y _ _ => ⟨fun e => by rw [show x = y from e]; exact .refl _, fun h => h.nil⟩, fun e he => by cases he⟩
def relab (h : Nat → Nat) (a b : Nat) : Nat → Nat := fun x => if h x = max (h a) (h b) then min (h a) (h b) else h x
theorem Hom.step {n : Nat} {es : List (Nat × Nat)} {h : Nat → Nat} (H : Hom n es h) {a b : Nat} (ha : a < n) (hb : b < n) : Hom n (es ++ [(a, b)]) (relab h a b) := by
  have la := H.le a ha
  have lb := H.le b hb
  have ia := H.idem a ha
  have ib := H.idem b hb
  have ilow : h (min (h a) (h b)) = min (h a) (h b) := by
    rcases Nat.le_total (h a) (h b) with q | q
    · rw [Nat.min_eq_left q]; exact ia
    · rw [Nat.min_eq_right q]; exact ib
  have lowhigh : min (h a) (h b) ≤ max (h a) (h b) := by omega
  refine ⟨fun x hx => ?_, fun x hx => ?_, fun x y hx hy => ⟨fun e => ?_, fun c => ?_⟩, fun e he => ?_⟩
  · unfold relab
    have := H.le x hx
    split <;> omega
  · by_cases hxm : h x = max (h a) (h b)
    · have e1 : relab h a b x = min (h a) (h b) := if_pos hxm
      rw [e1]
      unfold relab
      rw [ilow]; split <;> rfl
    · have e1 : relab h a b x = h x := if_neg hxm
      rw [e1]
      unfold relab
      rw [H.idem x hx, if_neg hxm]
  · -- the same label: connected
    have up : ∀ {u v : Nat}, Cn es u v → Cn (es ++ [(a, b)]) u v := fun c => c.mono fun e he => List.mem_append_left _ he
    have ab : Cn (es ++ [(a, b)]) a b := .fwd (.refl _) (List.mem_append_right _ (List.mem_singleton.mpr rfl))
    have toHigh : ∀ {u : Nat}, u < n → h u = max (h a) (h b) → Cn (es ++ [(a, b)]) u a := fun {u} hu e => by
      rcases Nat.le_total (h a) (h b) with q | q
      · rw [Nat.max_eq_right q] at e
        exact (up ((H.iff u b hu hb).mp e)).trans ab.symm
      · rw [Nat.max_eq_left q] at e
        exact up ((H.iff u a hu ha).mp e)
    have toLow : ∀ {u : Nat}, u < n → h u = min (h a) (h b) → Cn (es ++ [(a, b)]) u a := fun {u} hu e => by
      rcases Nat.le_total (h a) (h b) with q | q
      · rw [Nat.min_eq_left q] at e
        exact up ((H.iff u a hu ha).mp e)
      · rw [Nat.min_eq_right q] at e
        exact (up ((H.iff u b hu hb).mp e)).trans ab.symm
    unfold relab at e
    by_cases hx1 : h x = max (h a) (h b)
    · rw [if_pos hx1] at e
      by_cases hy1 : h y = max (h a) (h b)
      · exact (toHigh hx hx1).trans (toHigh hy hy1).symm
      · rw [if_neg hy1] at e
        exact (toHigh hx hx1).trans (toLow hy e.symm).symm
    · rw [if_neg hx1] at e
      by_cases hy1 : h y = max (h a) (h b)
      · rw [if_pos hy1] at e
        exact (toLow hx e).trans (toHigh hy hy1).symm
      · rw [if_neg hy1] at e
        exact up ((H.iff x y hx hy).mp e)
  · -- connected: the same label
    have eab : relab h a b a = relab h a b b := by
      unfold relab
      rcases Nat.le_total (h a) (h b) with q | q
      · rw [Nat.max_eq_right q, Nat.min_eq_left q, if_pos rfl]
        split <;> rfl
      · rw [Nat.max_eq_left q, Nat.min_eq_right q, if_pos rfl]
        split <;> rfl
    have inv := c.inv (P := fun z => relab h a b x = relab h a b z) fun e he => by
      have ee : relab h a b e.1 = relab h a b e.2 := by
        rcases List.mem_append.mp he with q | q
        · have hb' := H.bd e q
          have := (H.iff e.1 e.2 hb'.1 hb'.2).mpr (.fwd (.refl _) q)
          unfold relab; rw [this]
        · rw [List.mem_singleton.mp q]; exact eab
      rw [ee]
    exact inv.mp rfl
  · rcases List.mem_append.mp he with q | q
    · exact H.bd e q
    · rw [List.mem_singleton.mp q]; exact ⟨ha, hb⟩

/-! ### lists of places -/
/-- the group of p -/
def cls (h : Nat → Nat) (n p : Nat) : List Nat := (List.range n).filter fun x => h x == h p
def reps (h : Nat → Nat) (n : Nat) : List Nat := (List.range n).filter fun x => h x == x
def grps (h : Nat → Nat) (n : Nat) : List (List Nat) := (reps h n).map (cls h n)
theorem mem_cls {h : Nat → Nat} {n p x : Nat} : x ∈ cls h n p ↔ x < n ∧ h x = h p := by
  unfold cls; rw [List.mem_filter, List.mem_range, beq_iff_eq]
theorem range_pw (n : Nat) : (List.range n).Pairwise (· < ·) := List.pairwise_lt_range
theorem cls_pw (h : Nat → Nat) (n p : Nat) : (cls h n p).Pairwise (· < ·) := (range_pw n).filter _
theorem sorted_ext : ∀ {l m : List Nat}, l.Pairwise (· < ·) → m.Pairwise (· < ·) → (∀ x, x ∈ l ↔ x ∈ m) → l = m
  | [], [], _, _, _ => rfl
  | [], y :: m, _, _, h => absurd ((h y).mpr List.mem_cons_self) (by simp)
  | x :: l, [], _, _, h => absurd ((h x).mp List.mem_cons_self) (by simp)
  | x :: l, y :: m, hl, hm, h => by
    obtain ⟨hx, hl'⟩ := List.pairwise_cons.mp hl
    obtain ⟨hy, hm'⟩ := List.pairwise_cons.mp hm
    have exy : x = y := by
      rcases List.mem_cons.mp ((h x).mp List.mem_cons_self) with q | q
      · exact q
      · rcases List.mem_cons.mp ((h y).mpr List.mem_cons_self) with q' | q'
        · exact q'.symm
        · have h1 := hy x q
          have h2 := hx y q'
          omega
    subst exy
    rw [sorted_ext hl' hm' fun z => ?_]
    constructor
    · intro hz
      rcases List.mem_cons.mp ((h z).mp (List.mem_cons_of_mem _ hz)) with q | q
      · have := hx z hz; omega
      · exact q
    · intro hz
      rcases List.mem_cons.mp ((h z).mpr (List.mem_cons_of_mem _ hz)) with q | q
      · have := hy z hz; omega
      · exact q
/-- the first of a group -/
theorem cls_head {n : Nat} {es : List (Nat × Nat)} {h : Nat → Nat} (H : Hom n es h) {p : Nat} (hp : p < n) : ∃ r, cls h n p = h p :: r := by
  have hlt : h p < n := Nat.lt_of_le_of_lt (H.le p hp) hp
  have hm : h p ∈ cls h n p := mem_cls.mpr ⟨hlt, H.idem p hp⟩
  cases e : cls h n p with
  | nil => rw [e] at hm; cases hm
  | cons x r =>
    have hx : x ∈ cls h n p := by rw [e]; exact List.mem_cons_self
    obtain ⟨x1, x2⟩ := mem_cls.mp hx
    have pw := cls_pw h n p
    rw [e] at pw hm
    have : h p ≤ x := by rw [← x2]; exact H.le x x1
    rcases List.mem_cons.mp hm with q | q
    · exact ⟨r, by rw [q]⟩
    · have := (List.pairwise_cons.mp pw).1 _ q
      omega
theorem filter_range_succ (f : Nat → Bool) (n : Nat) : (List.range (n + 1)).filter f = (List.range n).filter f ++ if f n then [n] else [] := by
  rw [List.range_succ, List.filter_append]
  congr 1
  cases e : f n with
  | true => rw [List.filter_cons, if_pos e]; rfl
  | false => rw [List.filter_cons, if_neg (by rw [e]; exact Bool.false_ne_true)]; rfl
/-- places found, closed under the edges, all connected with p: the group -/
theorem closed_cls {n : Nat} {es : List (Nat × Nat)} {h : Nat → Nat} (H : Hom n es h) {p : Nat} (hp : p < n) {found l : List Nat} (hmem : p ∈ found) (hc : ∀ x ∈ found, x < n ∧ Cn es p x) (hcl : ∀ e ∈ es, e.1 ∈ found ↔ e.2 ∈ found)
    (hl : l.Pairwise (· < ·)) (hlm : ∀ x, x ∈ l ↔ x ∈ found) : l = cls h n p := by
  refine sorted_ext hl (cls_pw h n p) fun x => (hlm x).trans ⟨fun hx => ?_, fun hx => ?_⟩
  · obtain ⟨h1, h2⟩ := hc x hx
    exact mem_cls.mpr ⟨h1, ((H.iff p x hp h1).mpr h2).symm⟩
  · obtain ⟨h1, h2⟩ := mem_cls.mp hx
    have c := (H.iff p x hp h1).mp h2.symm
    exact (c.inv (P := fun z => z ∈ found) hcl).mp hmem
/-- distinct places below n -/
theorem nodup_le : ∀ {n : Nat} {l : List Nat}, l.Nodup → (∀ x ∈ l, x < n) → l.length ≤ n
  | 0, [], _, _ => Nat.le_refl _
  | 0, x :: l, _, hb => absurd (hb x List.mem_cons_self) (Nat.not_lt_zero _)
  | n + 1, l, hn, hb => by
    by_cases hm : n ∈ l
    · have h1 := nodup_le (n := n) (hn.erase n) fun x hx => by
        have := hn.mem_erase_iff.mp hx
        have := hb x this.2
        omega
      have := List.length_erase_of_mem hm
      have : 0 < l.length := List.length_pos_of_mem hm
      omega
    · have := nodup_le (n := n) hn fun x hx => by
        have := hb x hx
        have : x ≠ n := fun z => hm (z ▸ hx)
        omega
      omega
end Mw

set_option Elab.async false
set_option linter.all false
set_option maxRecDepth 100000
set_option maxHeartbeats 2000000
namespace GE
open PySem PySem.Spec PyProof.Rows L2
/-! ### generator expressions over tuples, lists, the values of a dict: by an invariant -/
section
variable {K : PySem.W.Frag} {a : Addr} {xs : List V} {g : TG} {tt : TT} {te : TE} {vs : List Nat} {σ : L2.St} {Yo : YO} {En : EN} {H : Hp} {J : It}
theorem turn_of (n : Nat) (Pv : Nat → List V → Hp → Prop) (h0 : Pv 0 [] H)
    (hd : ∀ ys H, Pv n ys H → J.stop n H ∧ En ys H)
    (hg : ∀ i ys H, i < n → Pv i ys H → J.go i H)
    (hs : ∀ i x ys H H1, i < n → Pv i ys H → J.yld i H x H1 → ∀ N : List V → Hp → Prop, (∀ zs H', Pv (i + 1) zs H' → N zs H') → g x (wipe σ vs) H1 fun σ2 H2 => wipe σ2 vs = wipe σ vs ∧ tt σ2 H2 fun b H3 =>
      if b = true then te σ2 H3 fun y H4 => ys.length < sizeLine ∧ Yo ys y H4 (N (ys ++ [y]) H4) else N ys H3) :
    ∃ W : Nat → Nat → List V → Hp → Prop, (∃ m, W 0 m [] H) ∧ turnX g tt te vs σ Yo En J W := by
  refine ⟨fun i m ys H => m = n - i ∧ i ≤ n ∧ Pv i ys H, ⟨n, rfl, Nat.zero_le _, h0⟩, ?_⟩
  rintro i m ys H ⟨rfl, hi, p⟩
  rcases Nat.lt_or_eq_of_le hi with h | h
  · refine .inr ⟨hg i ys H h p, fun x H1 hy => ?_⟩
    exact hs i x ys H H1 h p hy (fun ys H4 => ∃ m', m' < n - i ∧ m' = n - (i + 1) ∧ i + 1 ≤ n ∧ Pv (i + 1) ys H4) fun zs H' q => ⟨n - (i + 1), by omega, rfl, h, q⟩
  · subst h
    exact .inl (hd ys H p)
theorem turn_tupI (Pv : Nat → List V → Hp → Prop) (h0 : Pv 0 [] H) (hl : ∀ i ys H, i ≤ xs.length → Pv i ys H → SqT K H a xs) (hd : ∀ ys H, Pv xs.length ys H → En ys H)
    (hs : ∀ i x ys H, xs[i]? = some x → Pv i ys H → ∀ N : List V → Hp → Prop, (∀ zs H', Pv (i + 1) zs H' → N zs H') → g x (wipe σ vs) H fun σ2 H2 => wipe σ2 vs = wipe σ vs ∧ tt σ2 H2 fun b H3 =>
      if b = true then te σ2 H3 fun y H4 => ys.length < sizeLine ∧ Yo ys y H4 (N (ys ++ [y]) H4) else N ys H3) :
    ∃ W : Nat → Nat → List V → Hp → Prop, (∃ m, W 0 m [] H) ∧ turnX g tt te vs σ Yo En (Itt K a) W := by
  refine turn_of xs.length Pv h0 (fun ys H p => ⟨⟨xs, hl _ _ _ (Nat.le_refl _) p, Nat.le_refl _⟩, hd ys H p⟩) (fun i ys H h p => ⟨xs, xs[i], hl _ _ _ (Nat.le_of_lt h) p, List.getElem?_eq_getElem h⟩) ?_
  rintro i x ys H H1 h p ⟨rfl, hy⟩ N hN
  exact hs i x ys H1 (hy xs (hl _ _ _ (Nat.le_of_lt h) p)) p N hN
theorem turn_valsI {d : Addr} {o : Obj} {kvs : List (Key × V)} (Pv : Nat → List V → Hp → Prop) (h0 : Pv 0 [] H) (hl : ∀ i ys H, i ≤ kvs.length → Pv i ys H → H d = some (.frz o (.dK kvs))) (hd : ∀ ys H, Pv kvs.length ys H → En ys H)
    (hs : ∀ i k x ys H, kvs[i]? = some (k, x) → Pv i ys H → ∀ N : List V → Hp → Prop, (∀ zs H', Pv (i + 1) zs H' → N zs H') → g x (wipe σ vs) H fun σ2 H2 => wipe σ2 vs = wipe σ vs ∧ tt σ2 H2 fun b H3 =>
      if b = true then te σ2 H3 fun y H4 => ys.length < sizeLine ∧ Yo ys y H4 (N (ys ++ [y]) H4) else N ys H3) :
    ∃ W : Nat → Nat → List V → Hp → Prop, (∃ m, W 0 m [] H) ∧ turnX g tt te vs σ Yo En (Itd d o kvs) W := by
  refine turn_of kvs.length Pv h0 (fun ys H p => ⟨⟨hl _ _ _ (Nat.le_refl _) p, Nat.le_refl _⟩, hd ys H p⟩) (fun i ys H h p => ⟨hl _ _ _ (Nat.le_of_lt h) p, h⟩) ?_
  rintro i x ys H H1 h p ⟨rfl, k, hk⟩ N hN
  exact hs i k x ys H1 hk p N hN
theorem isum_ints (ns : List Int) : isum (ns.map V.int) = ns.sum := by
  unfold isum; rw [List.map_map]; congr 1
  exact List.map_id'' (fun _ => rfl) ns
theorem tYesI {σ : L2.St} {H : Hp} {A B : Hp → Prop} (h : A H) : tYes σ H fun b H3 => if b = true then A H3 else B H3 := by
  show (if true = true then A H else B H)
  rw [if_pos rfl]; exact h
end
section
variable {X : Cx} {K : PySem.W.Frag}
/-! the same rules, the fragment named (within a generator's frame) -/
theorem ix_tupK (h : X.K = K := by rfl) : IxR X (rIxT K) := h ▸ ix_tup
theorem ix_listK (h : X.K = K := by rfl) : IxR X (rIxL K) := h ▸ ix_list
theorem in_seqK (h : X.K = K := by rfl) : OpR X (compareOp .In) (rIn K false) := h ▸ op_in_seq
theorem notIn_seqK (h : X.K = K := by rfl) : OpR X (compareOp .NotIn) (rIn K true) := h ▸ op_notIn_seq
theorem call_len_seqK (h : X.K = K := by rfl) : CallR X (.builtin "len") (fun xs H Q => ∃ p ys, xs = [.ref p] ∧ (SqL K H p ys ∨ SqT K H p ys) ∧ Q (.int ys.length) H) := h ▸ call_len_seq
theorem call_tuple_ofK (h : X.K = K := by rfl) : CallR X (.type "tuple") (fun xs H Q => ∃ p ys, xs = [.ref p] ∧ ((SqL K H p ys ∧ ∀ l, H l = none → Q (.ref l) (upd H l (.tup ys))) ∨ (SqT K H p ys ∧ Q (.ref p) H))) := h ▸ call_tuple_of
theorem pg_tupK {es : List Expr} {k : Nat} {pos : Pos} {t : TGs} (n : Nat) (h : PGs X es t) (hK : X.K = K := by rfl) (hc : X.calm = true := by rfl)
    (hn : (assignEach es X.env).length = n := by rfl) (hst : (assignEach es X.env).findIdx? (·.1) = none := by rfl) : PG X (.Tuple es k pos) (gTup K n t) := hK ▸ pg_tup hc h hn hst
theorem pi_or {tg e : Expr} {w1 w2 : TI} (h1 : PI X tg e w1) (h2 : PI X tg e w2) : PI X tg e fun σ H R => w1 σ H R ∨ w2 σ H R :=
  ⟨fun pins s σ H R I h => h.elim (h1.run pins s σ H R I) (h2.run pins s σ H R I)⟩
end
end GE

set_option Elab.async false
set_option linter.all false
set_option maxRecDepth 100000
set_option maxHeartbeats 4000000
namespace Mw
open PySem PySem.Spec PyProof.Rows L2 GE
/-! ### choices -/
def wyAt (ws : List Wy) (c : Nat) : Wy := ws.getD c (0, 0, 0)
def edg (ws : List Wy) (cs : List Nat) : List (Nat × Nat) := cs.map fun c => ((wyAt ws c).1, (wyAt ws c).2.1)
def hom (ws : List Wy) (cs : List Nat) : Nat → Nat := cs.foldl (fun h c => relab h (wyAt ws c).1 (wyAt ws c).2.1) fun x => x
theorem take_succ' {α : Type} {l : List α} {i : Nat} {x : α} (h : l[i]? = some x) : l.take (i + 1) = l.take i ++ [x] := by rw [List.take_add_one, h]; rfl
theorem hom_snoc (ws : List Wy) (cs : List Nat) (c : Nat) : hom ws (cs ++ [c]) = relab (hom ws cs) (wyAt ws c).1 (wyAt ws c).2.1 := by unfold hom; rw [List.foldl_append]; rfl
theorem wy_ok {n : Nat} {ws : List Wy} (W : Wf n ws) {c : Nat} (h : c < ws.length) : ws[c]? = some (wyAt ws c) ∧ WayOk n (wyAt ws c) := by
  have e : ws[c]? = some ws[c] := List.getElem?_eq_getElem h
  have e2 : wyAt ws c = ws[c] := by unfold wyAt; rw [List.getD_eq_getElem?_getD, e]; rfl
  exact ⟨by rw [e2]; exact e, by rw [e2]; exact W.ok _ (List.getElem_mem h)⟩
theorem hom_ok {n : Nat} {ws : List Wy} (W : Wf n ws) : ∀ cs : List Nat, (∀ c ∈ cs, c < ws.length) → Hom n (edg ws cs) (hom ws cs) := by
  have key : ∀ (k : Nat) (cs : List Nat), cs.length = k → (∀ c ∈ cs, c < ws.length) → Hom n (edg ws cs) (hom ws cs) := by
    intro k
    induction k with
    | zero =>
      intro cs hl _
      rw [List.eq_nil_of_length_eq_zero hl]; exact Hom.start n
    | succ k ih =>
      intro cs hl hb
      have hne : cs ≠ [] := fun z => by rw [z] at hl; cases hl
      have e := List.dropLast_concat_getLast hne
      rw [← e]
      have hb1 : ∀ c ∈ cs.dropLast, c < ws.length := fun c hc => hb c (List.dropLast_subset _ hc)
      have hlast := hb _ (List.getLast_mem hne)
      have H1 := ih cs.dropLast (by rw [List.length_dropLast]; omega) hb1
      have ok := (wy_ok W hlast).2
      rw [hom_snoc]
      have e2 : edg ws (cs.dropLast ++ [cs.getLast hne]) = edg ws cs.dropLast ++ [((wyAt ws (cs.getLast hne)).1, (wyAt ws (cs.getLast hne)).2.1)] := by unfold edg; rw [List.map_append]; rfl
      rw [e2]
      exact H1.step (Nat.lt_trans ok.1 ok.2.1) ok.2.1
  exact fun cs => key cs.length cs rfl
theorem hom_lt {n : Nat} {ws : List Wy} (W : Wf n ws) {cs : List Nat} (h : ∀ c ∈ cs, c < ws.length) {x : Nat} (hx : x < n) : hom ws cs x < n := Nat.lt_of_le_of_lt ((hom_ok W cs h).le x hx) hx
/-- the list of first places -/
def hV (n : Nat) (h : Nat → Nat) : List V := (List.range n).map fun x => V.int (h x : Nat)
theorem hV_get {n : Nat} {h : Nat → Nat} {x : Nat} (hx : x < n) : (hV n h)[x]? = some (.int (h x : Nat)) := by
  unfold hV; rw [List.getElem?_map, List.getElem?_range hx]; rfl
theorem hV_len (n : Nat) (h : Nat → Nat) : (hV n h).length = n := by unfold hV; rw [List.length_map, List.length_range]
theorem rg_hV (n : Nat) : rgV 0 (n : Int) = hV n fun x => x := by
  unfold rgV hV
  have : ((n : Int) - 0).toNat = n := by omega
  rw [this]
  exact List.map_congr_left fun x _ => by rw [Int.zero_add]
structure Task (H : Hp) (n : Nat) (ws : List Wy) (cs : List Nat) (net ch : V) : Prop where
  W : Wf n ws
  C : Ch ws.length cs
  net : Rp H (netD n ws) net
  ch : Rp H (chD cs) ch
theorem Task.x {T : List Addr} {H H' : Hp} {n : Nat} {ws : List Wy} {cs : List Nat} {net ch : V} (t : Task H n ws cs net ch) (e : Ext T noM H H') : Task H' n ws cs net ch := ⟨t.W, t.C, Rp.x e t.net, Rp.x e t.ch⟩
def spHomes (T : List Addr) : Sp := fun vs H Q _ => ∃ (net ch : V) (n : Nat) (ws : List Wy) (cs : List Nat), vs = [net, ch] ∧ Task H n ws cs net ch ∧ ∀ l H', H l = none → H' l = some (.lst (hV n (hom ws cs))) → Ext T noM H H' → Q (.ref l) H'
def grpD (h : Nat → Nat) (n : Nat) : D := .t ((grps h n).map fun g => .t (g.map fun (x : Nat) => .i (x : Int)))
def spGroups (T : List Addr) : Sp := fun vs H Q _ => ∃ (net ch : V) (n : Nat) (ws : List Wy) (cs : List Nat), vs = [net, ch] ∧ Task H n ws cs net ch ∧ Wd T H ∧ ∀ v H', Rp H' (grpD (hom ws cs) n) v → Ext T noM H H' → Q v H'
def cost (ws : List Wy) (cs : List Nat) : Int := (cs.map fun c => ((wyAt ws c).2.2 : Int)).sum
def spPrice (T : List Addr) : Sp := fun vs H Q _ => ∃ (net ch : V) (n : Nat) (ws : List Wy) (cs : List Nat), vs = [net, ch] ∧ Task H n ws cs net ch ∧ Wd T H ∧ ∀ H', Ext T noM H H' → Q (.int (cost ws cs)) H'
theorem sum_le : ∀ (l : List Int), (∀ z ∈ l, 0 ≤ z ∧ z ≤ 10000) → 0 ≤ l.sum ∧ l.sum ≤ 10000 * l.length
  | [], _ => by simp
  | z :: r, h => by
    have h1 := h z (List.mem_cons_self ..)
    have h2 := sum_le r fun y hy => h y (List.mem_cons_of_mem _ hy)
    rw [List.sum_cons, List.length_cons]; omega
theorem cost_le {n : Nat} {ws : List Wy} {cs : List Nat} (W : Wf n ws) (C : Ch ws.length cs) (i : Nat) : 0 ≤ cost ws (cs.take i) ∧ cost ws (cs.take i) ≤ 240000 := by
  have hl : (cs.take i).length ≤ 24 := Nat.le_trans (by rw [List.length_take]; exact Nat.min_le_right _ _) (Nat.le_trans C.len W.ln)
  have := sum_le ((cs.take i).map fun c => ((wyAt ws c).2.2 : Int)) fun z hz => by
    obtain ⟨c, hc, rfl⟩ := List.mem_map.mp hz
    have ok := (wy_ok W (C.lt c (List.mem_of_mem_take hc))).2
    unfold WayOk at ok
    omega
  unfold cost
  rw [List.length_map] at this
  omega
theorem way_get {H : Hp} {n : Nat} {ws : List Wy} (W : Wf n ws) {us : List V} (r : RpL H (ws.map wayD) us) {c : Nat} (hc : c < ws.length) : ∃ a, us[c]? = some (.ref a) ∧ H a = some (.tup [.int (wyAt ws c).1, .int (wyAt ws c).2.1, .int (wyAt ws c).2.2]) := by
  obtain ⟨v, h1, h2⟩ := r.get (i := c) (d := wayD (wyAt ws c)) (by rw [List.getElem?_map, (wy_ok W hc).1]; rfl)
  obtain ⟨a, rfl, ha⟩ := way_at h2
  exact ⟨a, h1, ha⟩
theorem minN (a b : Nat) : (if (b : Int) < (a : Int) then (b : Int) else (a : Int)) = ((min a b : Nat) : Int) := by split <;> omega
theorem maxN (a b : Nat) : (if (b : Int) > (a : Int) then (b : Int) else (a : Int)) = ((max a b : Nat) : Int) := by split <;> omega
theorem vint_inj {a b : Nat} : (V.int (a : Int) = V.int (b : Int)) ↔ a = b := ⟨fun h => by injection h with h; omega, fun h => by rw [h]⟩
section
variable {P : Program} {w : World} {K : PySem.W.Frag} {mg : Str → Option Value} {base : Heap} {T : List Addr}
end
end Mw

set_option linter.all false
namespace Mw
/-! ### fractions: u parts of 4096, in lowest terms -/
def frG (u : Int) : Nat := Nat.gcd u.natAbs 4096
def frX (u : Int) : Int := u / (frG u : Int)
def frY (u : Int) : Int := 4096 / (frG u : Int)
theorem frG_pos (u : Int) : 0 < frG u := Nat.gcd_pos_of_pos_right _ (by decide)
theorem frG_dvd (u : Int) : ((frG u : Nat) : Int) ∣ u := Int.ofNat_dvd_left.mpr (Nat.gcd_dvd_left _ _)
theorem frG_dvd2 (u : Int) : ((frG u : Nat) : Int) ∣ 4096 := Int.ofNat_dvd_left.mpr (Nat.gcd_dvd_right _ _)
theorem frX_mul (u : Int) : frX u * (frG u : Int) = u := Int.ediv_mul_cancel (frG_dvd u)
theorem frY_mul (u : Int) : frY u * (frG u : Int) = 4096 := Int.ediv_mul_cancel (frG_dvd2 u)
theorem frG_le (u : Int) : frG u ≤ 4096 := Nat.le_of_dvd (by decide) (Nat.gcd_dvd_right _ _)
theorem pos_of_mul {a g c : Int} (h : a * g = c) (hg : 0 < g) (hc : 0 < c) : 0 < a := by
  rcases Int.lt_or_le 0 a with h1 | h1
  · exact h1
  · have := Int.mul_le_mul_of_nonneg_right h1 (Int.le_of_lt hg); omega
theorem frY_pos (u : Int) : 0 < frY u := pos_of_mul (frY_mul u) (by have := frG_pos u; omega) (by decide)
theorem frY_le (u : Int) : frY u ≤ 4096 := by
  have h1 := frY_mul u
  have h2 := frY_pos u
  have h3 : (1 : Int) ≤ frG u := by have := frG_pos u; omega
  have := Int.mul_le_mul_of_nonneg_left h3 (Int.le_of_lt h2)
  omega
theorem fr_eq (u : Int) : frX u * 4096 = u * frY u := by
  have h1 := frX_mul u
  have h2 := frY_mul u
  rw [← h2, ← Int.mul_assoc, Int.mul_right_comm, h1]
theorem fr_cop (u : Int) : Int.gcd (frX u) (frY u) = 1 := by
  have hg := frG_pos u
  have h1 : Int.gcd (frX u * (frG u : Int)) (frY u * (frG u : Int)) = Int.gcd (frX u) (frY u) * frG u := by
    rw [Int.gcd_mul_right]; rfl
  rw [frX_mul, frY_mul] at h1
  have h2 : Int.gcd u 4096 = frG u := rfl
  rw [h2] at h1
  have : 1 * frG u = Int.gcd (frX u) (frY u) * frG u := by omega
  exact (Nat.eq_of_mul_eq_mul_right hg this).symm
/-- coprime pairs of the same value are the same -/
theorem cop_uniq {x y x' y' : Int} (hy : 0 < y) (hy' : 0 < y') (c : Int.gcd x y = 1) (c' : Int.gcd x' y' = 1) (h : x * y' = x' * y) : x = x' ∧ y = y' := by
  have d1 : y ∣ y' := by
    have : y ∣ x * y' := ⟨x', by rw [h, Int.mul_comm]⟩
    have h2 := Int.natAbs_dvd_natAbs.mpr this
    rw [Int.natAbs_mul] at h2
    exact Int.natAbs_dvd_natAbs.mp (Nat.Coprime.dvd_of_dvd_mul_left (show Nat.Coprime y.natAbs x.natAbs from (Nat.gcd_comm _ _).trans c) h2)
  have d2 : y' ∣ y := by
    have : y' ∣ x' * y := ⟨x, by rw [← h, Int.mul_comm]⟩
    have h2 := Int.natAbs_dvd_natAbs.mpr this
    rw [Int.natAbs_mul] at h2
    exact Int.natAbs_dvd_natAbs.mp (Nat.Coprime.dvd_of_dvd_mul_left (show Nat.Coprime y'.natAbs x'.natAbs from (Nat.gcd_comm _ _).trans c') h2)
  have e : y = y' := Int.le_antisymm (Int.le_of_dvd hy' d1) (Int.le_of_dvd hy d2)
  subst e
  exact ⟨Int.eq_of_mul_eq_mul_right (by omega) h, rfl⟩
/-- lowest terms of t / b -/
theorem fr_red {t b u : Int} (hb : 0 < b) (h : t * 4096 = u * b) : t / ((Nat.gcd t.natAbs b.natAbs : Nat) : Int) = frX u ∧ b / ((Nat.gcd t.natAbs b.natAbs : Nat) : Int) = frY u := by
  have hg : 0 < Nat.gcd t.natAbs b.natAbs := Nat.gcd_pos_of_pos_right _ (by omega)
  have e1 : t / ((Nat.gcd t.natAbs b.natAbs : Nat) : Int) * ((Nat.gcd t.natAbs b.natAbs : Nat) : Int) = t := Int.ediv_mul_cancel (Int.ofNat_dvd_left.mpr (Nat.gcd_dvd_left _ _))
  have e2 : b / ((Nat.gcd t.natAbs b.natAbs : Nat) : Int) * ((Nat.gcd t.natAbs b.natAbs : Nat) : Int) = b := Int.ediv_mul_cancel (Int.ofNat_dvd_left.mpr (Nat.gcd_dvd_right _ _))
  have eg : Int.gcd t b = Nat.gcd t.natAbs b.natAbs := rfl
  generalize Nat.gcd t.natAbs b.natAbs = g at hg e1 e2 eg ⊢
  generalize t / (g : Int) = x at e1 ⊢
  generalize b / (g : Int) = y at e2 ⊢
  have hy : 0 < y := pos_of_mul e2 (by omega) hb
  have c : Int.gcd x y = 1 := by
    have h1 : Int.gcd (x * (g : Int)) (y * (g : Int)) = Int.gcd x y * g := by rw [Int.gcd_mul_right]; rfl
    rw [e1, e2, eg] at h1
    have : 1 * g = Int.gcd x y * g := by omega
    exact (Nat.eq_of_mul_eq_mul_right hg this).symm
  refine cop_uniq hy (frY_pos u) c (fr_cop u) ?_
  -- x * frY u = frX u * y
  have h3 : x * 4096 = u * y := by
    rw [← e1, ← e2] at h
    have : x * 4096 * (g : Int) = u * y * (g : Int) := by
      rw [Int.mul_right_comm, h, Int.mul_assoc]
    exact Int.eq_of_mul_eq_mul_right (by omega) this
  have h4 := fr_eq u
  have : x * frY u * 4096 = frX u * y * 4096 := by
    rw [Int.mul_right_comm, h3, Int.mul_right_comm u, ← h4, Int.mul_right_comm]
  exact Int.eq_of_mul_eq_mul_right (by decide) this
theorem fr_plus (u v : Int) : (frX u * frY v + frX v * frY u) * 4096 = (u + v) * (frY u * frY v) := by
  have h1 := fr_eq u
  have h2 := fr_eq v
  rw [Int.add_mul, Int.add_mul, Int.mul_right_comm, h1, Int.mul_right_comm (frX v), h2, Int.mul_assoc, Int.mul_assoc, Int.mul_comm (frY v) (frY u)]
theorem fr_minus (u v : Int) : (frX u * frY v - frX v * frY u) * 4096 = (u - v) * (frY u * frY v) := by
  have h1 := fr_eq u
  have h2 := fr_eq v
  rw [Int.sub_mul, Int.sub_mul, Int.mul_right_comm, h1, Int.mul_right_comm (frX v), h2, Int.mul_assoc, Int.mul_assoc, Int.mul_comm (frY v) (frY u)]
theorem fr_less (u v : Int) : frX u * frY v < frX v * frY u ↔ u < v := by
  have h1 := fr_eq u
  have h2 := fr_eq v
  have p : 0 < frY u * frY v := Int.mul_pos (frY_pos u) (frY_pos v)
  have e1 : frX u * frY v * 4096 = u * (frY u * frY v) := by rw [Int.mul_right_comm, h1, Int.mul_assoc]
  have e2 : frX v * frY u * 4096 = v * (frY u * frY v) := by rw [Int.mul_right_comm, h2, Int.mul_assoc, Int.mul_comm (frY v)]
  constructor
  · intro h
    have h3 : u * (frY u * frY v) < v * (frY u * frY v) := by omega
    exact Int.lt_of_mul_lt_mul_right h3 (Int.le_of_lt p)
  · intro h
    have := Int.mul_lt_mul_of_pos_right h p
    omega
theorem fr_span {l s w : Int} (hs : l = w * s) : frX l * 4096 = w * (frY l * s) := by
  rw [fr_eq, hs, Int.mul_assoc, Int.mul_comm s]
theorem fr_int (c : Int) : frX (c * 4096) = c ∧ frY (c * 4096) = 1 := by
  have := fr_red (t := c) (b := 1) (u := c * 4096) (by decide) (by rw [Int.mul_one])
  have e : Nat.gcd c.natAbs (1 : Int).natAbs = 1 := Nat.gcd_one_right _
  rw [e] at this
  have e1 : ((1 : Nat) : Int) = 1 := rfl
  rw [e1, Int.ediv_one, Int.ediv_one] at this
  exact ⟨this.1.symm, this.2.symm⟩
theorem fr_pos (u : Int) : 0 < frX u ↔ 0 < u := by
  have h := fr_eq u
  have hy := frY_pos u
  constructor
  · intro p
    have : 0 < u * frY u := by omega
    exact pos_of_mul rfl hy this
  · intro p
    have : 0 < u * frY u := Int.mul_pos p hy
    omega
theorem frX_bd {u : Int} {b : Int} (h1 : -b ≤ u) (h2 : u ≤ b) : -b ≤ frX u ∧ frX u ≤ b := by
  have h := frX_mul u
  have hg : (1 : Int) ≤ frG u := by have := frG_pos u; omega
  rcases Int.lt_or_le (frX u) 0 with p | p
  · have := Int.mul_le_mul_of_nonneg_left hg (show 0 ≤ -frX u by omega)
    have e : -frX u * (frG u : Int) = -u := by rw [Int.neg_mul, h]
    omega
  · have := Int.mul_le_mul_of_nonneg_left hg p
    omega
end Mw

set_option linter.all false
namespace Mw
/-! ### the growth: amounts in parts of 4096 -/
abbrev Wl := List (Nat × Nat × Nat)
def way (ws : Wl) (c : Nat) : Nat × Nat × Nat := ws.getD c (0, 0, 0)
structure Gs where
  h : Nat → Nat
  dep : Nat → Int
  wid : List (List Nat × Int)
  time : Int
  taken : List (Int × Nat)
def lack (ws : Wl) (S : Gs) (c : Nat) : Int := ((way ws c).2.2 : Int) * 4096 - (S.dep (way ws c).1 + S.dep (way ws c).2.1)
def crosses (ws : Wl) (S : Gs) (c : Nat) : Bool := decide (S.h (way ws c).1 ≠ S.h (way ws c).2.1)
def full (ws : Wl) (S : Gs) (c : Nat) : Bool := crosses ws S c && decide (lack ws S c ≤ 0)
def first (ws : Wl) (S : Gs) : Option Nat := (List.range ws.length).find? (full ws S)
def take1 (ws : Wl) (S : Gs) (c : Nat) : Gs := { S with h := relab S.h (way ws c).1 (way ws c).2.1, taken := S.taken ++ [(S.time, c)] }
def takeAll (ws : Wl) : Nat → Gs → Gs
  | 0, S => S
  | k + 1, S => match first ws S with
    | none => S
    | some c => takeAll ws k (take1 ws S c)
def parted (h : Nat → Nat) (r : Nat) (q : Nat × Nat) : Bool := decide (h q.1 = r) != decide (h q.2 = r)
def opens (n : Nat) (ps : List (Nat × Nat)) (h : Nat → Nat) : List Nat := (reps h n).filter fun r => ps.any (parted h r)
def spd (ws : Wl) (S : Gs) (R : List Nat) (c : Nat) : Nat := (if S.h (way ws c).1 ∈ R then 1 else 0) + (if S.h (way ws c).2.1 ∈ R then 1 else 0)
def canW (ws : Wl) (S : Gs) (R : List Nat) : List Nat := (List.range ws.length).filter fun c => crosses ws S c && decide (0 < spd ws S R c)
def cand (ws : Wl) (S : Gs) (R : List Nat) (c : Nat) : Int := lack ws S c / (spd ws S R c : Int)
def less1 : Option Int → Int → Option Int
  | none, x => some x
  | some y, x => if x < y then some x else some y
def least (l : List Int) : Option Int := l.foldl less1 none
def addW : List (List Nat × Int) → List Nat → Int → List (List Nat × Int)
  | [], k, s => [(k, s)]
  | (j, w) :: r, k, s => if j = k then (j, w + s) :: r else (j, w) :: addW r k s
def grow (n : Nat) (S : Gs) (R : List Nat) (s : Int) : Gs :=
  { S with dep := fun p => S.dep p + if S.h p ∈ R then s else 0, wid := R.foldl (fun w r => addW w (cls S.h n r) s) S.wid, time := S.time + s }
def span (ws : Wl) (S : Gs) (R : List Nat) : Int := (least ((canW ws S R).map (cand ws S R))).getD 0
def turn (n : Nat) (ws : Wl) (ps : List (Nat × Nat)) (S : Gs) : Gs := takeAll ws n (grow n S (opens n ps S.h) (span ws S (opens n ps S.h)))
def start : Gs := ⟨fun x => x, fun _ => 0, [], 0, []⟩
/-! ### the least of a list -/
theorem least_some : ∀ (l : List Int) (b : Option Int) (x : Int), l.foldl less1 b = some x → (b = some x ∨ x ∈ l) ∧ (∀ y ∈ l, x ≤ y) ∧ ∀ y, b = some y → x ≤ y
  | [], b, x, h => ⟨.inl h, (fun y hy => nomatch hy), fun y hy => by rw [show b = some x from h] at hy; rw [Option.some.inj hy]; exact Int.le_refl _⟩
  | z :: l, b, x, h => by
    obtain ⟨h1, h2, h3⟩ := least_some l (less1 b z) x h
    have key : ∃ m, less1 b z = some m ∧ m ≤ z ∧ (∀ y, b = some y → m ≤ y) ∧ (b = some m ∨ m = z) := by
      cases b with
      | none => exact ⟨z, rfl, Int.le_refl _, (fun y hy => nomatch hy), .inr rfl⟩
      | some y =>
        by_cases q : z < y
        · exact ⟨z, if_pos q, Int.le_refl _, fun w hw => by have := Option.some.inj hw; omega, .inr rfl⟩
        · exact ⟨y, if_neg q, by omega, fun w hw => by have := Option.some.inj hw; omega, .inl rfl⟩
    obtain ⟨m, e, k1, k2, k3⟩ := key
    have k4 := h3 m e
    refine ⟨?_, fun y hy => ?_, fun y hy => Int.le_trans k4 (k2 y hy)⟩
    · rcases h1 with h1 | h1
      · have em : m = x := Option.some.inj (e.symm.trans h1)
        subst em
        rcases k3 with k3 | k3
        · exact .inl k3
        · exact .inr (by rw [k3]; exact List.mem_cons_self)
      · exact .inr (List.mem_cons_of_mem _ h1)
    · rcases List.mem_cons.mp hy with q | q
      · rw [q]; exact Int.le_trans k4 k1
      · exact h2 y q
theorem least_none : ∀ (l : List Int) (b : Option Int), l.foldl less1 b = none → b = none ∧ l = []
  | [], b, h => ⟨h, rfl⟩
  | z :: l, b, h => by
    have := (least_none l (less1 b z) h).1
    cases b with
    | none => cases this
    | some y =>
      have e : (if z < y then some z else some y) = none := this
      by_cases q : z < y
      · rw [if_pos q] at e; cases e
      · rw [if_neg q] at e; cases e
theorem least_ex {l : List Int} (h : l ≠ []) : ∃ x, least l = some x ∧ x ∈ l ∧ ∀ y ∈ l, x ≤ y := by
  cases e : least l with
  | none => exact absurd (least_none l none e).2 h
  | some x =>
    obtain ⟨h1, h2, _⟩ := least_some l none x e
    rcases h1 with h1 | h1
    · cases h1
    · exact ⟨x, rfl, h1, h2⟩
/-! ### fewer groups -/
theorem relab_eq {n : Nat} {es : List (Nat × Nat)} {h : Nat → Nat} (H : Hom n es h) {a b x : Nat} (ha : a < n) (hb : b < n) (hx : x < n) : relab h a b x = if h x = h a ∨ h x = h b then min (h a) (h b) else h x := by
  unfold relab
  by_cases q : h x = max (h a) (h b)
  · rw [if_pos q, if_pos (by omega)]
  · rw [if_neg q]
    by_cases q2 : h x = h a ∨ h x = h b
    · rw [if_pos q2]; omega
    · rw [if_neg q2]
theorem mem_reps' {h : Nat → Nat} {n r : Nat} : r ∈ reps h n ↔ r < n ∧ h r = r := by
  unfold reps; rw [List.mem_filter, List.mem_range]; simp
theorem reps_nodup (h : Nat → Nat) (n : Nat) : (reps h n).Nodup := (List.nodup_range).filter _
theorem filter_len_lt {α : Type} {f g : α → Bool} : ∀ {l : List α}, (∀ x ∈ l, f x = true → g x = true) → (∃ x ∈ l, f x = false ∧ g x = true) → (l.filter f).length < (l.filter g).length
  | [], _, ⟨x, hx, _⟩ => nomatch hx
  | y :: l, h, ⟨x, hx, h1, h2⟩ => by
    have hl : ∀ z ∈ l, f z = true → g z = true := fun z hz => h z (List.mem_cons_of_mem _ hz)
    have hle : (l.filter f).length ≤ (l.filter g).length := by
      have := List.countP_mono_left (l := l) (p := f) (q := g) hl
      rw [List.countP_eq_length_filter, List.countP_eq_length_filter] at this
      exact this
    rcases List.mem_cons.mp hx with e | e
    · subst e
      rw [List.filter_cons, List.filter_cons, h1, h2]
      simp only [Bool.false_eq_true, if_false, if_true, List.length_cons]
      omega
    · have ih := filter_len_lt hl ⟨x, e, h1, h2⟩
      rw [List.filter_cons, List.filter_cons]
      by_cases q : f y = true
      · rw [if_pos q, if_pos (h y List.mem_cons_self q), List.length_cons, List.length_cons]; omega
      · rw [if_neg q]
        split
        · rw [List.length_cons]; omega
        · exact ih
theorem reps_less {n : Nat} {es : List (Nat × Nat)} {h : Nat → Nat} (H : Hom n es h) {a b : Nat} (ha : a < n) (hb : b < n) (hne : h a ≠ h b) : (reps (relab h a b) n).length < (reps h n).length := by
  have hla := H.le a ha
  have hlb := H.le b hb
  refine filter_len_lt (fun x hx hf => ?_) ⟨max (h a) (h b), List.mem_range.mpr (by omega), ?_, ?_⟩
  · have hx' := List.mem_range.mp hx
    have e := beq_iff_eq.mp hf
    rw [relab_eq H ha hb hx'] at e
    refine beq_iff_eq.mpr ?_
    by_cases q : h x = h a ∨ h x = h b
    · rw [if_pos q] at e
      have i1 := H.idem a ha
      have i2 := H.idem b hb
      rcases Nat.le_total (h a) (h b) with z | z
      · rw [Nat.min_eq_left z] at e; rw [← e, i1]
      · rw [Nat.min_eq_right z] at e; rw [← e, i2]
    · rw [if_neg q] at e; exact e
  · have hm : max (h a) (h b) < n := by omega
    have i1 := H.idem a ha
    have i2 := H.idem b hb
    refine Bool.eq_false_iff.mpr fun z => ?_
    have e := beq_iff_eq.mp z
    rw [relab_eq H ha hb hm] at e
    rcases Nat.le_total (h a) (h b) with q | q
    · rw [Nat.max_eq_right q, i2, if_pos (.inr rfl), Nat.min_eq_left q] at e; exact hne e
    · rw [Nat.max_eq_left q, i1, if_pos (.inl rfl), Nat.min_eq_right q] at e; exact hne e.symm
  · have i1 := H.idem a ha
    have i2 := H.idem b hb
    refine beq_iff_eq.mpr ?_
    rcases Nat.le_total (h a) (h b) with q | q
    · rw [Nat.max_eq_right q, i2]
    · rw [Nat.max_eq_left q, i1]
end Mw

set_option linter.all false
namespace Mw
/-! ### what holds of the growth -/
def wsum (p : Nat) : List (List Nat × Int) → Int
  | [] => 0
  | (k, w) :: r => (if p ∈ k then w else 0) + wsum p r
theorem wsum_add (p : Nat) (k : List Nat) (s : Int) : ∀ l : List (List Nat × Int), wsum p (addW l k s) = wsum p l + if p ∈ k then s else 0
  | [] => by show (if p ∈ k then s else 0) + 0 = 0 + _; omega
  | (j, w) :: r => by
    by_cases e : j = k
    · subst e
      have : addW ((j, w) :: r) j s = (j, w + s) :: r := if_pos rfl
      rw [this]
      show (if p ∈ j then w + s else 0) + wsum p r = (if p ∈ j then w else 0) + wsum p r + _
      by_cases q : p ∈ j
      · simp only [if_pos q]; omega
      · simp only [if_neg q]; omega
    · have : addW ((j, w) :: r) k s = (j, w) :: addW r k s := if_neg e
      rw [this]
      show (if p ∈ j then w else 0) + wsum p (addW r k s) = (if p ∈ j then w else 0) + wsum p r + _
      rw [wsum_add p k s r]; omega
theorem mem_addW {k : List Nat} {s : Int} : ∀ {l : List (List Nat × Int)} {x : List Nat × Int}, x ∈ addW l k s → (x.1 = k ∧ (x.2 = s ∨ ∃ w, (k, w) ∈ l ∧ x.2 = w + s)) ∨ x ∈ l
  | [], x, h => .inl (by rw [List.mem_singleton.mp h]; exact ⟨rfl, .inl rfl⟩)
  | (j, w) :: r, x, h => by
    by_cases e : j = k
    · subst e
      have e2 : addW ((j, w) :: r) j s = (j, w + s) :: r := if_pos rfl
      rw [e2] at h
      rcases List.mem_cons.mp h with h | h
      · exact .inl (by rw [h]; exact ⟨rfl, .inr ⟨w, List.mem_cons_self, rfl⟩⟩)
      · exact .inr (List.mem_cons_of_mem _ h)
    · have e2 : addW ((j, w) :: r) k s = (j, w) :: addW r k s := if_neg e
      rw [e2] at h
      rcases List.mem_cons.mp h with h | h
      · exact .inr (by rw [h]; exact List.mem_cons_self)
      · rcases mem_addW h with ⟨h1, h2 | ⟨w', h2, h3⟩⟩ | h1
        · exact .inl ⟨h1, .inl h2⟩
        · exact .inl ⟨h1, .inr ⟨w', List.mem_cons_of_mem _ h2, h3⟩⟩
        · exact .inr (List.mem_cons_of_mem _ h1)
/-- the ways of a net -/
structure WsOk (n : Nat) (ws : Wl) : Prop where
  n1 : 1 ≤ n
  n12 : n ≤ 12
  ok : ∀ c, c < ws.length → (way ws c).1 < (way ws c).2.1 ∧ (way ws c).2.1 < n ∧ 1 ≤ (way ws c).2.2 ∧ (way ws c).2.2 ≤ 10000
def wedges (ws : Wl) : List (Nat × Nat) := (List.range ws.length).map fun c => ((way ws c).1, (way ws c).2.1)
def ut (t : Nat) : Int := (2 : Int) ^ (12 - t)
/-- in the middle of a turn: t turns are done, or the t-th is being done -/
structure GM (n : Nat) (ws : Wl) (t : Nat) (S : Gs) : Prop where
  hom : ∃ es, Hom n es S.h
  dv : ∀ p, ut t ∣ S.dep p
  dt : ut t ∣ S.time
  dw : ∀ kw ∈ S.wid, ut t ∣ kw.2
  d0 : ∀ p, 0 ≤ S.dep p ∧ S.dep p ≤ t * 40960000
  t0 : 0 ≤ S.time ∧ S.time ≤ t * 40960000
  w0 : ∀ kw ∈ S.wid, 0 < kw.2 ∧ kw.2 ≤ t * 40960000
  lk : ∀ c, c < ws.length → crosses ws S c = true → 0 ≤ lack ws S c
  sum : ∀ p, p < n → S.dep p = wsum p S.wid
  key : ∀ kw ∈ S.wid, (∀ x ∈ kw.1, x < n ∧ ∀ y ∈ kw.1, S.h x = S.h y) ∧ kw.1 ≠ [] ∧ kw.1.Pairwise (· < ·)
theorem GM.start {n : Nat} {ws : Wl} (W : WsOk n ws) : GM n ws 0 start := by
  refine ⟨⟨[], Hom.start n⟩, fun p => Int.dvd_zero _, Int.dvd_zero _, (fun kw h => nomatch h), fun p => ⟨Int.le_refl _, by show (0 : Int) ≤ _; omega⟩, ⟨Int.le_refl _, by show (0 : Int) ≤ _; omega⟩, (fun kw h => nomatch h), fun c hc _ => ?_, fun p _ => rfl, fun kw h => nomatch h⟩
  have := (W.ok c hc).2.2.1
  show 0 ≤ ((way ws c).2.2 : Int) * 4096 - (0 + 0)
  omega
theorem relab_same {n : Nat} {es : List (Nat × Nat)} {h : Nat → Nat} (H : Hom n es h) {a b x y : Nat} (ha : a < n) (hb : b < n) (hx : x < n) (hy : y < n) (e : h x = h y) : relab h a b x = relab h a b y := by
  unfold relab; rw [e]
theorem GM.take {n t : Nat} {ws : Wl} {S : Gs} (W : WsOk n ws) (G : GM n ws t S) {c : Nat} (hc : c < ws.length) (hx : crosses ws S c = true) :
    GM n ws t (take1 ws S c) ∧ (reps (take1 ws S c).h n).length < (reps S.h n).length := by
  obtain ⟨es, H⟩ := G.hom
  obtain ⟨w1, w2, _⟩ := W.ok c hc
  have ha : (way ws c).1 < n := Nat.lt_trans w1 w2
  refine ⟨⟨⟨_, H.step ha w2⟩, G.dv, G.dt, G.dw, G.d0, G.t0, G.w0, fun d hd hcr => ?_, G.sum, fun kw hk => ?_⟩, reps_less H ha w2 (of_decide_eq_true hx)⟩
  · refine G.lk d hd (decide_eq_true fun z => ?_)
    obtain ⟨v1, v2, _⟩ := W.ok d hd
    exact of_decide_eq_true hcr (relab_same H ha w2 (Nat.lt_trans v1 v2) v2 z)
  · obtain ⟨k1, k2, k3⟩ := G.key kw hk
    exact ⟨fun x hx => ⟨(k1 x hx).1, fun y hy => relab_same H ha w2 (k1 x hx).1 (k1 y hy).1 ((k1 x hx).2 y hy)⟩, k2, k3⟩
theorem first_some {ws : Wl} {S : Gs} {c : Nat} (h : first ws S = some c) : c < ws.length ∧ crosses ws S c = true ∧ lack ws S c ≤ 0 := by
  have h1 := List.find?_some h
  have h2 := List.mem_of_find?_eq_some h
  unfold full at h1
  rw [Bool.and_eq_true, decide_eq_true_eq] at h1
  exact ⟨List.mem_range.mp h2, h1.1, h1.2⟩
theorem first_none {ws : Wl} {S : Gs} (h : first ws S = none) {c : Nat} (hc : c < ws.length) (hx : crosses ws S c = true) : 0 < lack ws S c := by
  have h1 := List.find?_eq_none.mp h c (List.mem_range.mpr hc)
  rcases Int.lt_or_le 0 (lack ws S c) with q | q
  · exact q
  · exact absurd (by unfold full; rw [hx, decide_eq_true q]; rfl) h1
theorem GM.takeAll {n t : Nat} {ws : Wl} (W : WsOk n ws) : ∀ {k : Nat} {S : Gs}, GM n ws t S → (reps S.h n).length ≤ k → GM n ws t (takeAll ws k S) ∧ first ws (takeAll ws k S) = none ∧ (reps (takeAll ws k S).h n).length ≤ (reps S.h n).length ∧
    (∀ c, first ws S = some c → (reps (takeAll ws k S).h n).length < (reps S.h n).length)
  | 0, S, G, hk => by
    have hno : first ws S = none := by
      cases e : first ws S with
      | none => rfl
      | some c =>
        obtain ⟨hc, hx, _⟩ := first_some e
        have := (G.take W hc hx).2
        omega
    exact ⟨G, hno, Nat.le_refl _, fun c e => by rw [hno] at e; cases e⟩
  | k + 1, S, G, hk => by
    cases e : first ws S with
    | none =>
      have e2 : Mw.takeAll ws (k + 1) S = S := by show (match first ws S with | none => S | some c => _) = S; rw [e]
      rw [e2]
      exact ⟨G, e, Nat.le_refl _, fun c e => by cases e⟩
    | some c =>
      have e2 : Mw.takeAll ws (k + 1) S = Mw.takeAll ws k (take1 ws S c) := by show (match first ws S with | none => S | some c => _) = _; rw [e]
      obtain ⟨hc, hx, _⟩ := first_some e
      obtain ⟨G2, hlt⟩ := G.take W hc hx
      obtain ⟨h1, h2, h3, _⟩ := GM.takeAll W (k := k) G2 (by omega)
      rw [e2]
      exact ⟨h1, h2, by omega, fun _ _ => by omega⟩
theorem takeAll_time (ws : Wl) : ∀ (k : Nat) (S : Gs), (takeAll ws k S).time = S.time ∧ (takeAll ws k S).dep = S.dep ∧ (takeAll ws k S).wid = S.wid
  | 0, S => ⟨rfl, rfl, rfl⟩
  | k + 1, S => by
    show ((match first ws S with | none => S | some c => takeAll ws k (take1 ws S c)) : Gs).time = _ ∧ ((match first ws S with | none => S | some c => takeAll ws k (take1 ws S c)) : Gs).dep = _ ∧ ((match first ws S with | none => S | some c => takeAll ws k (take1 ws S c)) : Gs).wid = _
    cases first ws S with
    | none => exact ⟨rfl, rfl, rfl⟩
    | some c => exact takeAll_time ws k (take1 ws S c)
/-! ### a way that leads out of an open group -/
theorem mem_opens {n : Nat} {ps : List (Nat × Nat)} {h : Nat → Nat} {r : Nat} : r ∈ opens n ps h ↔ (r < n ∧ h r = r) ∧ ∃ q ∈ ps, parted h r q = true := by
  unfold opens; rw [List.mem_filter, mem_reps', List.any_eq_true]
theorem out_way {n : Nat} {ws : Wl} {ps : List (Nat × Nat)} {S : Gs} (W : WsOk n ws) (J : ∀ q ∈ ps, Cn (wedges ws) q.1 q.2) {r : Nat} (hr : r ∈ opens n ps S.h) :
    ∃ c, c < ws.length ∧ crosses ws S c = true ∧ (S.h (way ws c).1 = r ∨ S.h (way ws c).2.1 = r) := by
  refine Classical.byContradiction fun hno => ?_
  obtain ⟨_, q, hq, hp⟩ := mem_opens.mp hr
  have hiff := (J q hq).inv (P := fun x => S.h x = r) fun e he => by
    obtain ⟨c, hc, rfl⟩ := List.mem_map.mp he
    have hc' := List.mem_range.mp hc
    by_cases z : S.h (way ws c).1 = S.h (way ws c).2.1
    · show S.h (way ws c).1 = r ↔ S.h (way ws c).2.1 = r
      rw [z]
    · have h1 : ¬ S.h (way ws c).1 = r := fun y => hno ⟨c, hc', decide_eq_true z, .inl y⟩
      have h2 : ¬ S.h (way ws c).2.1 = r := fun y => hno ⟨c, hc', decide_eq_true z, .inr y⟩
      exact ⟨fun y => absurd y h1, fun y => absurd y h2⟩
  unfold parted at hp
  by_cases z : S.h q.1 = r
  · rw [decide_eq_true z, decide_eq_true (hiff.mp z)] at hp; cases hp
  · rw [decide_eq_false z, decide_eq_false fun y => z (hiff.mpr y)] at hp; cases hp
theorem spd_le (ws : Wl) (S : Gs) (R : List Nat) (c : Nat) : spd ws S R c ≤ 2 := by unfold spd; split <;> split <;> omega
theorem mem_canW {ws : Wl} {S : Gs} {R : List Nat} {c : Nat} : c ∈ canW ws S R ↔ c < ws.length ∧ crosses ws S c = true ∧ 0 < spd ws S R c := by
  unfold canW; rw [List.mem_filter, List.mem_range, Bool.and_eq_true, decide_eq_true_eq]
theorem ut_succ {t : Nat} (ht : t < 12) : ut t = 2 * ut (t + 1) := by
  unfold ut
  have : 12 - t = (12 - (t + 1)) + 1 := by omega
  rw [this, Int.pow_succ, Int.mul_comm]
theorem ut_4096 (t : Nat) : ut t ∣ 4096 := by
  unfold ut
  refine ⟨2 ^ (12 - (12 - t)), ?_⟩
  rw [← Int.pow_add, show 12 - t + (12 - (12 - t)) = 12 by omega]
  rfl
theorem GM.lack_dvd {n t : Nat} {ws : Wl} {S : Gs} (G : GM n ws t S) (c : Nat) : ut t ∣ lack ws S c := by
  unfold lack
  exact Int.dvd_sub (Int.dvd_trans (ut_4096 t) (Int.dvd_mul_left _ _)) (Int.dvd_add (G.dv _) (G.dv _))
/-- the time that a way wants is whole -/
theorem GM.cand_eq {n t : Nat} {ws : Wl} {S : Gs} (G : GM n ws t S) (ht : t < 12) (R : List Nat) {c : Nat} (hs : 0 < spd ws S R c) : cand ws S R c * (spd ws S R c : Int) = lack ws S c ∧ ut (t + 1) ∣ cand ws S R c := by
  obtain ⟨m, hm⟩ := G.lack_dvd c
  rw [ut_succ ht] at hm
  have h2 := spd_le ws S R c
  unfold cand
  generalize spd ws S R c = s at hs h2
  rcases (show s = 1 ∨ s = 2 by omega) with rfl | rfl
  · have e1 : ((1 : Nat) : Int) = 1 := rfl
    rw [e1, Int.ediv_one, Int.mul_one]
    exact ⟨rfl, ⟨2 * m, by rw [hm, Int.mul_comm 2, Int.mul_assoc]⟩⟩
  · have e1 : lack ws S c / ((2 : Nat) : Int) = ut (t + 1) * m := by
      rw [hm, Int.mul_assoc]
      exact Int.mul_ediv_cancel_left _ (by decide)
    rw [e1]
    refine ⟨?_, ⟨m, rfl⟩⟩
    rw [hm]
    show ut (t + 1) * m * 2 = _
    rw [Int.mul_comm, ← Int.mul_assoc]
/-! ### a turn grows -/
theorem wsum_grow {n : Nat} {h : Nat → Nat} (s : Int) (p : Nat) : ∀ (R : List Nat) (w : List (List Nat × Int)), wsum p (R.foldl (fun w r => addW w (cls h n r) s) w) = wsum p w + (R.map fun r => if p ∈ cls h n r then s else 0).sum
  | [], w => by show wsum p w = wsum p w + 0; omega
  | r :: R, w => by
    show wsum p (R.foldl _ (addW w (cls h n r) s)) = _
    rw [wsum_grow s p R, wsum_add, List.map_cons, List.sum_cons]; omega
theorem sum_one {α : Type} [DecidableEq α] (s : Int) (a : α) : ∀ {l : List α}, l.Nodup → (l.map fun r => if r = a then s else 0).sum = if a ∈ l then s else 0
  | [], _ => by simp
  | x :: l, h => by
    obtain ⟨h1, h2⟩ := List.nodup_cons.mp h
    rw [List.map_cons, List.sum_cons, sum_one s a h2]
    by_cases e : x = a
    · subst e
      rw [if_pos rfl, if_neg h1, if_pos List.mem_cons_self]; omega
    · rw [if_neg e]
      by_cases q : a ∈ l
      · rw [if_pos q, if_pos (List.mem_cons_of_mem _ q)]; omega
      · rw [if_neg q, if_neg (fun z => by rcases List.mem_cons.mp z with z | z; exact e z.symm; exact q z)]; omega
theorem mem_grow {n : Nat} {h : Nat → Nat} {s : Int} : ∀ {R : List Nat} {w : List (List Nat × Int)} {x : List Nat × Int}, x ∈ R.foldl (fun w r => addW w (cls h n r) s) w → R.Nodup → (∀ r ∈ R, r < n ∧ h r = r) →
    x ∈ w ∨ ∃ r ∈ R, x.1 = cls h n r ∧ (x.2 = s ∨ ∃ v, (x.1, v) ∈ w ∧ x.2 = v + s)
  | [], w, x, h, _, _ => .inl h
  | r :: R, w, x, hx, nd, hR => by
    obtain ⟨h1, h2⟩ := List.nodup_cons.mp nd
    have rr := hR r List.mem_cons_self
    rcases mem_grow (R := R) (w := addW w (cls h n r) s) hx h2 (fun q hq => hR q (List.mem_cons_of_mem _ hq)) with q | ⟨r', hr', e1, e2⟩
    · rcases mem_addW q with ⟨q1, q2 | ⟨v, q2, q3⟩⟩ | q1
      · exact .inr ⟨r, List.mem_cons_self, q1, .inl q2⟩
      · exact .inr ⟨r, List.mem_cons_self, q1, .inr ⟨v, by rw [q1]; exact q2, q3⟩⟩
      · exact .inl q1
    · rcases e2 with e2 | ⟨v, e2, e3⟩
      · exact .inr ⟨r', List.mem_cons_of_mem _ hr', e1, .inl e2⟩
      · rcases mem_addW e2 with ⟨q1, _⟩ | q1
        · exfalso
          have rr' := hR r' (List.mem_cons_of_mem _ hr')
          have e4 : cls h n r' = cls h n r := e1.symm.trans q1
          have : r' ∈ cls h n r := by rw [← e4]; exact mem_cls.mpr ⟨rr'.1, rfl⟩
          have := (mem_cls.mp this).2
          rw [rr'.2, rr.2] at this
          exact h1 (this ▸ hr')
        · exact .inr ⟨r', List.mem_cons_of_mem _ hr', e1, .inr ⟨v, q1, e3⟩⟩
theorem opens_nodup (n : Nat) (ps : List (Nat × Nat)) (h : Nat → Nat) : (opens n ps h).Nodup := (reps_nodup h n).filter _
theorem lack_grow (n : Nat) (ws : Wl) (S : Gs) (R : List Nat) (s : Int) (c : Nat) : lack ws (grow n S R s) c = lack ws S c - s * (spd ws S R c : Int) := by
  unfold lack grow spd
  dsimp only
  split <;> split <;> simp <;> omega
theorem GM.grow {n t : Nat} {ws : Wl} {ps : List (Nat × Nat)} {S : Gs} (W : WsOk n ws) (J : ∀ q ∈ ps, Cn (wedges ws) q.1 q.2) (G : GM n ws t S) (ht : t < 12) (hf : first ws S = none) (hR : opens n ps S.h ≠ []) :
    0 < span ws S (opens n ps S.h) ∧ span ws S (opens n ps S.h) ≤ 40960000 ∧ ut (t + 1) ∣ span ws S (opens n ps S.h) ∧ least ((canW ws S (opens n ps S.h)).map (cand ws S (opens n ps S.h))) = some (span ws S (opens n ps S.h)) ∧
    GM n ws (t + 1) (grow n S (opens n ps S.h) (span ws S (opens n ps S.h))) ∧ ∃ c, first ws (grow n S (opens n ps S.h) (span ws S (opens n ps S.h))) = some c := by
  have hRok : ∀ r ∈ opens n ps S.h, r < n ∧ S.h r = r := fun r hr => (mem_opens.mp hr).1
  have hnd := opens_nodup n ps S.h
  obtain ⟨r0, hr0⟩ := List.exists_mem_of_ne_nil _ hR
  obtain ⟨c0, hc0, hx0, hs0⟩ := out_way W J hr0
  have hcan : canW ws S (opens n ps S.h) ≠ [] := List.ne_nil_of_mem (mem_canW.mpr ⟨hc0, hx0, by
    unfold spd
    rcases hs0 with z | z
    · rw [if_pos (z ▸ hr0)]; omega
    · rw [if_pos (c := S.h (way ws c0).2.1 ∈ _) (z ▸ hr0)]; omega⟩)
  obtain ⟨x, hx, hxm, hxl⟩ := least_ex (l := (canW ws S (opens n ps S.h)).map (cand ws S (opens n ps S.h))) (fun z => hcan (List.map_eq_nil_iff.mp z))
  have hsp : span ws S (opens n ps S.h) = x := by unfold span; rw [hx]; rfl
  rw [hsp]
  generalize opens n ps S.h = R at *
  obtain ⟨c1, hc1, hxc⟩ := List.mem_map.mp hxm
  obtain ⟨k1, k2, k3⟩ := mem_canW.mp hc1
  obtain ⟨e1, e2⟩ := G.cand_eq ht R k3
  rw [hxc] at e1 e2
  have hl1 := first_none hf k1 k2
  have hs2 := spd_le ws S R c1
  have hx0 : 0 < x := by
    rcases Int.lt_or_le 0 x with q | q
    · exact q
    · have := Int.mul_le_mul_of_nonneg_right q (show (0 : Int) ≤ (spd ws S R c1 : Int) by omega); omega
  have hxle : x ≤ 40960000 := by
    have h1 : lack ws S c1 ≤ 40960000 := by
      have h1 := (W.ok c1 k1).2.2.2
      have h2 := (G.d0 (way ws c1).1).1
      have h3 := (G.d0 (way ws c1).2.1).1
      unfold lack; omega
    have := Int.mul_le_mul_of_nonneg_left (show (1 : Int) ≤ (spd ws S R c1 : Int) by omega) (Int.le_of_lt hx0)
    omega
  have hcls : ∀ r ∈ R, ∀ p, p < n → (p ∈ cls S.h n r ↔ S.h p = r) := fun r hr p hp => by
    rw [mem_cls, (hRok r hr).2]; exact ⟨fun z => z.2, fun z => ⟨hp, z⟩⟩
  have dvd1 : ∀ z : Int, ut t ∣ z → ut (t + 1) ∣ z := fun z ⟨m, hm⟩ => ⟨2 * m, by rw [hm, ut_succ ht, Int.mul_comm 2, Int.mul_assoc]⟩
  refine ⟨hx0, hxle, e2, hx, ?_, ?_⟩
  · refine ⟨G.hom, fun p => ?_, Int.dvd_add (dvd1 _ G.dt) e2, fun kw hk => ?_, fun p => ?_, ?_, fun kw hk => ?_, fun c hc hcr => ?_, fun p hp => ?_, fun kw hk => ?_⟩
    · show ut (t + 1) ∣ S.dep p + if S.h p ∈ R then x else 0
      refine Int.dvd_add (dvd1 _ (G.dv p)) ?_
      split
      · exact e2
      · exact Int.dvd_zero _
    · rcases mem_grow hk hnd hRok with q | ⟨r, hr, q1, q2 | ⟨v, q2, q3⟩⟩
      · exact dvd1 _ (G.dw kw q)
      · rw [q2]; exact e2
      · rw [q3]; exact Int.dvd_add (dvd1 _ (G.dw _ q2)) e2
    · have := G.d0 p
      show 0 ≤ S.dep p + (if S.h p ∈ R then x else 0) ∧ S.dep p + (if S.h p ∈ R then x else 0) ≤ ((t + 1 : Nat) : Int) * 40960000
      split <;> omega
    · have := G.t0
      show 0 ≤ S.time + x ∧ S.time + x ≤ ((t + 1 : Nat) : Int) * 40960000
      omega
    · rcases mem_grow hk hnd hRok with q | ⟨r, hr, q1, q2 | ⟨v, q2, q3⟩⟩
      · have := G.w0 kw q
        constructor <;> omega
      · rw [q2]; constructor <;> omega
      · have := G.w0 _ q2
        rw [q3]; constructor
        · have : 0 < v := this.1
          omega
        · have : v ≤ (t : Int) * 40960000 := this.2
          omega
    · rw [lack_grow]
      have hcr' : crosses ws S c = true := hcr
      have hl := first_none hf hc hcr'
      by_cases q : 0 < spd ws S R c
      · obtain ⟨f1, _⟩ := G.cand_eq ht R q
        have hle := hxl _ (List.mem_map_of_mem (f := cand ws S R) (mem_canW.mpr ⟨hc, hcr', q⟩))
        have := Int.mul_le_mul_of_nonneg_right hle (show (0 : Int) ≤ (spd ws S R c : Int) by omega)
        omega
      · have : spd ws S R c = 0 := by omega
        rw [this]
        show 0 ≤ lack ws S c - x * 0
        omega
    · show S.dep p + (if S.h p ∈ R then x else 0) = wsum p (R.foldl (fun w r => addW w (cls S.h n r) x) S.wid)
      rw [wsum_grow, G.sum p hp]
      congr 1
      have e : R.map (fun r => if p ∈ cls S.h n r then x else 0) = R.map (fun r => if r = S.h p then x else 0) := List.map_congr_left fun r hr => by
        by_cases z : S.h p = r
        · rw [if_pos ((hcls r hr p hp).mpr z), if_pos z.symm]
        · rw [if_neg (fun y => z ((hcls r hr p hp).mp y)), if_neg (fun y => z y.symm)]
      rw [e, sum_one x (S.h p) hnd]
    · rcases mem_grow hk hnd hRok with q | ⟨r, hr, q1, _⟩
      · exact G.key kw q
      · rw [q1]
        refine ⟨fun y hy => ⟨(mem_cls.mp hy).1, fun z hz => (mem_cls.mp hy).2.trans (mem_cls.mp hz).2.symm⟩, List.ne_nil_of_mem (mem_cls.mpr ⟨(hRok r hr).1, rfl⟩), cls_pw _ _ _⟩
  · cases e : first ws (Mw.grow n S R x) with
    | some c => exact ⟨c, rfl⟩
    | none =>
      have := first_none e k1 k2
      rw [lack_grow, e1] at this
      omega
/-- a whole turn -/
theorem GM.turn {n t : Nat} {ws : Wl} {ps : List (Nat × Nat)} {S : Gs} (W : WsOk n ws) (J : ∀ q ∈ ps, Cn (wedges ws) q.1 q.2) (G : GM n ws t S) (hn : (reps S.h n).length + t ≤ n) (hf : first ws S = none) (hR : opens n ps S.h ≠ []) :
    t < 12 ∧ GM n ws (t + 1) (turn n ws ps S) ∧ first ws (turn n ws ps S) = none ∧ (reps (turn n ws ps S).h n).length + (t + 1) ≤ n := by
  obtain ⟨r0, hr0⟩ := List.exists_mem_of_ne_nil _ hR
  have hpos : 0 < (reps S.h n).length := List.length_pos_of_mem (mem_reps'.mpr (mem_opens.mp hr0).1)
  have n12 := W.n12
  have ht : t < 12 := by omega
  obtain ⟨_, _, _, _, G2, c, hc⟩ := G.grow W J ht hf hR
  obtain ⟨h1, h2, _, h4⟩ := GM.takeAll W (k := n) G2 (by show (reps S.h n).length ≤ n; omega)
  have h5 := h4 c hc
  have h6 : (reps S.h n).length = (reps (Mw.grow n S (opens n ps S.h) (span ws S (opens n ps S.h))).h n).length := rfl
  refine ⟨ht, h1, h2, ?_⟩
  unfold Mw.turn
  omega
end Mw

set_option Elab.async false
set_option linter.all false
set_option maxRecDepth 100000
set_option maxHeartbeats 4000000
namespace Mw
open PySem PySem.Spec PyProof.Rows L2 GE
/-! ### fractions -/
def FrV (K : PySem.W.Frag) (H : Hp) (u : Int) (v : V) : Prop := ∃ a, v = .ref a ∧ SqT K H a [.int (frX u), .int (frY u)]
theorem SqT.x {K : PySem.W.Frag} {T : List Addr} {M : Addr → Prop} {H H' : Hp} {a : Addr} {xs : List V} (h : SqT K H a xs) (e : Ext T M H H') (m : ¬ M a) : SqT K H' a xs := by
  rcases h with (h | ⟨o, h⟩) | h
  · exact .inl (.inl (e.tup m h))
  · exact .inl (.inr ⟨o, e.kp _ _ m h fun ps z => by cases z⟩)
  · exact .inr h
theorem FrV.x {K : PySem.W.Frag} {T : List Addr} {H H' : Hp} {u : Int} {v : V} (h : FrV K H u v) (e : Ext T noM H H') : FrV K H' u v := by
  obtain ⟨a, rfl, h⟩ := h
  exact ⟨a, rfl, SqT.x h e fun z => z⟩
abbrev bd (u : Int) : Prop := -1099511627776 ≤ u ∧ u ≤ 1099511627776
def spRatio (K : PySem.W.Frag) (T : List Addr) : Sp := fun vs H Q _ => ∃ (t b u : Int), vs = [.int t, .int b] ∧ 0 < b ∧ b < 1073741824 ∧ t * 4096 = u * b ∧ ∀ v H', FrV K H' u v → Ext T noM H H' → Q v H'
def spPlus (K : PySem.W.Frag) (T : List Addr) : Sp := fun vs H Q _ => ∃ (x y : V) (u v : Int), vs = [x, y] ∧ FrV K H u x ∧ FrV K H v y ∧ bd u ∧ bd v ∧ ∀ z H', FrV K H' (u + v) z → Ext T noM H H' → Q z H'
def spMinus (K : PySem.W.Frag) (T : List Addr) : Sp := fun vs H Q _ => ∃ (x y : V) (u v : Int), vs = [x, y] ∧ FrV K H u x ∧ FrV K H v y ∧ bd u ∧ bd v ∧ ∀ z H', FrV K H' (u - v) z → Ext T noM H H' → Q z H'
def spLess (K : PySem.W.Frag) (T : List Addr) : Sp := fun vs H Q _ => ∃ (x y : V) (u v : Int), vs = [x, y] ∧ FrV K H u x ∧ FrV K H v y ∧ bd u ∧ bd v ∧ ∀ H', Ext T noM H H' → Q (.bl (decide (u < v))) H'
theorem mulc {u y : Int} (h : bd u) : -(2 ^ 64) < frX u ∧ frX u < 2 ^ 64 := by
  have := frX_bd (u := u) (b := 1099511627776) h.1 h.2
  omega
theorem muly (u : Int) : -(2 ^ 64) < frY u ∧ frY u < 2 ^ 64 := by
  have h1 := frY_pos u
  have h2 := frY_le u
  omega
theorem yy (u v : Int) : 0 < frY u * frY v ∧ frY u * frY v < 1073741824 := by
  have h1 := frY_pos u
  have h2 := frY_le u
  have h3 := frY_pos v
  have h4 := frY_le v
  refine ⟨Int.mul_pos h1 h3, ?_⟩
  have := Int.mul_le_mul h2 h4 (Int.le_of_lt h3) (by decide)
  omega
section
variable {P : Program} {w : World} {K : PySem.W.Frag} {mg : Str → Option Value} {base : Heap} {T : List Addr}
end
end Mw

set_option Elab.async false
set_option linter.all false
set_option maxRecDepth 100000
set_option maxHeartbeats 2000000
/-! enumerate over a tuple; x in a tuple of data -/
namespace GE
open PySem PySem.Spec PyProof.Rows L2
theorem enum_newB {v : Value} {o : Obj} {B0 : Heap → Prop} (B : Begins v o B0) :
    Meets (Builtin.«enumerate.__new__» ⟨[.type "enumerate", v], []⟩) (fun _ R s => B0 s.heap ∧
      R (.ok (.ret (.ref (s.heap.push o).objs.size))) { s with heap := (s.heap.push o).push { cls := .type "enumerate", data := .fields #[.none, .bool false, .ref s.heap.objs.size, rawInt 0, .none, .none] } }) :=
  .of_wp fun prog w A R s ⟨h1, h⟩ => by
    obtain ⟨hp, gn, dr, tk, os⟩ := s
    have hsub := sub_enumerate
    have go : ∀ {A' : Around} {E' : Value → Shared → Prop} {Q' : Value → Shared → Prop}, Q' (.ref hp.objs.size) ⟨hp.push o, gn, dr, tk, os⟩ → wpAny (model prog w) A' (pyIter v) Q' E' ⟨hp, gn, dr, tk, os⟩ := fun q => B.iter _ _ _ _ _ _ h1 q
    wp_walk using go
    refine wpAny_stack_any fun _ => wpAny_pure ?_
    split
    · rename_i cc _ _ _ _ _
      by_cases hcc : (cc == Value.type "enumerate") = true
      · rw [hcc]
        wp_walk using go
        exact ⟨_, rfl, h⟩
      · rw [Bool.eq_false_iff.mpr hcc]
        wp_walk using go
        exact ⟨_, rfl, h⟩
    · wp_walk using go
      exact ⟨_, rfl, h⟩
theorem enum_call {prog : Program} {w : World} {A : Around} {E : Value → Shared → Prop} {s : Shared} {v : Value} {o : Obj} {B0 : Heap → Prop} {Q : Value → Shared → Prop} (B : Begins v o B0) (h1 : B0 s.heap)
    (h : ∀ h', IsEnum h' (s.heap.objs.size + 1) s.heap.objs.size 0 .none → h'.get? s.heap.objs.size = some o → (∀ b u, s.heap.get? b = some u → h'.get? b = some u) → Q (.ref (s.heap.objs.size + 1)) { s with heap := h' }) :
    wpAny (model prog w) A (call (.type "enumerate") [v]) Q E s := by
  refine callType_new F.called_enumerate (by decide) (F.typeCall_enumerate_1 _) (F.newCall_enumerate_1 _) (fun obj => F.args_object_init_2 obj _) F.entry_enumerate_new (enum_newB B) ⟨h1, ?_⟩
  have hz : (s.heap.push o).objs.size = s.heap.objs.size + 1 := Heap.size_push ..
  have he : IsEnum ((s.heap.push o).push { cls := .type "enumerate", data := .fields #[.none, .bool false, .ref s.heap.objs.size, rawInt 0, .none, .none] }) (s.heap.objs.size + 1) s.heap.objs.size 0 .none := by
    rw [← hz]; exact Heap.get?_push_size _ rfl
  show _ ∧ _
  rw [hz]
  exact ⟨⟨_, he, rfl⟩, h _ he (Heap.get?_push_of_some _ (Heap.get?_push_size _ B.free)) fun b u q => Heap.get?_push_of_some _ (Heap.get?_push_of_some _ q)⟩
theorem enum_endT {prog : Program} {w : World} {A : Around} {E : Value → Shared → Prop} {s : Shared} {e it a : Addr} {i : Nat} {items : Array Value} {old : Value} {Q : Option Value → Shared → Prop} (hh : A.handled = none) (he : IsEnum s.heap e it i old) (hit : s.heap.IsTupleIter it a i)
    (hT : s.heap.IsTuple a items) (hx : items[i]? = none) (hQ : ∀ h', Heap.ExtBut it s.heap h' → Q none { s with heap := h' }) : wpAny (model prog w) A (pyNext (.ref e)) Q E s := by
  have ty : s.TypeIs (.ref e) "enumerate" := ⟨_, he, rfl⟩
  unfold pyNext
  refine wpAny_bind (wpAny_attempt (wpAny_callSpecial?_slot (name := Str.ofString "__next__") ty F.slot_enumerate_next (wpAny_call_entry F.slot_enumerate_next ty F.entry_enumerate_next ?_ (F.args_enumerate_next_1 _))))
  show wpAny _ _ (field (.ref e) 2 >>= _) _ _ s
  refine wpAny_bind (wpAny_field he rfl (x := .ref it) rfl ?_)
  refine wpAny_bind (wpAny_nextOf_tuple_end hh hit hT hx fun h' x eb ⟨o, ho, hc⟩ => ?_)
  exact wpAny_bind (wpAny_isInstance (T := "StopIteration") (b := true) ⟨o, ho, hc⟩ isSubtype_stop (wpAny_pure (hQ _ eb)))
/-! ### enumerate(tuple) -/
def IteT (K : PySem.W.Frag) (a : Addr) : It :=
  ⟨fun i H => ∃ (xs : List V) (x : V), SqT K H a xs ∧ xs[i]? = some x, fun i H v H' => ∃ T x, v = .ref T ∧ H T = none ∧ H' = upd H T (.tup [.int (i : Nat), x]) ∧ ∀ xs, SqT K H a xs → xs[i]? = some x, fun i H => ∃ xs : List V, SqT K H a xs ∧ xs.length ≤ i⟩
theorem walk_enumT {K : PySem.W.Frag} {a : Addr} {xs : List V} : Walk (IteT K a) xs.length (fun H => SqT K H a xs) (YPair (fun i => some (.int (i : Nat))) (fun i => xs[i]?)) := by
  refine ⟨fun i _ hi q => ⟨xs, xs[i], q, List.getElem?_eq_getElem hi⟩, fun _ q => ⟨xs, q, Nat.le_refl _⟩, fun i H v H' _ q y => ?_⟩
  obtain ⟨T, x, h1, h2, h3, h4⟩ := y
  exact ⟨T, .int (i : Nat), x, h1, h2, h3, rfl, h4 xs q⟩
theorem turn_enumT {P : Program} {w : World} {K : PySem.W.Frag} {elts : List Expr} {kk : Nat} {tpos : Pos} (a e it : Addr) (items : Array Value) :
    Turn P w K (.Tuple elts kk tpos) (IteT K a) [e, it] e (fun i h => (∃ old, IsEnum h e it ((i : Nat) : Int) old) ∧ h.IsTupleIter it a i ∧ e ≠ it ∧ a ≠ it ∧ a ≠ e) where
  mem := by simp
  obj := fun i h st b hb => by
    obtain ⟨⟨old, he⟩, ⟨o, ho, hc, hd⟩, _⟩ := st
    have e' : b = e ∨ b = it := by simpa using hb
    rcases e' with z | z
    · rw [z]; exact ⟨_, he, fun v q => nomatch q⟩
    · rw [z]; exact ⟨o, ho, fun v q => by rw [hd] at q; cases q⟩
  keep := fun i h h' st k => let ⟨⟨old, he⟩, hi, hne⟩ := st; ⟨⟨old, k e (by simp) _ he⟩, hi.at fun o q => k it (by simp) o q, hne⟩
  item := by
    intro X hP hw hK hc i pins s σ H E I hf st hg
    subst hP hw hK
    obtain ⟨⟨old, he⟩, hit, hne, hai, hae⟩ := st
    obtain ⟨xs, x, hq, hx⟩ := hg
    obtain ⟨its, rv, p, hz⟩ := I.tuple hq
    obtain ⟨u, hu, ru⟩ := rv.get hx
    have hel : e < s.heap.objs.size := Heap.lt_size he
    have hil : it < s.heap.objs.size := by obtain ⟨_, q, _⟩ := hit; exact Heap.lt_size q
    have hT0 : s.heap.IsTuple a its.toArray := p
    have hlt : i < its.toArray.size := by
      have := (List.getElem?_eq_some_iff.mp hu).1
      simpa using this
    refine wpAny_pyNext_enum_itemD (Draws.tuple (A := X.A.in1) (I.ok.hd hc) it a hai its.toArray) he ⟨hit, hT0⟩ hlt hne (by simp [hne, Ne.symm hae]) fun y h' tk hy ho hst' hT hsz hk => ?_
    have ey : y = u := by
      have h2 : its.toArray[i]? = some u := by simpa using hu
      exact Option.some.inj (hy.symm.trans h2)
    subst ey
    refine ⟨_, rfl, wpAny_letOwnedTupleGo_enum (s := { s with heap := h', toks := tk + 1 }) ho fun h'' he' sb => ?_⟩
    have hT2 : h''.get? s.heap.objs.size = some { cls := .type "tuple", data := .seq #[.int i tk, y] } := (sb.2 _ (Nat.ne_of_gt hel)).trans hT
    have new : ObjOk X.prog X.w (upd H s.heap.objs.size (.tup [.int (i : Nat), x])) h'' s.heap.objs.size (.tup [.int (i : Nat), x]) :=
      ⟨by show 2 ≤ sizeLine; decide, [.int i tk, y], .cons ⟨_, rfl⟩ (.cons ru .nil), ⟨_, hT2, rfl, _, rfl⟩⟩
    have I1 : Inv X pins σ (upd H s.heap.objs.size (.tup [.int (i : Nat), x])) { s with heap := h'', toks := tk + 1 } :=
      I.turnedNew (ch := [e, it]) (fun b ob hb q => (sb.2 b (fun z => hb (by simp [z]))).trans (hk b ob (fun z => hb (by simp [z])) (fun z => hb (by simp [z])) q)) hf (Nat.le_refl _) new
    refine ⟨.ref s.heap.objs.size, _, I1, rfl, ⟨_, x, rfl, I.hok.fresh (Nat.le_refl _), rfl, fun ys hy' => ?_⟩, ⟨⟨y, ?_⟩, hst'.1.at fun o q => (sb.2 it (Ne.symm hne)).trans q, hne, hai, hae⟩, fun b hb => ?_⟩
    · rw [I.tuple_inj hy' hq]; exact hx
    · have e1 : ((i + 1 : Nat) : Int) = (i : Int) + 1 := by omega
      rw [e1]; exact he'
    · have hb' : b < s.heap.objs.size := by
        have e' : b = e ∨ b = it := by simpa using hb
        rcases e' with z | z
        · rw [z]; exact hel
        · rw [z]; exact hil
      rw [upd_ne (Nat.ne_of_lt hb')]
      exact (hf b hb).1
  done := by
    intro X hP hw hK hc i pins s σ H E I hf st hg
    subst hP hw hK
    obtain ⟨⟨old, he⟩, hit, hne, hai, hae⟩ := st
    obtain ⟨xs, hq, hx⟩ := hg
    obtain ⟨its, rv, p, hz⟩ := I.tuple hq
    obtain ⟨f0, f1, f2, f3, f4, f5⟩ := hf it (by simp)
    have hl := rv.length
    refine enum_endT (I.ok.hd hc) he hit p (by simp; omega) fun h' eb => ⟨rfl, I.turned (t' := s.toks) (fun b o hb q => eb b o hb q) f0 f1 f3 f4 f5⟩
  self := fun A i s Q E st h => let ⟨⟨_, he⟩, _⟩ := st; wpAny_pyIter_enum he h
def iEnumT (K : PySem.W.Frag) (ta : TA) : TI := fun σ H R => ta σ H fun vs H1 => ∃ a xs, vs = [.ref a] ∧ SqT K H1 a xs ∧ R (IteT K a) H1
theorem pi_enumT {X : Cx} {e : Expr} {ta : TA} {p pos tpos : Pos} {elts : List Expr} {kk : Nat} (hg : Gl X "enumerate") (hm : X.mg "enumerate" = none) (ha : PA X [e] ta) (hs : starEach [e] X.env = [(false, eval e X.env)] := by rfl) :
    PI X (.Tuple elts kk tpos) (.Call (.Name "enumerate" p) [e] [] pos) (iEnumT X.K ta) := by
  refine ⟨fun pins s σ H R I h => ?_⟩
  refine Call_ (ld_blt I hg hm boot_enumerate (PyProof.Rows.callWith_type1 (thn (ha.run pos pins s σ H _ I h) fun us s1 ⟨vs, H1, I1, r1, q1⟩ => ?_) hs rfl))
  obtain ⟨a, xs, ex, hq, q⟩ := q1
  subst ex
  cases r1 with
  | cons r rr =>
    cases rr
    cases r
    obtain ⟨its, rv, p', hz⟩ := I1.tuple hq
    have hT0 : s1.heap.IsTuple a its.toArray := p'
    have hal : a < s1.heap.objs.size := by obtain ⟨_, q0, _⟩ := hT0; exact Heap.lt_size q0
    refine enum_call (begins_tuple a its.toArray) hT0 fun h' he hit hk => wpAny_pyIter_enum he ?_
    have I2 : Inv X pins σ H1 { s1 with heap := h' } := I1.kept (t' := s1.toks) hk
    refine ⟨s1.heap.objs.size + 1, [s1.heap.objs.size + 1, s1.heap.objs.size], _, _, H1, rfl, I2, turn_enumT a (s1.heap.objs.size + 1) s1.heap.objs.size its.toArray, ⟨⟨.none, he⟩, ⟨_, hit, rfl, rfl⟩, Nat.succ_ne_self _, Nat.ne_of_lt hal, Nat.ne_of_lt (Nat.lt_succ_of_lt hal)⟩, fun b hb => ?_, q⟩
    have e' : b = s1.heap.objs.size + 1 ∨ b = s1.heap.objs.size := by simpa using hb
    have hle : s1.heap.objs.size ≤ b := by
      rcases e' with z | z
      · rw [z]; exact Nat.le_add_right _ _
      · rw [z]; exact Nat.le_refl _
    exact I1.fpOk hle (I1.hok.fresh hle)
end GE

set_option Elab.async false
set_option linter.all false
set_option maxRecDepth 100000
set_option maxHeartbeats 2000000
/-! sorted: tuples of ints of any length; x in a tuple of data -/
namespace GE
open PySem PySem.Spec PyProof.Rows L2
/-- as Python orders lists of ints -/
def lexL : List Int → List Int → Bool
  | [], [] => false
  | [], _ :: _ => true
  | _ :: _, [] => false
  | x :: xs, y :: ys => if x = y then lexL xs ys else decide (x < y)
theorem lexL_asym : ∀ x y : List Int, lexL x y = true → lexL y x = false
  | [], [], h => by cases h
  | [], _ :: _, _ => rfl
  | _ :: _, [], h => by cases h
  | x :: xs, y :: ys, h => by
    unfold lexL at h ⊢
    by_cases e : x = y
    · rw [if_pos e] at h; rw [if_pos e.symm]; exact lexL_asym xs ys h
    · rw [if_neg e] at h; rw [if_neg (fun z => e z.symm)]
      have := of_decide_eq_true h
      exact decide_eq_false (by omega)
theorem lexL_tr : ∀ x y z : List Int, lexL y x = false → lexL z y = false → lexL z x = false
  | [], y, [], _, _ => rfl
  | [], [], _ :: _, _, h => rfl
  | [], _ :: _, _ :: _, _, _ => rfl
  | _ :: _, [], [], h, _ => by cases h
  | _ :: _, _ :: _, [], _, h => by cases h
  | _ :: _, [], _ :: _, h, _ => by cases h
  | x :: xs, y :: ys, z :: zs, h1, h2 => by
    unfold lexL at h1 h2 ⊢
    by_cases e1 : y = x
    · by_cases e2 : z = y
      · rw [if_pos e1] at h1; rw [if_pos e2] at h2; rw [if_pos (e2.trans e1)]; exact lexL_tr xs ys zs h1 h2
      · rw [if_neg e2] at h2; rw [if_neg (fun q => e2 (q.trans e1.symm))]
        have := of_decide_eq_false h2
        exact decide_eq_false (by omega)
    · rw [if_neg e1] at h1
      have a := of_decide_eq_false h1
      by_cases e2 : z = y
      · rw [if_neg (fun q => e1 (e2.symm.trans q))]; exact decide_eq_false (by omega)
      · rw [if_neg e2] at h2
        have b := of_decide_eq_false h2
        rw [if_neg (by omega)]
        exact decide_eq_false (by omega)
theorem lexL_total : ∀ x y : List Int, lexL x y = false → lexL y x = false → x = y
  | [], [], _, _ => rfl
  | [], _ :: _, h, _ => by cases h
  | _ :: _, [], _, h => by cases h
  | x :: xs, y :: ys, h1, h2 => by
    unfold lexL at h1 h2
    by_cases e : x = y
    · subst e
      rw [if_pos rfl] at h1 h2
      rw [lexL_total xs ys h1 h2]
    · rw [if_neg e] at h1; rw [if_neg (fun z => e z.symm)] at h2
      have a := of_decide_eq_false h1
      have b := of_decide_eq_false h2
      omega
theorem lexL_swo {α : Type} (k : α → List Int) : SrtO.Swo fun v u => lexL (k v) (k u) := ⟨fun x y => lexL_asym _ _, fun x y z h1 h2 => lexL_tr _ _ _ h1 h2⟩
section
variable {prog : Program} {w : World} {A : Around} {E : Value → Shared → Prop} {s : Shared}
theorem kat_lex {Q : Bool → Shared → Prop} {b fin : Bool} {xs ys : List Value} {ns ms : List Int} (i : Nat) (hx : IntsAre xs ns) (hy : IntsAre ys ms) (hf : fin = decide (ns.length < ms.length)) (h : Q (lexL ns ms) s) :
    PySem.W.KatLex prog w A b fin Q (xs.zip ys) i s := by
  induction hx generalizing ys ms i with
  | nil =>
    cases hy with
    | nil => exact PySem.W.kat_nil (by rw [hf]; exact h)
    | cons q u hy => exact PySem.W.kat_nil (by rw [hf, decide_eq_true (by simp)]; exact h)
  | @cons p t xs ns hx ih =>
    cases hy with
    | nil => exact PySem.W.kat_nil (by rw [hf, decide_eq_false (by simp)]; exact h)
    | @cons q u ys ms hy =>
      refine PySem.W.kat_cons (SeqAt.EqAt.int_int p t q u prog w _ _ ?_)
      refine PySem.W.kat_go (fun e1 => ?_) (fun e1 => ?_)
      · have ex : p = q := by simpa using e1
        have e3 : lexL (p :: ns) (q :: ms) = lexL ns ms := if_pos ex
        rw [e3] at h
        exact PySem.W.kat_yes (ih (i + 1) hy (by rw [hf]; simp) h)
      · have ex : ¬ p = q := by simpa using e1
        have e3 : lexL (p :: ns) (q :: ms) = decide (p < q) := if_neg ex
        rw [e3] at h
        exact PySem.W.kat_no (TS.oneLt_ints _ h)
theorem tups_cmp {vs : List Value} {k : Value → List Int} (hp : ∀ v ∈ vs, TS.TupInts s.heap v (k v)) : SrtO.Cmp prog w A s (tuples' true) (fun p => p.1 ∈ vs) (SrtO.lt2 fun v u => lexL (k v) (k u)) := by
  intro p q hm hm'
  obtain ⟨a, xs, e, ⟨o, ho, hc, n, hd⟩, hx⟩ := hp _ hm
  obtain ⟨a', ys, e', ⟨o', ho', hc', n', hd'⟩, hy⟩ := hp _ hm'
  show wpAny (model prog w) A (keyLt' (tuples' true) p.1 q.1) (fun r s' => s' = s ∧ r = lexL (k p.1) (k q.1)) (fun _ _ => False) s
  rw [show keyLt' (tuples' true) p.1 q.1 = keyLt' (tuples' true) (.ref a) (.ref a') from by rw [e, e']]
  refine PySem.W.kat_lt ho hd ho' hd' (kat_lex 0 hx hy ?_ ⟨rfl, rfl⟩)
  have l1 := hx.length
  have l2 := hy.length
  rw [Array.length_toList] at l1 l2
  rw [l1, l2]
theorem tups_firsts {h : Heap} {k : Value → List Int} : ∀ vs : List Value, (∀ v ∈ vs, TS.TupInts h v (k v) ∧ k v ≠ []) → ∃ fs, PySem.W.KatTups h vs fs ∧ fs.length = vs.length ∧ ∀ f ∈ fs, ∃ n t, f = Value.int n t
  | [], _ => ⟨[], PySem.W.KatTups.nil, rfl, fun f hf => by simp at hf⟩
  | v :: vs, x => by
    obtain ⟨fs, kt, hl, hi⟩ := tups_firsts (h := h) (k := k) vs fun u hu => x u (List.mem_cons_of_mem _ hu)
    obtain ⟨⟨a, xs, rfl, ⟨o, ho, hc, n, hdt⟩, i⟩, hne⟩ := x v List.mem_cons_self
    obtain ⟨y, ys, e⟩ : ∃ y ys, xs.toList = y :: ys := by
      cases q : xs.toList with
      | nil =>
        rw [q] at i
        have l := i.length
        exact absurd (List.eq_nil_of_length_eq_zero l.symm) hne
      | cons y ys => exact ⟨y, ys, rfl⟩
    obtain ⟨m, t, hy⟩ := i.all y (by rw [e]; exact List.mem_cons_self)
    refine ⟨y :: fs, PySem.W.KatTups.cons ho hc hdt ?_ kt, by rw [List.length_cons, List.length_cons, hl], fun f hf => ?_⟩
    · have z := congrArg (fun l : List Value => l[0]?) e
      simpa using z
    · rcases List.mem_cons.mp hf with q | q
      · exact ⟨m, t, q.trans hy⟩
      · exact hi f q
theorem tups_sortable {a : Addr} {vs : List Value} {k : Value → List Int} (h2 : 2 ≤ vs.length) (hp : ∀ v ∈ vs, TS.TupInts s.heap v (k v) ∧ k v ≠ []) (ha : ∀ o, s.heap.get? a = some o → o.cls ≠ .type "tuple") : SrtO.SortableO prog w A s a vs fun v u => lexL (k v) (k u) := by
  intro h' keep
  have hp' : ∀ v ∈ vs, TS.TupInts h' v (k v) ∧ k v ≠ [] := fun v hm => ⟨(hp v hm).1.keeps fun b o e c => keep b o (fun z => by subst z; exact ha o e c) e, (hp v hm).2⟩
  obtain ⟨fs, k1, k2, k3⟩ := tups_firsts vs hp'
  refine ⟨tuples' true, fun Q E hq => ?_, tups_cmp fun v hv => (hp' v hv).1⟩
  refine PySem.W.kat_kind (T := .type "int") k1 (by omega) (fun f hm => ?_) (by rfl) ?_
  · obtain ⟨x, t, rfl⟩ := k3 f hm
    exact PySem.W.Looks.now
  · have e : (Value.type "int" != Value.type "tuple") = true := by first | decide +kernel | rfl | decide
    rw [e]
    exact hq
end
/-- sorted(xs), xs a list of tuples of ints, none empty: a new list of the same, in Python's order -/
def rSortL (K : PySem.W.Frag) : List V → Hp → VK → Prop := fun vs H Q => ∃ (a : Addr) (xs : List V) (k : V → List Int), vs = [V.ref a] ∧ SqL K H a xs ∧ (∀ x ∈ xs, ∃ t, x = V.ref t ∧ SqT K H t ((k x).map V.int) ∧ k x ≠ []) ∧
  ∀ ys p, ys.Perm xs → SrtO.Srtd (fun x y => lexL (k x) (k y)) ys → H p = none → Q (.ref p) (upd H p (.lst ys))
section
variable {X : Cx}
theorem cr_sortL : CallR X (.builtin "sorted") (rSortL X.K) := by
  intro pins s σ H vs us Q I r h
  obtain ⟨a, xs, k, rfl, hs, hx, q⟩ := h
  obtain ⟨its, rv, hl, hz⟩ := I.list hs
  obtain ⟨u, rfl, ru⟩ := vals1 r
  obtain rfl : u = Value.ref a := ru
  obtain ⟨e1, e2⟩ := refs_back rv fun x m => by
    obtain ⟨t, e, _⟩ := hx x m
    exact ⟨t, e⟩
  have hp : ∀ v ∈ its, TS.TupInts s.heap v (k (backV v)) ∧ k (backV v) ≠ [] := fun v hv => by
    obtain ⟨t, rfl⟩ := e2 v hv
    have hm : V.ref t ∈ xs := by rw [e1]; exact List.mem_map.mpr ⟨_, hv, rfl⟩
    obtain ⟨t', e, ht, hne⟩ := hx _ hm
    cases e
    exact ⟨tupI_raw I ht, hne⟩
  refine SrtO.sorted_ord (lexL_swo fun u => k (backV u)) hl.isList (by rw [← rv.length]; exact hz) (fun h2 h₁ b hb kk => ?_) fun out h1 h2 => ?_
  · refine tups_sortable (s := { s with heap := h₁ }) (by omega) (fun v hm => ⟨(hp v hm).1.keeps fun c o e _ => (kk c o e).2, (hp v hm).2⟩) fun o e => ?_
    have e' : some o = some (seqObj "list" its.toArray 0) := e.symm.trans hb
    cases e'
    intro c
    exact absurd (Value.type.inj c) (by decide)
  · have kp : ∀ b o, s.heap.get? b = some o → (PyProof.Rows.sortedAll s.heap its out.toArray).get? b = some o := fun b o e => PyProof.Rows.sortedAll_old e
    have hd : s.heap.objs.size ≤ s.heap.objs.size + 1 := Nat.le_succ _
    obtain ⟨n, hn⟩ := PyProof.Rows.sortedAll_at s.heap its out.toArray
    have h3 : ∀ u ∈ out, ∃ a, u = Value.ref a := fun u hu => e2 u (h2.perm.mem_iff.mp hu)
    have hb : SrtO.Stb (fun x y => lexL (k x) (k y)) (out.map backV) xs := by
      rw [e1]
      exact SrtO.Stb.map (lexL_swo k) backV h2
    refine ⟨.ref (s.heap.objs.size + 1), upd H (s.heap.objs.size + 1) (.lst (out.map backV)), I.laid (t' := s.toks) kp hd ⟨?_, out, n, vals_back h3, hn⟩, rfl, q _ _ hb.perm (SrtO.srtd_map h1) (I.hok.fresh hd)⟩
    rw [hb.len]
    exact hz
/-! ### x in a tuple of data -/
def rInDT (K : PySem.W.Frag) (neg : Bool) : R2 := fun x y H Q => ∃ d ds, Dp K H x d ∧ Dp K H y (.tuple ds) ∧ SeqAt.shaped d = true ∧ SeqAt.shaped (.tuple ds) = true ∧ Q (.bl (if neg then !(ds.any fun z => PyData.eqv z d) else ds.any fun z => PyData.eqv z d)) H
theorem op_inDT (hu : X.A.units + 65 < cLine) : OpR X (compareOp .In) (rInDT X.K false) := by
  intro pins s σ H x y v u Q I rx ry h
  obtain ⟨d, ds, hd, he, sd, se, q⟩ := h
  obtain ⟨as, r1⟩ := Dp.reads I d x v hd rx
  obtain ⟨bs, r2⟩ := Dp.reads I (.tuple ds) y u he ry
  exact SeqAt.in_tuple_reads r2 r1 (SeqAt.canLay_of_shaped se) (SeqAt.canLay_of_shaped sd) (room_in_shaped sd hu) ⟨.bl _, H, I, rfl, q⟩
theorem op_notInDT (hu : X.A.units + 65 < cLine) : OpR X (compareOp .NotIn) (rInDT X.K true) := by
  intro pins s σ H x y v u Q I rx ry h
  obtain ⟨d, ds, hd, he, sd, se, q⟩ := h
  obtain ⟨as, r1⟩ := Dp.reads I d x v hd rx
  obtain ⟨bs, r2⟩ := Dp.reads I (.tuple ds) y u he ry
  exact SeqAt.notIn_tuple_reads r2 r1 (SeqAt.canLay_of_shaped se) (SeqAt.canLay_of_shaped sd) (room_in_shaped sd hu) ⟨.bl _, H, I, rfl, q⟩
end
end GE

set_option Elab.async false
set_option linter.all false
set_option maxRecDepth 100000
set_option maxHeartbeats 2000000
/-! sorted(tuple of ints) -/
namespace GE
open PySem PySem.Spec PyProof.Rows L2
section
variable {prog : Program} {w : World} {A : Around} {E : Value → Shared → Prop} {s : Shared}
theorem collect_tupV {l : Addr} {vs : List Value} {Q : List Value → Shared → Prop} (hl : s.heap.IsTuple l vs.toArray)
    (h : Q vs { s with heap := (s.heap.push (seqObj "list" #[] 0)).update s.heap.objs.size (Obj.mapSeq (· ++ vs.toArray)) }) (hsz : vs.length ≤ sizeLine) : wpAny (model prog w) A (collect (.ref l)) Q E s := by
  obtain ⟨o, ho, hc, n, hd⟩ := id hl
  have ho' : (s.heap.push (seqObj "list" #[] 0)).get? l = some o := Heap.get?_push_of_some _ ho
  have hn0 : (s.heap.push (seqObj "list" #[] 0)).get? s.heap.objs.size = some (seqObj "list" #[] 0) := Heap.get?_push_size _ rfl
  unfold collect
  refine wpAny_bind (wpAny_runValue (codeAny_builtin entry_proto_collect' ?_))
  show wpAny _ _ (do again (.builtin "list.__iadd__" ⟨[← newList [], .ref l], []⟩)) _ _ s
  refine wpAny_bind (wpAny_newList (wpAny_pure ⟨Code.quiet_builtin _ (by decide +kernel), codeAny_builtin entry_list_iadd' ?_⟩))
  show wpAny _ _ (Builtin.List.listExtendWith (.ref s.heap.objs.size) (.ref l) (.ref s.heap.objs.size)) _ _ { s with heap := s.heap.push (seqObj "list" #[] 0) }
  unfold Builtin.List.listExtendWith
  refine wpAny_bind (wpAny_typeOf (T := "tuple") ⟨o, ho', hc⟩ ?_)
  have ht : (Value.type "tuple" == Value.type "tuple") = true := by rfl
  rw [if_pos (by rw [ht]; simp)]
  refine wpAny_bind (listItems_at ho' hd (wpAny_bind (listItems_at (xs := #[]) (n := 0) hn0 rfl ?_)))
  rw [if_neg (by simp)]
  have hb : (#[] ++ vs.toArray).size ≤ sizeLine + 1 := by simp only [Array.size_append, List.size_toArray, List.length_nil]; omega
  refine wpAny_bind (listUpdate_at (xs := #[]) (n := 0) hn0 rfl (wpAny_pure ?_) (Nat.zero_le _) hb)
  show wpAny (model prog w) A (load s.heap.objs.size >>= fun o => match o.data with | .seq xs _ => pure xs.toList | _ => unsupported "internal:collect") Q E _
  refine wpAny_bind (wpAny_load (get?_update_seq hn0 _) ?_)
  show wpAny (model prog w) A (pure ((#[] : Array Value) ++ vs.toArray).toList) Q E _
  have e : ((#[] : Array Value) ++ vs.toArray).toList = vs := by simp
  rw [e]; exact wpAny_pure h
theorem sorted_ordT {l : Addr} {vs : List Value} {ltv : Value → Value → Bool} {Q : Value → Shared → Prop} (O : SrtO.Swo ltv) (hl : s.heap.IsTuple l vs.toArray) (hz : vs.length ≤ sizeLine)
    (hS : 2 ≤ vs.length → ∀ (h₁ : Heap) (a : Addr), SrtO.SortableO prog w A.in1.in1 { s with heap := h₁ } a vs ltv)
    (h : ∀ out : List Value, SrtO.Srtd ltv out → SrtO.Stb ltv out vs → Q (.ref (s.heap.objs.size + 1)) { s with heap := PyProof.Rows.sortedAll s.heap vs out.toArray }) :
    wpAny (model prog w) A (call (.builtin "sorted") [.ref l]) Q E s := by
  refine Calls.call_function_entry kind_sorted plain_sorted entry_sorted (args_sorted1 _) ?_
  unfold Builtin.«sorted»
  refine wpAny_bind (m := checkCount "sorted" 1 1 _) (wpAny_pure ?_)
  refine wpAny_bind (collect_tupV hl (wpAny_bind (wpAny_newList ?_ hz)) hz)
  have hsz : ((s.heap.push (seqObj "list" #[] 0)).update s.heap.objs.size (Obj.mapSeq (· ++ vs.toArray))).objs.size = s.heap.objs.size + 1 := by rw [Heap.size_update]; exact Heap.size_push ..
  have hoL : (((s.heap.push (seqObj "list" #[] 0)).update s.heap.objs.size (Obj.mapSeq (· ++ vs.toArray))).push (seqObj "list" vs.toArray 0)).get? (s.heap.objs.size + 1) = some (seqObj "list" vs.toArray 0) := by rw [← hsz]; exact Heap.get?_push_size _ rfl
  show wpAny _ _ _ _ _ { s with heap := ((s.heap.push (seqObj "list" #[] 0)).update s.heap.objs.size (Obj.mapSeq (· ++ vs.toArray))).push (seqObj "list" vs.toArray 0) }
  rw [hsz]
  have fin := SrtO.list_sort_ord (prog := prog) (w := w) (A := A.in1.in1) (E := E) (s := { s with heap := ((s.heap.push (seqObj "list" #[] 0)).update s.heap.objs.size (Obj.mapSeq (· ++ vs.toArray))).push (seqObj "list" vs.toArray 0) }) (R := fun fin s' => ∃ v, fin = .done (.ret v) ∧ Q (.ref (s.heap.objs.size + 1)) s') O hoL hz (fun h2 => hS h2 _ _) fun out hs hb => ⟨_, rfl, h out hs hb⟩
  refine wpAny_bind (wpAny_holding (wpAny_call_entry slot_list_sort ⟨_, hoL, rfl⟩ entry_list_sort (wpAny_mono fin (fun f s' ⟨v, e, q⟩ => ⟨v, e, wpAny_pure ⟨_, rfl, q⟩⟩) fun _ _ x => x) (args_list_sort _)))
end
/-- sorted(t), t a tuple of ints -/
def rSortedTI (K : PySem.W.Frag) : List V → Hp → VK → Prop := fun vs H Q => ∃ (a : Addr) (ns : List Int), vs = [V.ref a] ∧ SqT K H a (ns.map V.int) ∧
  ∀ (ms : List Int) (p : Addr), ms.Perm ns → ms.Pairwise (· ≤ ·) → H p = none → Q (.ref p) (upd H p (.lst (ms.map V.int)))
theorem cr_sortedTI {X : Cx} : CallR X (.builtin "sorted") (rSortedTI X.K) := by
  intro pins s σ H vs us Q I r h
  obtain ⟨a, ns, rfl, hs, q⟩ := h
  obtain ⟨its, rv, hl, hz⟩ := I.tuple hs
  rw [Vals.ref1 r]
  have hi := rv.ints
  have hz' : its.length ≤ sizeLine := by rw [← rv.length]; exact hz
  refine sorted_ordT SrtO.swo_int (show s.heap.IsTuple a its.toArray from hl) hz' (fun h2 h₁ a' => SrtO.ints_sortable hi h2) fun out h1 h2 => ?_
  obtain ⟨k1, k2, k3⟩ := SrtO.ints_out hi h1 h2
  obtain ⟨ep, he'⟩ := PyProof.Rows.sortedAll_at s.heap its out.toArray
  have hlen : ((out.map SrtO.iv).map V.int).length ≤ sizeLine := by
    rw [List.length_map, k2.length_eq]; rw [List.length_map] at hz; exact hz
  have kp : ∀ b o, s.heap.get? b = some o → (PyProof.Rows.sortedAll s.heap its out.toArray).get? b = some o := fun _ _ => PyProof.Rows.sortedAll_old
  exact ⟨.ref _, upd H (s.heap.objs.size + 1) (.lst ((out.map SrtO.iv).map V.int)), I.laid (t' := s.toks) kp (Nat.le_succ _) ⟨hlen, out, ep, vals_of_ints k1, he'⟩, rfl, q _ _ k2 k3 (I.hok.fresh (Nat.le_succ _))⟩
/-- an attribute, the fragment named -/
theorem pe_fldK {X : Cx} {K : PySem.W.Frag} {e : Expr} {ta : TE} {f : Str} {pos : Pos} (he : PE X e ta) (hb : attributeBase e f X.env (eval e X.env) = eval e X.env) (h : X.K = K := by rfl) : PE X (.Attribute e f pos) (tFld K ta f) := h ▸ pe_fld he hb
/-- a statement that is never reached -/
theorem ps_no {X : Cx} {st : Stmt} : PS X st (fun _ _ _ => False) := ⟨fun _ _ _ _ _ _ h => h.elim⟩
end GE

set_option Elab.async false
set_option linter.all false
set_option maxRecDepth 100000
set_option maxHeartbeats 4000000
namespace Mw
open PySem PySem.Spec PyProof.Rows L2 GE
/-! ### a Field -/
def natsV (l : List Nat) : List V := l.map fun x => V.int (x : Nat)
structure FAd where
  p : Addr
  lt : Addr
  lw : Addr
  lh : Addr
  ld : Addr
  wt : V
def ff (tv : V) (a : FAd) : List (Str × V) := [("time", tv), ("taken", .ref a.lt), ("widths", .ref a.lw), ("_ways", a.wt), ("_homes", .ref a.lh), ("_depths", .ref a.ld)]
theorem ff_time (tv : V) (a : FAd) : (ff tv a).lookup ("time" : Str) = some tv := by rfl
theorem ff_taken (tv : V) (a : FAd) : (ff tv a).lookup ("taken" : Str) = some (.ref a.lt) := by rfl
theorem ff_widths (tv : V) (a : FAd) : (ff tv a).lookup ("widths" : Str) = some (.ref a.lw) := by rfl
theorem ff_ways (tv : V) (a : FAd) : (ff tv a).lookup ("_ways" : Str) = some a.wt := by rfl
theorem ff_homes (tv : V) (a : FAd) : (ff tv a).lookup ("_homes" : Str) = some (.ref a.lh) := by rfl
theorem ff_depths (tv : V) (a : FAd) : (ff tv a).lookup ("_depths" : Str) = some (.ref a.ld) := by rfl
theorem ff_put (tv uv : V) (a : FAd) : putF "time" uv (ff tv a) = ff uv a := by rfl
structure FTx (K : PySem.W.Frag) (aC : Addr) : Prop where
  cl : Cls K aC
  n_time : NoAttr K aC "time"
  n_taken : NoAttr K aC "taken"
  n_widths : NoAttr K aC "widths"
  n_ways : NoAttr K aC "_ways"
  n_homes : NoAttr K aC "_homes"
  n_depths : NoAttr K aC "_depths"
def Fm (a : FAd) : Addr → Prop := fun b => b = a.p ∨ b = a.lt ∨ b = a.lw ∨ b = a.lh ∨ b = a.ld
def TkL (K : PySem.W.Frag) (H : Hp) : List (Int × Nat) → List V → Prop
  | [], vs => vs = []
  | (t, c) :: r, vs => ∃ a tv us, vs = .ref a :: us ∧ H a = some (.tup [tv, .int (c : Nat)]) ∧ FrV K H t tv ∧ TkL K H r us
def keyOf (k : List Nat) : List Key := k.map fun (x : Nat) => (Sum.inl (x : Int) : Key)
def WdL (K : PySem.W.Frag) (H : Hp) : List (List Nat × Int) → List (List Key × V) → Prop
  | [], vs => vs = []
  | (k, s) :: r, vs => ∃ v us, vs = (keyOf k, v) :: us ∧ FrV K H s v ∧ WdL K H r us
structure FieldAt (K : PySem.W.Frag) (aC : Addr) (H : Hp) (a : FAd) (n : Nat) (ws : Wl) (S : Gs) : Prop where
  ob : ∃ dx tv, H a.p = some (.ins aC dx (ff tv a)) ∧ FrV K H S.time tv
  tk : ∃ vs, H a.lt = some (.lst vs) ∧ TkL K H S.taken vs
  wd : ∃ kvs, H a.lw = some (.dT kvs) ∧ WdL K H S.wid kvs
  hm : ∃ vs, H a.lh = some (.lst vs) ∧ vs.length = n ∧ ∀ x, x < n → ∃ t, vs[x]? = some (.ref t) ∧ H t = some (.tup (natsV (cls S.h n x)))
  dp : ∃ vs, H a.ld = some (.lst vs) ∧ vs.length = n ∧ ∀ x, x < n → ∃ v, vs[x]? = some v ∧ FrV K H (S.dep x) v
  wy : ∃ wa us, a.wt = .ref wa ∧ H wa = some (.tup us) ∧ RpL H (ws.map wayD) us
  ne : a.lt ≠ a.lh ∧ a.lt ≠ a.ld ∧ a.lh ≠ a.ld
section
variable {K : PySem.W.Frag} {T : List Addr} {H H' : Hp}
/-- tuples stay, whatever else changes -/
structure Tp (K : PySem.W.Frag) (H H' : Hp) : Prop where
  tup : ∀ b xs, H b = some (.tup xs) → H' b = some (.tup xs)
  sq : ∀ b xs, SqT K H b xs → SqT K H' b xs
theorem Tp.of (e : Ext T noM H H') : Tp K H H' := ⟨fun b xs h => e.tup (fun z => z) h, fun b xs h => SqT.x h e fun z => z⟩
theorem Tp.refl : Tp K H H := ⟨fun _ _ h => h, fun _ _ h => h⟩
theorem Tp.trans {H2 : Hp} (a : Tp K H H') (b : Tp K H' H2) : Tp K H H2 := ⟨fun x xs h => b.tup x xs (a.tup x xs h), fun x xs h => b.sq x xs (a.sq x xs h)⟩
theorem Tp.mut {p : Addr} {old new : HO} (h : H p = some old) (n1 : ∀ xs, old ≠ .tup xs) (n2 : ∀ o xs, old ≠ .frz o xs) : Tp K H (upd H p new) := by
  refine ⟨fun b xs hb => ?_, fun b xs hb => ?_⟩
  · rw [upd_ne (fun z => by rw [z, h] at hb; exact n1 xs (Option.some.inj hb))]; exact hb
  · rcases hb with (hb | ⟨o, hb⟩) | hb
    · exact .inl (.inl (by rw [upd_ne (fun z => by rw [z, h] at hb; exact n1 xs (Option.some.inj hb))]; exact hb))
    · exact .inl (.inr ⟨o, by rw [upd_ne (fun z => by rw [z, h] at hb; exact n2 o _ (Option.some.inj hb))]; exact hb⟩)
    · exact .inr hb
theorem Tp.only {p : Addr} {old : HO} (h : H p = some old) (n1 : ∀ xs, old ≠ .tup xs) (n2 : ∀ o xs, old ≠ .frz o xs) (ho : ∀ b, b ≠ p → H' b = H b) : Tp K H H' := by
  refine ⟨fun b xs hb => ?_, fun b xs hb => ?_⟩
  · rw [ho b fun z => by rw [z, h] at hb; exact n1 xs (Option.some.inj hb)]; exact hb
  · rcases hb with (hb | ⟨o, hb⟩) | hb
    · exact .inl (.inl (by rw [ho b fun z => by rw [z, h] at hb; exact n1 xs (Option.some.inj hb)]; exact hb))
    · exact .inl (.inr ⟨o, by rw [ho b fun z => by rw [z, h] at hb; exact n2 o _ (Option.some.inj hb)]; exact hb⟩)
    · exact .inr hb
theorem Ext.only {M : Addr → Prop} {p : Addr} {old new : HO} (hM : M p) (h : H p = some old) (n : ∀ ps, old ≠ .tbl ps) (h' : H' p = some new) (ho : ∀ b, b ≠ p → H' b = H b) : Ext T M H H' := by
  refine ⟨fun b o m e _ => by rw [ho b fun z => m (z ▸ hM)]; exact e, fun P _ hg => ?_, fun b e => ?_⟩
  · have hne := tabG_ne hg h n
    obtain ⟨ps, hp, ht⟩ := hg
    exact ⟨ps, by rw [ho P hne]; exact hp, ht⟩
  · by_cases z : b = p
    · rw [z, h'] at e; cases e
    · rw [ho b z] at e; exact e
theorem Tp.fr (t : Tp K H H') {u : Int} {v : V} (h : FrV K H u v) : FrV K H' u v := by
  obtain ⟨a, rfl, h⟩ := h
  exact ⟨a, rfl, t.sq _ _ h⟩
theorem Tp.tk (t : Tp K H H') : ∀ {l : List (Int × Nat)} {vs : List V}, TkL K H l vs → TkL K H' l vs
  | [], vs, h => h
  | (s, c) :: r, vs, ⟨a, tv, us, e, h1, h2, h3⟩ => ⟨a, tv, us, e, t.tup _ _ h1, t.fr h2, Tp.tk t h3⟩
theorem Tp.wd (t : Tp K H H') : ∀ {l : List (List Nat × Int)} {vs : List (List Key × V)}, WdL K H l vs → WdL K H' l vs
  | [], vs, h => h
  | (k, s) :: r, vs, ⟨v, us, e, h2, h3⟩ => ⟨v, us, e, t.fr h2, Tp.wd t h3⟩
mutual
theorem Tp.rp (t : Tp K H H') : ∀ {d : D} {v : V}, Rp H d v → Rp H' d v
  | .i n, v, h => by rw [h.i]; exact rp_i n
  | .non, v, h => by unfold Rp at h ⊢; exact h
  | .bl b, v, h => by unfold Rp at h ⊢; exact h
  | .t ds, v, h => by
    obtain ⟨a, vs, rfl, h1, h2⟩ := h.t
    exact rp_t (t.tup _ _ h1) (Tp.rpl t h2)
theorem Tp.rpl (t : Tp K H H') : ∀ {ds : List D} {vs : List V}, RpL H ds vs → RpL H' ds vs
  | [], vs, h => by rw [h.nil]; exact rpl_nil
  | d :: ds, vs, h => by
    obtain ⟨v, r, rfl, h1, h2⟩ := h.cons
    exact rpl_cons (Tp.rp t h1) (Tp.rpl t h2)
end
theorem FieldAt.x {aC : Addr} {a : FAd} {n : Nat} {ws : Wl} {S : Gs} (F : FieldAt K aC H a n ws S) (e : Ext T noM H H') : FieldAt K aC H' a n ws S := by
  have t : Tp K H H' := Tp.of e
  obtain ⟨dx, tv, h1, h2⟩ := F.ob
  obtain ⟨v1, a1, a2⟩ := F.tk
  obtain ⟨v2, b1, b2⟩ := F.wd
  obtain ⟨v3, c1, c2, c3⟩ := F.hm
  obtain ⟨v4, d1, d2, d3⟩ := F.dp
  obtain ⟨wa, us, e1, e2, e3⟩ := F.wy
  exact ⟨⟨dx, tv, e.kp _ _ (fun z => z) h1 (fun ps z => nomatch z), t.fr h2⟩, ⟨v1, e.lst (fun z => z) a1, t.tk a2⟩, ⟨v2, e.kp _ _ (fun z => z) b1 (fun ps z => nomatch z), t.wd b2⟩,
    ⟨v3, e.lst (fun z => z) c1, c2, fun x hx => by obtain ⟨s, q1, q2⟩ := c3 x hx; exact ⟨s, q1, t.tup _ _ q2⟩⟩,
    ⟨v4, e.lst (fun z => z) d1, d2, fun x hx => by obtain ⟨s, q1, q2⟩ := d3 x hx; exact ⟨s, q1, t.fr q2⟩⟩, ⟨wa, us, e1, t.tup _ _ e2, t.rpl e3⟩, F.ne⟩
end
theorem natsV_inj {l m : List Nat} (h : natsV l = natsV m) : l = m := by
  unfold natsV at h
  exact List.map_inj_right (f := fun x : Nat => V.int (x : Nat)) (fun a b e => by injection e with e; omega) |>.mp h
def natD (l : List Nat) : PyData := .tuple (l.map fun x : Nat => .int (x : Int))
theorem eqv_nat : ∀ l m : List Nat, PyData.eqvAll (l.map fun x : Nat => .int (x : Int)) (m.map fun x : Nat => .int (x : Int)) = decide (l = m)
  | [], [] => rfl
  | [], _ :: _ => rfl
  | _ :: _, [] => rfl
  | x :: l, y :: m => by
    show ((x : Int) == (y : Int) && PyData.eqvAll _ _) = _
    rw [eqv_nat l m]
    by_cases e : x = y
    · subst e
      by_cases e2 : l = m
      · subst e2; simp
      · simp [e2]
    · have : ((x : Int) == (y : Int)) = false := beq_eq_false_iff_ne.mpr (by omega)
      rw [this, Bool.false_and]
      exact (decide_eq_false fun z => e (List.cons.inj z).1).symm
theorem natD_all : ∀ l : List Nat, PyData.canLayAll0 (l.map fun x : Nat => .int (x : Int)) = true ∧ PyData.depthAll (l.map fun x : Nat => .int (x : Int)) = 0
  | [] => ⟨rfl, rfl⟩
  | x :: l => by
    obtain ⟨h1, h2⟩ := natD_all l
    simp only [List.map_cons, PyData.canLayAll0, PyData.depthAll, h1, h2, PyData.canLay0, PyData.depth]
    exact ⟨rfl, rfl⟩
theorem natD_shaped (l : List Nat) : SeqAt.shaped (natD l) = true := by
  obtain ⟨h1, h2⟩ := natD_all l
  show (PyData.canLayAll0 _ && decide (PyData.depthAll _ + 1 ≤ 64)) = true
  rw [h1, h2]; rfl
theorem dp_nats {K : PySem.W.Frag} {H : Hp} : ∀ l : List Nat, DpAll K H (natsV l) (l.map fun x : Nat => .int (x : Int))
  | [] => .nil
  | x :: l => .cons (.int _) (dp_nats l)
theorem dp_nat {K : PySem.W.Frag} {H : Hp} {a : Addr} {l : List Nat} (h : H a = some (.tup (natsV l))) : Dp K H (.ref a) (natD l) := .tup (SqT.of h) (dp_nats l)
theorem way_get2 {H : Hp} {ws : Wl} {us : List V} (r : RpL H (ws.map wayD) us) {c : Nat} (hc : c < ws.length) : ∃ a, us[c]? = some (.ref a) ∧ H a = some (.tup [.int (way ws c).1, .int (way ws c).2.1, .int (way ws c).2.2]) := by
  have e : ws[c]? = some (way ws c) := by
    unfold way; rw [List.getD_eq_getElem?_getD, List.getElem?_eq_getElem hc]; rfl
  obtain ⟨v, h1, h2⟩ := r.get (i := c) (d := wayD (way ws c)) (by rw [List.getElem?_map, e]; rfl)
  obtain ⟨a, rfl, ha⟩ := way_at h2
  exact ⟨a, h1, ha⟩
theorem cls_eq {n : Nat} {es : List (Nat × Nat)} {h : Nat → Nat} (H : Hom n es h) {x y : Nat} (hx : x < n) (hy : y < n) : cls h n x = cls h n y ↔ h x = h y := by
  constructor
  · intro e
    have : x ∈ cls h n y := by rw [← e]; exact mem_cls.mpr ⟨hx, rfl⟩
    exact (mem_cls.mp this).2
  · intro e; unfold cls; rw [e]
theorem sort_nats {ns : List Int} {f : List Nat} (h : ns.Perm (f.map fun x : Nat => (x : Int))) (s : ns.Pairwise (· ≤ ·)) (nd : f.Nodup) : ∃ l : List Nat, ns = l.map (fun x : Nat => (x : Int)) ∧ l.Pairwise (· < ·) ∧ ∀ x, x ∈ l ↔ x ∈ f := by
  have hpos : ∀ z ∈ ns, ((z.toNat : Nat) : Int) = z := fun z hz => by
    obtain ⟨x, _, rfl⟩ := List.mem_map.mp (h.mem_iff.mp hz); rfl
  have e : ns = (ns.map Int.toNat).map (fun x : Nat => (x : Int)) := by
    rw [List.map_map]
    have := List.map_congr_left (f := id) (g := (fun x : Nat => (x : Int)) ∘ Int.toNat) fun z hz => (hpos z hz).symm
    rw [← this, List.map_id]
  have hp2 : (ns.map Int.toNat).Perm f := by
    have := h.map Int.toNat
    rw [List.map_map] at this
    have e2 : f.map (Int.toNat ∘ fun x : Nat => (x : Int)) = f := by
      have := List.map_congr_left (l := f) (f := Int.toNat ∘ fun x : Nat => (x : Int)) (g := id) fun z _ => by show Int.toNat (z : Int) = z; omega
      rw [this, List.map_id]
    rw [e2] at this; exact this
  have nd2 : (ns.map Int.toNat).Nodup := hp2.nodup_iff.mpr nd
  have s2 : (ns.map Int.toNat).Pairwise (· ≤ ·) := by
    rw [List.pairwise_map]
    exact s.imp fun {a b} hab => Int.toNat_le_toNat hab
  refine ⟨ns.map Int.toNat, e, ?_, fun x => hp2.mem_iff⟩
  exact (List.pairwise_and_iff.mpr ⟨s2, nd2⟩).imp fun {a b} hab => Nat.lt_of_le_of_ne hab.1 hab.2
theorem cls_len (h : Nat → Nat) (n p : Nat) : (cls h n p).length ≤ n := by
  have := List.length_filter_le (fun x => h x == h p) (List.range n); rw [List.length_range] at this; exact this
theorem reps_len (h : Nat → Nat) (n : Nat) : (reps h n).length ≤ n := by
  have := List.length_filter_le (fun x => h x == x) (List.range n); rw [List.length_range] at this; exact this
theorem cls_join {n : Nat} {es : List (Nat × Nat)} {h : Nat → Nat} (H : Hom n es h) {a b : Nat} (ha : a < n) (hb : b < n) (hne : h a ≠ h b) {ms : List Int} (hp : ms.Perm ((cls h n a ++ cls h n b).map fun x : Nat => (x : Int))) (hs : ms.Pairwise (· ≤ ·)) :
    ms = (cls (relab h a b) n a).map fun x : Nat => (x : Int) := by
  have nd : (cls h n a ++ cls h n b).Nodup := by
    rw [List.nodup_append]
    refine ⟨(cls_pw h n a).imp fun hab => Nat.ne_of_lt hab, (cls_pw h n b).imp fun hab => Nat.ne_of_lt hab, fun x hx y hy e => ?_⟩
    subst e
    exact hne ((mem_cls.mp hx).2.symm.trans (mem_cls.mp hy).2)
  obtain ⟨l, e, pw, hm⟩ := sort_nats hp hs nd
  rw [e]
  congr 1
  refine sorted_ext pw (cls_pw _ _ _) fun x => (hm x).trans ?_
  rw [List.mem_append, mem_cls, mem_cls, mem_cls]
  constructor
  · intro q
    have hx : x < n := by rcases q with q | q <;> exact q.1
    refine ⟨hx, ?_⟩
    have ea : relab h a b a = min (h a) (h b) := by rw [relab_eq H ha hb ha, if_pos (.inl rfl)]
    rw [relab_eq H ha hb hx, ea, if_pos (by rcases q with q | q; exact .inl q.2; exact .inr q.2)]
  · intro ⟨hx, q⟩
    rw [relab_eq H ha hb hx, relab_eq H ha hb ha, if_pos (c := h a = h a ∨ h a = h b) (.inl rfl)] at q
    by_cases z : h x = h a ∨ h x = h b
    · rcases z with z | z
      · exact .inl ⟨hx, z⟩
      · exact .inr ⟨hx, z⟩
    · rw [if_neg z] at q; omega
theorem cls_other {n : Nat} {es : List (Nat × Nat)} {h : Nat → Nat} (H : Hom n es h) {a b x : Nat} (ha : a < n) (hb : b < n) (hx : x < n) :
    (x ∈ cls (relab h a b) n a → cls (relab h a b) n x = cls (relab h a b) n a) ∧ (x ∉ cls (relab h a b) n a → cls (relab h a b) n x = cls h n x) := by
  constructor
  · intro q; have := (mem_cls.mp q).2; unfold cls; rw [this]
  · intro q
    have z : ¬ (h x = h a ∨ h x = h b) := fun z => q (mem_cls.mpr ⟨hx, by rw [show relab h a b a = min (h a) (h b) from by rw [relab_eq H ha hb ha, if_pos (.inl rfl)], relab_eq H ha hb hx, if_pos z]⟩)
    refine sorted_ext (cls_pw _ _ _) (cls_pw _ _ _) fun y => ?_
    rw [mem_cls, mem_cls]
    constructor
    · intro ⟨hy, e⟩
      refine ⟨hy, ?_⟩
      rw [relab_eq H ha hb hy, relab_eq H ha hb hx, if_neg z] at e
      by_cases w : h y = h a ∨ h y = h b
      · rw [if_pos w] at e; omega
      · rw [if_neg w] at e; exact e
    · intro ⟨hy, e⟩
      refine ⟨hy, ?_⟩
      rw [relab_eq H ha hb hy, relab_eq H ha hb hx, if_neg z, if_neg (by rw [e]; exact z)]; exact e
theorem TkL.snoc {K : PySem.W.Frag} {H : Hp} {t : Int} {c : Nat} {a : Addr} {tv : V} (ha : H a = some (.tup [tv, .int (c : Nat)])) (hf : FrV K H t tv) : ∀ {l : List (Int × Nat)} {vs : List V}, TkL K H l vs → TkL K H (l ++ [(t, c)]) (vs ++ [.ref a])
  | [], vs, h => by rw [show vs = [] from h]; exact ⟨a, tv, [], rfl, ha, hf, rfl⟩
  | (s, d) :: r, vs, ⟨b, sv, us, e, h1, h2, h3⟩ => by rw [e]; exact ⟨b, sv, us ++ [.ref a], rfl, h1, h2, TkL.snoc ha hf h3⟩
theorem TkL.len {K : PySem.W.Frag} {H : Hp} : ∀ {l : List (Int × Nat)} {vs : List V}, TkL K H l vs → vs.length = l.length
  | [], vs, h => by rw [show vs = [] from h] <;> rfl
  | (s, d) :: r, vs, ⟨b, sv, us, e, h1, h2, h3⟩ => by rw [e, List.length_cons, List.length_cons, TkL.len h3]
def firstV (ws : Wl) (S : Gs) : V := match first ws S with
  | some c => .int (c : Nat)
  | none => .non
theorem FieldAt.not {K : PySem.W.Frag} {aC : Addr} {H : Hp} {f : FAd} {n : Nat} {ws : Wl} {S : Gs} (F : FieldAt K aC H f n ws S) : ∀ b, Fm f b → ∃ o, H b = some o ∧ (∀ xs, o ≠ .tup xs) ∧ ∀ u xs, o ≠ .frz u xs := by
  obtain ⟨dx, tv, h1, h2⟩ := F.ob
  obtain ⟨v1, a1, a2⟩ := F.tk
  obtain ⟨v2, b1, b2⟩ := F.wd
  obtain ⟨v3, c1, c2, c3⟩ := F.hm
  obtain ⟨v4, d1, d2, d3⟩ := F.dp
  intro b hb
  rcases hb with z | z | z | z | z
  · exact ⟨(.ins aC dx (ff tv f)), by rw [z]; exact h1, (fun xs z => nomatch z), fun u xs z => nomatch z⟩
  · exact ⟨(.lst v1), by rw [z]; exact a1, (fun xs z => nomatch z), fun u xs z => nomatch z⟩
  · exact ⟨(.dT v2), by rw [z]; exact b1, (fun xs z => nomatch z), fun u xs z => nomatch z⟩
  · exact ⟨(.lst v3), by rw [z]; exact c1, (fun xs z => nomatch z), fun u xs z => nomatch z⟩
  · exact ⟨(.lst v4), by rw [z]; exact d1, (fun xs z => nomatch z), fun u xs z => nomatch z⟩
/-- a list that is no attribute is written -/
theorem FieldAt.o {K : PySem.W.Frag} {aC : Addr} {H : Hp} {f : FAd} {n : Nat} {ws : Wl} {S : Gs} {l : Addr} {xs ys : List V} (F : FieldAt K aC H f n ws S) (hl : ¬ Fm f l) (h : H l = some (.lst xs)) : FieldAt K aC (upd H l (.lst ys)) f n ws S := by
  have t : Tp K H (upd H l (.lst ys)) := Tp.mut h (fun xs z => nomatch z) (fun o xs z => nomatch z)
  have ne : ∀ b, Fm f b → b ≠ l := fun b m z => hl (z ▸ m)
  obtain ⟨dx, tv, h1, h2⟩ := F.ob
  obtain ⟨v1, a1, a2⟩ := F.tk
  obtain ⟨v2, b1, b2⟩ := F.wd
  obtain ⟨v3, c1, c2, c3⟩ := F.hm
  obtain ⟨v4, d1, d2, d3⟩ := F.dp
  obtain ⟨wa, us, e1, e2, e3⟩ := F.wy
  exact ⟨⟨dx, tv, by rw [upd_ne (ne _ (.inl rfl))]; exact h1, t.fr h2⟩, ⟨v1, by rw [upd_ne (ne _ (.inr (.inl rfl)))]; exact a1, t.tk a2⟩, ⟨v2, by rw [upd_ne (ne _ (.inr (.inr (.inl rfl))))]; exact b1, t.wd b2⟩,
    ⟨v3, by rw [upd_ne (ne _ (.inr (.inr (.inr (.inl rfl)))))]; exact c1, c2, fun x hx => by obtain ⟨s, q1, q2⟩ := c3 x hx; exact ⟨s, q1, t.tup _ _ q2⟩⟩,
    ⟨v4, by rw [upd_ne (ne _ (.inr (.inr (.inr (.inr rfl)))))]; exact d1, d2, fun x hx => by obtain ⟨v, q1, q2⟩ := d3 x hx; exact ⟨v, q1, t.fr q2⟩⟩, ⟨wa, us, e1, t.tup _ _ e2, t.rpl e3⟩, F.ne⟩
theorem Tp.ofF {K : PySem.W.Frag} {T : List Addr} {aC : Addr} {H H' : Hp} {f : FAd} {n : Nat} {ws : Wl} {S : Gs} (F : FieldAt K aC H f n ws S) (e : Ext T (Fm f) H H') : Tp K H H' := by
  have nm : ∀ b xs, H b = some (.tup xs) → ¬ Fm f b := fun b xs h m => by
    obtain ⟨o, h1, h2, _⟩ := F.not b m
    rw [h] at h1; exact h2 xs (Option.some.inj h1).symm
  have nf : ∀ b u xs, H b = some (.frz u xs) → ¬ Fm f b := fun b u xs h m => by
    obtain ⟨o, h1, _, h3⟩ := F.not b m
    rw [h] at h1; exact h3 u xs (Option.some.inj h1).symm
  refine ⟨fun b xs h => e.tup (nm b xs h) h, fun b xs h => ?_⟩
  rcases h with (h | ⟨o, h⟩) | h
  · exact .inl (.inl (e.tup (nm b xs h) h))
  · exact .inl (.inr ⟨o, e.kp _ _ (nf b o _ h) h fun ps z => by cases z⟩)
  · exact .inr h
def bornAll (ws : Wl) (n : Nat) : Nat → Gs → List (List Nat)
  | 0, _ => []
  | k + 1, S => match first ws S with
    | none => []
    | some c => cls (take1 ws S c).h n (way ws c).1 :: bornAll ws n k (take1 ws S c)
theorem born_stop {ws : Wl} {n : Nat} {S : Gs} (h : first ws S = none) : ∀ j, bornAll ws n j S = []
  | 0 => rfl
  | j + 1 => by show (match first ws S with | none => [] | some c => cls (take1 ws S c).h n (way ws c).1 :: bornAll ws n j (take1 ws S c)) = _; rw [h]
theorem born_go {ws : Wl} {n : Nat} {S : Gs} {c : Nat} (h : first ws S = some c) (j : Nat) : bornAll ws n (j + 1) S = cls (take1 ws S c).h n (way ws c).1 :: bornAll ws n j (take1 ws S c) := by
  show (match first ws S with | none => [] | some c => cls (take1 ws S c).h n (way ws c).1 :: bornAll ws n j (take1 ws S c)) = _; rw [h]
/-- tuples of places -/
def TupsL (H : Hp) (ls : List (List Nat)) (vs : List V) : Prop := vs.length = ls.length ∧ ∀ (i : Nat) (l : List Nat), ls[i]? = some l → ∃ t : Addr, vs[i]? = some (V.ref t) ∧ H t = some (.tup (natsV l))
theorem TupsL.nil {H : Hp} : TupsL H [] [] := ⟨rfl, fun i l h => by simp at h⟩
theorem TupsL.tup {H H' : Hp} {ls : List (List Nat)} {vs : List V} (h : TupsL H ls vs) (t : ∀ b xs, H b = some (.tup xs) → H' b = some (.tup xs)) : TupsL H' ls vs := ⟨h.1, fun i l e => by obtain ⟨u, q1, q2⟩ := h.2 i l e; exact ⟨u, q1, t _ _ q2⟩⟩
theorem TupsL.snoc {H : Hp} {ls : List (List Nat)} {vs : List V} {l : List Nat} {a : Addr} (h : TupsL H ls vs) (ha : H a = some (.tup (natsV l))) : TupsL H (ls ++ [l]) (vs ++ [.ref a]) := by
  refine ⟨by rw [List.length_append, List.length_append, h.1]; rfl, fun i x e => ?_⟩
  by_cases hi : i < ls.length
  · rw [List.getElem?_append_left hi] at e
    obtain ⟨u, q1, q2⟩ := h.2 i x e
    exact ⟨u, by rw [List.getElem?_append_left (by rw [h.1]; exact hi)]; exact q1, q2⟩
  · rw [List.getElem?_append_right (by omega)] at e
    have h2 : i = ls.length := by
      have := (List.getElem?_eq_some_iff.mp e).1
      rw [List.length_singleton] at this; omega
    subst h2
    have : l = x := by simpa using e
    subst this
    exact ⟨a, by rw [List.getElem?_append_right (by rw [h.1]; exact Nat.le_refl _), h.1]; simp, ha⟩
def spFull (K : PySem.W.Frag) (T : List Addr) (aC : Addr) : Sp := fun vs H Q _ => ∃ (f : FAd) (n t : Nat) (ws : Wl) (S : Gs), vs = [.ref f.p] ∧ FieldAt K aC H f n ws S ∧ WsOk n ws ∧ GM n ws t S ∧ t ≤ 12 ∧ S.taken.length + (reps S.h n).length ≤ n ∧
  ∀ b bvs H', H' b = some (.lst bvs) → TupsL H' (bornAll ws n n S) bvs → ¬ Fm f b → H b = none → FieldAt K aC H' f n ws (takeAll ws n S) → Ext T (Fm f) H H' → Q (.ref b) H'
theorem takeAll_stop {ws : Wl} {S : Gs} (h : first ws S = none) : ∀ j, takeAll ws j S = S
  | 0 => rfl
  | j + 1 => by show (match first ws S with | none => S | some c => takeAll ws j (take1 ws S c)) = S; rw [h]
theorem takeAll_go {ws : Wl} {S : Gs} {c : Nat} (h : first ws S = some c) (j : Nat) : takeAll ws (j + 1) S = takeAll ws j (take1 ws S c) := by
  show (match first ws S with | none => S | some c => takeAll ws j (take1 ws S c)) = _; rw [h]
def spTake (K : PySem.W.Frag) (T : List Addr) (aC : Addr) : Sp := fun vs H Q _ => ∃ (f : FAd) (n t c : Nat) (ws : Wl) (S : Gs), vs = [.ref f.p, .int (c : Nat)] ∧ FieldAt K aC H f n ws S ∧ WsOk n ws ∧ GM n ws t S ∧ c < ws.length ∧ crosses ws S c = true ∧ S.taken.length ≤ 100 ∧
  ∀ j H', H' j = some (.tup (natsV (cls (take1 ws S c).h n (way ws c).1))) → FieldAt K aC H' f n ws (take1 ws S c) → Ext T (Fm f) H H' → Q (.ref j) H'
theorem zero_fr {K : PySem.W.Frag} {H : Hp} {az : Addr} (h : SqT K (fun _ => none) az [.int (frX 0), .int (frY 0)]) : FrV K H 0 (.ref az) := by
  refine ⟨az, rfl, ?_⟩
  rcases h with (h | ⟨o, h⟩) | h
  · cases h
  · cases h
  · exact .inr h
theorem first_is {ws : Wl} {S : Gs} {i : Nat} (hi : i < ws.length) (h : full ws S i = true) (hno : ∀ c, c < i → full ws S c = false) : first ws S = some i := by
  unfold first
  rw [List.find?_range_eq_some]
  exact ⟨h, List.mem_range.mpr hi, fun j hj => by rw [hno j hj]; rfl⟩
def spFirst (K : PySem.W.Frag) (T : List Addr) (aC : Addr) : Sp := fun vs H Q _ => ∃ (f : FAd) (n t : Nat) (ws : Wl) (S : Gs), vs = [.ref f.p] ∧ FieldAt K aC H f n ws S ∧ WsOk n ws ∧ GM n ws t S ∧ t ≤ 12 ∧ ∀ H', Ext T noM H H' → Q (match first ws S with | some c => .int (c : Nat) | none => .non) H'
def spSlack (K : PySem.W.Frag) (T : List Addr) (aC : Addr) : Sp := fun vs H Q _ => ∃ (f : FAd) (n : Nat) (ws : Wl) (S : Gs) (a b c : Nat), vs = [.ref f.p, .int (a : Nat), .int (b : Nat), .int (c : Nat)] ∧ FieldAt K aC H f n ws S ∧ a < n ∧ b < n ∧ n ≤ 12 ∧ 1 ≤ c ∧ c ≤ 10000 ∧ (∀ x, 0 ≤ S.dep x ∧ S.dep x ≤ 491520000) ∧
  ∀ v H', FrV K H' ((c : Int) * 4096 - (S.dep a + S.dep b)) v → Ext T noM H H' → Q v H'
section
variable {P : Program} {w : World} {K : PySem.W.Frag} {mg : Str → Option Value} {base : Heap} {T : List Addr} {aC : Addr}
end
end Mw

set_option Elab.async false
set_option linter.all false
set_option maxRecDepth 100000
set_option maxHeartbeats 4000000
namespace Mw
open PySem PySem.Spec PyProof.Rows L2 GE
theorem op_neDK {X : Cx} {K : PySem.W.Frag} (hu : X.A.units + 64 < cLine) (h : X.K = K := by rfl) : OpR X (compareOp .NotEq) (rNeD K) := h ▸ op_neD hu
theorem op_inDTK {X : Cx} {K : PySem.W.Frag} (hu : X.A.units + 65 < cLine) (h : X.K = K := by rfl) : OpR X (compareOp .In) (rInDT K false) := h ▸ op_inDT hu
def betw (ws : Wl) (S : Gs) : List Nat := (List.range ws.length).filter (crosses ws S)
theorem filter_take {f : Nat → Bool} {n i : Nat} (hi : i ≤ n) : ((List.range n).take i) = List.range i := by rw [List.take_range, Nat.min_eq_left hi]
/-- the tuple of the open groups -/
structure RisV (K : PySem.W.Frag) (H : Hp) (n : Nat) (h : Nat → Nat) (R : List Nat) (v : V) : Prop where
  at_ : ∃ (a : Addr) (vs : List V), v = .ref a ∧ H a = some (.tup vs) ∧ vs.length = R.length ∧ ∀ (i r : Nat), R[i]? = some r → ∃ t : Addr, vs[i]? = some (V.ref t) ∧ H t = some (.tup (natsV (cls h n r)))
  ok : ∀ r ∈ R, r < n ∧ h r = r
theorem RisV.x {K : PySem.W.Frag} {T : List Addr} {H H' : Hp} {n : Nat} {h : Nat → Nat} {R : List Nat} {v : V} (r : RisV K H n h R v) (e : Ext T noM H H') : RisV K H' n h R v := by
  obtain ⟨⟨a, vs, e1, e2, e3, e4⟩, ok⟩ := r
  exact ⟨⟨a, vs, e1, e.tup (fun z => z) e2, e3, fun i q hq => by obtain ⟨t, q1, q2⟩ := e4 i q hq; exact ⟨t, q1, e.tup (fun z => z) q2⟩⟩, ok⟩
theorem dp_list {K : PySem.W.Frag} {H : Hp} {n : Nat} {h : Nat → Nat} : ∀ (R : List Nat) (vs : List V), vs.length = R.length → (∀ (i r : Nat), R[i]? = some r → ∃ t : Addr, vs[i]? = some (V.ref t) ∧ H t = some (.tup (natsV (cls h n r)))) → DpAll K H vs (R.map fun r => natD (cls h n r))
  | [], vs, hl, _ => by rw [List.eq_nil_of_length_eq_zero hl]; exact .nil
  | r :: R, [], hl, _ => by simp at hl
  | r :: R, v :: vs, hl, hx => by
    obtain ⟨t, q1, q2⟩ := hx 0 r rfl
    have e : v = .ref t := by simpa using q1
    rw [e]
    exact .cons (dp_nat q2) (dp_list R vs (by simpa using hl) fun i q hq => by simpa using hx (i + 1) q (by simpa using hq))
theorem natDs_shaped {h : Nat → Nat} {n : Nat} (R : List Nat) : SeqAt.shaped (.tuple (R.map fun r => natD (cls h n r))) = true := by
  have key : ∀ R : List Nat, PyData.canLayAll0 (R.map fun r => natD (cls h n r)) = true ∧ PyData.depthAll (R.map fun r => natD (cls h n r)) ≤ 1 := by
    intro R
    induction R with
    | nil => exact ⟨rfl, Nat.zero_le _⟩
    | cons r R ih =>
      obtain ⟨h1, h2⟩ := natD_all (cls h n r)
      simp only [List.map_cons, PyData.canLayAll0, PyData.depthAll, natD, PyData.canLay0, PyData.depth, h1, h2]
      simp only [natD] at ih
      exact ⟨by rw [ih.1]; rfl, by omega⟩
  obtain ⟨h1, h2⟩ := key R
  show (PyData.canLayAll0 _ && decide (PyData.depthAll _ + 1 ≤ 64)) = true
  rw [h1, Bool.true_and, decide_eq_true_eq]; omega
theorem ris_any {n : Nat} {es : List (Nat × Nat)} {h : Nat → Nat} (HM : Hom n es h) {R : List Nat} (ok : ∀ r ∈ R, r < n ∧ h r = r) {x : Nat} (hx : x < n) : ((R.map fun r => natD (cls h n r)).any fun z => PyData.eqv z (natD (cls h n x))) = decide (h x ∈ R) := by
  have e : ∀ r ∈ R, PyData.eqv (natD (cls h n r)) (natD (cls h n x)) = decide (r = h x) := fun r hr => by
    have e1 : PyData.eqv (natD (cls h n r)) (natD (cls h n x)) = decide (cls h n r = cls h n x) := eqv_nat _ _
    rw [e1, decide_eq_decide, cls_eq HM (ok r hr).1 hx, (ok r hr).2]
  rw [List.any_map]
  cases q : decide (h x ∈ R) with
  | true => exact List.any_eq_true.mpr ⟨h x, of_decide_eq_true q, by show PyData.eqv _ _ = true; rw [e _ (of_decide_eq_true q), decide_eq_true rfl]⟩
  | false =>
    refine List.any_eq_false.mpr fun r hr z => ?_
    have z2 : decide (r = h x) = true := (e r hr).symm.trans z
    exact of_decide_eq_false q (of_decide_eq_true z2 ▸ hr)
def cn (ws : Wl) (S : Gs) (R : List Nat) (c j : Nat) : Nat := (if 0 < j ∧ S.h (way ws c).1 ∈ R then 1 else 0) + (if 1 < j ∧ S.h (way ws c).2.1 ∈ R then 1 else 0)
theorem cn_le (ws : Wl) (S : Gs) (R : List Nat) (c j : Nat) : cn ws S R c j ≤ 2 := by unfold cn; split <;> split <;> omega
theorem cn_two (ws : Wl) (S : Gs) (R : List Nat) (c : Nat) : cn ws S R c 2 = spd ws S R c := by unfold cn spd; simp
theorem cand_bd {n t : Nat} {ws : Wl} {S : Gs} (W : WsOk n ws) (G : GM n ws t S) (ht : t < 12) (R : List Nat) {c : Nat} (hc : c < ws.length) (h0 : 0 < spd ws S R c) : bd (cand ws S R c) := by
  obtain ⟨e, _⟩ := G.cand_eq ht R h0
  have h2 := spd_le ws S R c
  have d1 := G.d0 (way ws c).1
  have d2 := G.d0 (way ws c).2.1
  obtain ⟨_, _, w3, w4⟩ := W.ok c hc
  have hl : lack ws S c = ((way ws c).2.2 : Int) * 4096 - (S.dep (way ws c).1 + S.dep (way ws c).2.1) := rfl
  unfold bd
  rcases (show spd ws S R c = 1 ∨ spd ws S R c = 2 by omega) with z | z <;> rw [z] at e <;> omega
def spSpan (K : PySem.W.Frag) (T : List Addr) (aC : Addr) : Sp := fun vs H Q _ => ∃ (f : FAd) (n t : Nat) (ws : Wl) (S : Gs) (R : List Nat) (rv : V), vs = [.ref f.p, rv] ∧ FieldAt K aC H f n ws S ∧ WsOk n ws ∧ GM n ws t S ∧ ws.length ≤ 24 ∧ t < 12 ∧ RisV K H n S.h R rv ∧
  ∀ v H', (match least ((canW ws S R).map (cand ws S R)) with | some x => FrV K H' x v | none => v = .non) → Ext T noM H H' → Q v H'
def spBetw (K : PySem.W.Frag) (T : List Addr) (aC : Addr) : Sp := fun vs H Q _ => ∃ (f : FAd) (n t : Nat) (ws : Wl) (S : Gs), vs = [.ref f.p] ∧ FieldAt K aC H f n ws S ∧ WsOk n ws ∧ GM n ws t S ∧ ws.length ≤ 24 ∧
  ∀ l vs H', H l = none → H' l = some (.lst vs) → RpL H' ((betw ws S).map fun c => wayD (way ws c)) vs → Ext T noM H H' → Q (.ref l) H'
section
variable {P : Program} {w : World} {K : PySem.W.Frag} {mg : Str → Option Value} {base : Heap} {T : List Addr} {aC : Addr}
end
end Mw

set_option Elab.async false
set_option linter.all false
set_option maxRecDepth 100000
set_option maxHeartbeats 4000000
namespace Mw
open PySem PySem.Spec PyProof.Rows L2 GE
/-! ### the attributes are written -/
section
variable {K : PySem.W.Frag} {T : List Addr} {H : Hp} {aC : Addr} {f : FAd} {n : Nat} {ws : Wl} {S : Gs}
theorem FieldAt.setD (F : FieldAt K aC H f n ws S) {vd : List V} {dep : Nat → Int} (hl : vd.length = n) (hx : ∀ x, x < n → ∃ v, vd[x]? = some v ∧ FrV K H (dep x) v) :
    FieldAt K aC (upd H f.ld (.lst vd)) f n ws { S with dep := dep } ∧ Ext T (Fm f) H (upd H f.ld (.lst vd)) := by
  obtain ⟨dx, tv, h1, h2⟩ := F.ob
  obtain ⟨v1, a1, a2⟩ := F.tk
  obtain ⟨v2, b1, b2⟩ := F.wd
  obtain ⟨v3, c1, c2, c3⟩ := F.hm
  obtain ⟨v4, d1, d2, d3⟩ := F.dp
  obtain ⟨wa, us, e1, e2, e3⟩ := F.wy
  have t : Tp K H (upd H f.ld (.lst vd)) := Tp.mut d1 (fun xs z => nomatch z) (fun o xs z => nomatch z)
  have n1 : f.p ≠ f.ld := fun z => by rw [z, d1] at h1; cases h1
  have n2 : f.lw ≠ f.ld := fun z => by rw [z, d1] at b1; cases b1
  exact ⟨⟨⟨dx, tv, by rw [upd_ne n1]; exact h1, t.fr h2⟩, ⟨v1, by rw [upd_ne F.ne.2.1]; exact a1, t.tk a2⟩, ⟨v2, by rw [upd_ne n2]; exact b1, t.wd b2⟩, ⟨v3, by rw [upd_ne F.ne.2.2]; exact c1, c2, fun x hx => by obtain ⟨s, q1, q2⟩ := c3 x hx; exact ⟨s, q1, t.tup _ _ q2⟩⟩,
    ⟨vd, upd_same, hl, fun x h => by obtain ⟨v, q1, q2⟩ := hx x h; exact ⟨v, q1, t.fr q2⟩⟩, ⟨wa, us, e1, t.tup _ _ e2, t.rpl e3⟩, F.ne⟩, (Ext.refl T _ H).mut (.inr (.inr (.inr (.inr (.inr rfl))))) d1 ltbl⟩
theorem FieldAt.setW (F : FieldAt K aC H f n ws S) {kvs : List (List Key × V)} {wid : List (List Nat × Int)} (hx : WdL K H wid kvs) :
    FieldAt K aC (upd H f.lw (.dT kvs)) f n ws { S with wid := wid } ∧ Ext T (Fm f) H (upd H f.lw (.dT kvs)) := by
  obtain ⟨dx, tv, h1, h2⟩ := F.ob
  obtain ⟨v1, a1, a2⟩ := F.tk
  obtain ⟨v2, b1, b2⟩ := F.wd
  obtain ⟨v3, c1, c2, c3⟩ := F.hm
  obtain ⟨v4, d1, d2, d3⟩ := F.dp
  obtain ⟨wa, us, e1, e2, e3⟩ := F.wy
  have t : Tp K H (upd H f.lw (.dT kvs)) := Tp.mut b1 (fun xs z => nomatch z) (fun o xs z => nomatch z)
  have n1 : f.p ≠ f.lw := fun z => by rw [z, b1] at h1; cases h1
  have n2 : f.lt ≠ f.lw := fun z => by rw [z, b1] at a1; cases a1
  have n3 : f.lh ≠ f.lw := fun z => by rw [z, b1] at c1; cases c1
  have n4 : f.ld ≠ f.lw := fun z => by rw [z, b1] at d1; cases d1
  exact ⟨⟨⟨dx, tv, by rw [upd_ne n1]; exact h1, t.fr h2⟩, ⟨v1, by rw [upd_ne n2]; exact a1, t.tk a2⟩, ⟨kvs, upd_same, t.wd hx⟩, ⟨v3, by rw [upd_ne n3]; exact c1, c2, fun x hx => by obtain ⟨s, q1, q2⟩ := c3 x hx; exact ⟨s, q1, t.tup _ _ q2⟩⟩,
    ⟨v4, by rw [upd_ne n4]; exact d1, d2, fun x h => by obtain ⟨v, q1, q2⟩ := d3 x h; exact ⟨v, q1, t.fr q2⟩⟩, ⟨wa, us, e1, t.tup _ _ e2, t.rpl e3⟩, F.ne⟩, (Ext.refl T _ H).mut (.inr (.inr (.inr (.inl rfl)))) b1 fun ps z => nomatch z⟩
theorem FieldAt.setT (F : FieldAt K aC H f n ws S) {dx : Addr} {tv uv : V} {u : Int} (hp : H f.p = some (.ins aC dx (ff tv f))) (hu : FrV K H u uv) :
    FieldAt K aC (upd H f.p (.ins aC dx (ff uv f))) f n ws { S with time := u } ∧ Ext T (Fm f) H (upd H f.p (.ins aC dx (ff uv f))) := by
  obtain ⟨v1, a1, a2⟩ := F.tk
  obtain ⟨v2, b1, b2⟩ := F.wd
  obtain ⟨v3, c1, c2, c3⟩ := F.hm
  obtain ⟨v4, d1, d2, d3⟩ := F.dp
  obtain ⟨wa, us, e1, e2, e3⟩ := F.wy
  have t : Tp K H (upd H f.p (.ins aC dx (ff uv f))) := Tp.mut hp (fun xs z => nomatch z) (fun o xs z => nomatch z)
  have n1 : f.lt ≠ f.p := fun z => by rw [z, hp] at a1; cases a1
  have n2 : f.lw ≠ f.p := fun z => by rw [z, hp] at b1; cases b1
  have n3 : f.lh ≠ f.p := fun z => by rw [z, hp] at c1; cases c1
  have n4 : f.ld ≠ f.p := fun z => by rw [z, hp] at d1; cases d1
  exact ⟨⟨⟨dx, uv, upd_same, t.fr hu⟩, ⟨v1, by rw [upd_ne n1]; exact a1, t.tk a2⟩, ⟨v2, by rw [upd_ne n2]; exact b1, t.wd b2⟩, ⟨v3, by rw [upd_ne n3]; exact c1, c2, fun x hx => by obtain ⟨s, q1, q2⟩ := c3 x hx; exact ⟨s, q1, t.tup _ _ q2⟩⟩,
    ⟨v4, by rw [upd_ne n4]; exact d1, d2, fun x h => by obtain ⟨v, q1, q2⟩ := d3 x h; exact ⟨v, q1, t.fr q2⟩⟩, ⟨wa, us, e1, t.tup _ _ e2, t.rpl e3⟩, F.ne⟩, (Ext.refl T _ H).mut (.inr (.inl rfl)) hp fun ps z => nomatch z⟩
end
/-! ### the widths by their keys -/
theorem keyOf_inj {k l : List Nat} (h : keyOf k = keyOf l) : k = l := by
  unfold keyOf at h
  exact List.map_inj_right (f := fun x : Nat => (Sum.inl (x : Int) : Key)) (fun a b e => by have := Sum.inl.inj e; omega) |>.mp h
theorem keyOf_kV (k : List Nat) : (keyOf k).map kV = natsV k := by unfold keyOf natsV; rw [List.map_map]; rfl
def widOf : List (List Nat × Int) → List Nat → Int
  | [], _ => 0
  | (j, w) :: r, k => if j = k then w else widOf r k
theorem WdL.get {K : PySem.W.Frag} {H : Hp} {k : List Nat} {z : V} (hz : FrV K H 0 z) : ∀ {l : List (List Nat × Int)} {kvs : List (List Key × V)}, WdL K H l kvs → FrV K H (widOf l k) ((valV kvs (keyOf k)).getD z)
  | [], kvs, h => by rw [show kvs = [] from h]; exact hz
  | (j, w) :: r, kvs, ⟨v, us, e, h1, h2⟩ => by
    subst e
    by_cases q : j = k
    · subst q
      rw [valV_pos rfl]
      show FrV K H (if j = j then w else widOf r j) v
      rw [if_pos rfl]; exact h1
    · rw [valV_neg (fun z => q (keyOf_inj z))]
      show FrV K H (if j = k then w else widOf r k) _
      rw [if_neg q]; exact WdL.get hz h2
theorem WdL.val {K : PySem.W.Frag} {H : Hp} {k : List Nat} : ∀ {l : List (List Nat × Int)} {kvs : List (List Key × V)}, WdL K H l kvs → (valV kvs (keyOf k) = none ↔ k ∉ l.map (·.1))
  | [], kvs, h => by rw [show kvs = [] from h]; simp [valV]
  | (j, w) :: r, kvs, ⟨v, us, e, h1, h2⟩ => by
    subst e
    by_cases q : j = k
    · subst q
      rw [valV_pos rfl]; simp
    · rw [valV_neg (fun z => q (keyOf_inj z)), WdL.val h2, List.map_cons, List.mem_cons]
      exact ⟨fun a b => by rcases b with b | b; exact q b.symm; exact a b, fun a b => a (.inr b)⟩
theorem WdL.map {K : PySem.W.Frag} {H : Hp} {k : List Nat} {s : Int} {z : V} (hz : FrV K H (s) z) : ∀ {l : List (List Nat × Int)} {kvs : List (List Key × V)}, WdL K H l kvs → (l.map (·.1)).Nodup → k ∈ l.map (·.1) → ∀ d, s = widOf l k + d →
    WdL K H (addW l k d) (kvs.map fun kv => if kv.1 = keyOf k then (kv.1, z) else kv)
  | [], kvs, h, _, hk, d, _ => by cases hk
  | (j, w) :: r, kvs, ⟨v, us, e, h1, h2⟩, nd, hk, d, hs => by
    subst e
    obtain ⟨n1, n2⟩ := List.nodup_cons.mp nd
    by_cases q : j = k
    · subst q
      have e1 : addW ((j, w) :: r) j d = (j, w + d) :: r := if_pos rfl
      have e2 : widOf ((j, w) :: r) j = w := if_pos rfl
      rw [e1, List.map_cons, if_pos rfl]
      refine ⟨z, _, rfl, by rw [← e2, ← hs]; exact hz, ?_⟩
      have same : ∀ {l : List (List Nat × Int)} {us : List (List Key × V)}, WdL K H l us → j ∉ l.map (·.1) → (us.map fun kv => if kv.1 = keyOf j then (kv.1, z) else kv) = us := by
        intro l
        induction l with
        | nil => intro us h _; rw [show us = [] from h]; rfl
        | cons a l ih =>
          intro us ⟨v, us', e, _, h2⟩ hn
          subst e
          rw [List.map_cons, if_neg (fun z => hn (by rw [List.map_cons, keyOf_inj z]; exact List.mem_cons_self)), ih h2 (fun z => hn (by rw [List.map_cons]; exact List.mem_cons_of_mem _ z))]
      rw [same h2 n1]; exact h2
    · have e1 : addW ((j, w) :: r) k d = (j, w) :: addW r k d := if_neg q
      have e2 : widOf ((j, w) :: r) k = widOf r k := if_neg q
      rw [e1, List.map_cons, if_neg (fun z => q (keyOf_inj z))]
      refine ⟨v, _, rfl, h1, WdL.map hz h2 n2 ?_ d (by rw [hs, e2])⟩
      rcases List.mem_cons.mp hk with y | y
      · exact absurd y.symm q
      · exact y
theorem WdL.app {K : PySem.W.Frag} {H : Hp} {k : List Nat} {d : Int} {z : V} (hz : FrV K H d z) : ∀ {l : List (List Nat × Int)} {kvs : List (List Key × V)}, WdL K H l kvs → k ∉ l.map (·.1) → WdL K H (addW l k d) (kvs ++ [(keyOf k, z)])
  | [], kvs, h, _ => by rw [show kvs = [] from h]; exact ⟨z, [], rfl, hz, rfl⟩
  | (j, w) :: r, kvs, ⟨v, us, e, h1, h2⟩, hn => by
    subst e
    have q : ¬ j = k := fun z => hn (by rw [List.map_cons, z]; exact List.mem_cons_self)
    have e1 : addW ((j, w) :: r) k d = (j, w) :: addW r k d := if_neg q
    rw [e1]
    exact ⟨v, _, rfl, h1, WdL.app hz h2 fun z => hn (by rw [List.map_cons]; exact List.mem_cons_of_mem _ z)⟩
theorem widOf_no {k : List Nat} : ∀ {l : List (List Nat × Int)}, k ∉ l.map (·.1) → widOf l k = 0
  | [], _ => rfl
  | (j, w) :: r, h => by
    have q : ¬ j = k := fun z => h (by rw [List.map_cons, z]; exact List.mem_cons_self)
    show (if j = k then w else widOf r k) = 0
    rw [if_neg q]; exact widOf_no fun z => h (by rw [List.map_cons]; exact List.mem_cons_of_mem _ z)
theorem WdL.put {K : PySem.W.Frag} {H : Hp} {k : List Nat} {d : Int} {z : V} {l : List (List Nat × Int)} {kvs : List (List Key × V)} (h : WdL K H l kvs) (nd : (l.map (·.1)).Nodup) (hz : FrV K H (widOf l k + d) z) : WdL K H (addW l k d) (putK kvs (keyOf k) z) := by
  unfold putK
  rw [valV_any]
  by_cases q : k ∈ l.map (·.1)
  · have : (valV kvs (keyOf k)).isSome = true := by
      cases e : valV kvs (keyOf k) with
      | none => exact absurd q (h.val.mp e)
      | some _ => rfl
    rw [this, if_pos rfl]
    exact WdL.map hz h nd q d rfl
  · rw [h.val.mpr q]
    rw [widOf_no q, Int.zero_add] at hz
    exact WdL.app hz h q
theorem WdL.len {K : PySem.W.Frag} {H : Hp} : ∀ {l : List (List Nat × Int)} {kvs : List (List Key × V)}, WdL K H l kvs → kvs.length = l.length
  | [], kvs, h => by rw [show kvs = [] from h] <;> rfl
  | (j, w) :: r, kvs, ⟨v, us, e, h1, h2⟩ => by subst e; rw [List.length_cons, List.length_cons, WdL.len h2]
theorem addW_keys {k : List Nat} {d : Int} : ∀ l : List (List Nat × Int), (addW l k d).map (·.1) = if k ∈ l.map (·.1) then l.map (·.1) else l.map (·.1) ++ [k]
  | [] => by simp [addW]
  | (j, w) :: r => by
    by_cases q : j = k
    · subst q
      have e1 : addW ((j, w) :: r) j d = (j, w + d) :: r := if_pos rfl
      rw [e1]; simp
    · have e1 : addW ((j, w) :: r) k d = (j, w) :: addW r k d := if_neg q
      have q' : ¬ k = j := fun z => q z.symm
      rw [e1, List.map_cons, addW_keys r]
      simp only [List.map_cons, List.mem_cons, q', false_or]
      split <;> rfl
theorem nd1 {α : Type} (a : α) : [a].Nodup := List.nodup_cons.mpr ⟨(fun h => nomatch h), List.nodup_nil⟩
theorem addW_nd {k : List Nat} {d : Int} {l : List (List Nat × Int)} (h : (l.map (·.1)).Nodup) : ((addW l k d).map (·.1)).Nodup := by
  rw [addW_keys]
  split
  · exact h
  · rename_i q
    rw [List.nodup_append]
    exact ⟨h, nd1 _, fun a ha b hb z => q (by rw [← List.mem_singleton.mp hb, ← z]; exact ha)⟩
theorem addW_len {k : List Nat} {d : Int} {l : List (List Nat × Int)} : (addW l k d).length ≤ l.length + 1 := by
  have := congrArg List.length (addW_keys (k := k) (d := d) l)
  rw [List.length_map] at this
  rw [this]
  split <;> simp
theorem widOf_bd {k : List Nat} {b : Int} (hb : 0 ≤ b) : ∀ {l : List (List Nat × Int)}, (∀ kw ∈ l, 0 < kw.2 ∧ kw.2 ≤ b) → 0 ≤ widOf l k ∧ widOf l k ≤ b
  | [], _ => ⟨Int.le_refl _, hb⟩
  | (j, w) :: r, h => by
    show 0 ≤ (if j = k then w else widOf r k) ∧ (if j = k then w else widOf r k) ≤ b
    split
    · have := h (j, w) List.mem_cons_self
      have h1 : 0 < w := this.1
      have h2 : w ≤ b := this.2
      omega
    · exact widOf_bd hb fun kw hk => h kw (List.mem_cons_of_mem _ hk)
def part (n : Nat) (S : Gs) (R : List Nat) (s : Int) (i : Nat) : Gs :=
  { S with dep := fun p => S.dep p + if S.h p ∈ R.take i then s else 0, wid := (R.take i).foldl (fun w r => addW w (cls S.h n r) s) S.wid }
theorem part_0 (n : Nat) (S : Gs) (R : List Nat) (s : Int) : part n S R s 0 = S := by
  unfold part; simp
theorem part_bd {n t : Nat} {ws : Wl} {S : Gs} {s : Int} (G : GM n ws t S) (h0 : 0 < s) (h1 : s ≤ 40960000) (R : List Nat) (i p : Nat) : 0 ≤ (part n S R s i).dep p ∧ (part n S R s i).dep p ≤ (t + 1 : Nat) * 40960000 := by
  have := G.d0 p
  show 0 ≤ S.dep p + (if S.h p ∈ R.take i then s else 0) ∧ S.dep p + (if S.h p ∈ R.take i then s else 0) ≤ _
  split <;> constructor <;> omega
theorem nodup_not {R : List Nat} {i r : Nat} (h : R.Nodup) (hr : R[i]? = some r) : r ∉ R.take i := by
  intro q
  obtain ⟨m, hm1, hm2⟩ := List.mem_iff_getElem.mp q
  rw [List.length_take] at hm1
  rw [List.getElem_take] at hm2
  have hil := (List.getElem?_eq_some_iff.mp hr).1
  have e := (List.getElem?_eq_some_iff.mp hr).2
  have := List.pairwise_iff_getElem.mp h m i (by omega) hil (by omega)
  exact this (hm2.trans e.symm)
def spGrow (K : PySem.W.Frag) (T : List Addr) (aC : Addr) : Sp := fun vs H Q _ => ∃ (f : FAd) (n t : Nat) (ws : Wl) (S : Gs) (R : List Nat) (rv sv : V) (s : Int), vs = [.ref f.p, rv, sv] ∧ FieldAt K aC H f n ws S ∧ GM n ws t S ∧ n ≤ 12 ∧ t < 12 ∧ RisV K H n S.h R rv ∧ R.Nodup ∧ R.length ≤ 12 ∧ FrV K H s sv ∧ 0 < s ∧ s ≤ 40960000 ∧
  (S.wid.map (·.1)).Nodup ∧ S.wid.length ≤ 300 ∧ ∀ H', FieldAt K aC H' f n ws (grow n S R s) → Ext T (Fm f) H H' → Q .non H'
section
variable {P : Program} {w : World} {K : PySem.W.Frag} {mg : Str → Option Value} {base : Heap} {T : List Addr} {aC : Addr}
end
end Mw

set_option Elab.async false
set_option linter.all false
set_option maxRecDepth 100000
set_option maxHeartbeats 4000000
namespace Mw
open PySem PySem.Spec PyProof.Rows L2 GE
theorem reps_succ (h : Nat → Nat) (i : Nat) : reps h (i + 1) = reps h i ++ if h i = i then [i] else [] := by
  have := filter_range_succ (fun x => h x == x) i
  unfold reps; rw [this]; by_cases e : h i = i <;> simp [e]
theorem flat_rep {α : Type} (n : Nat) (a : α) : (List.replicate n [a]).flatten = List.replicate n a := by
  induction n with
  | zero => rfl
  | succ n ih => rw [List.replicate_succ, List.flatten_cons, ih]; rfl
def spNow (K : PySem.W.Frag) (T : List Addr) (aC : Addr) : Sp := fun vs H Q _ => ∃ (f : FAd) (n t : Nat) (ws : Wl) (S : Gs), vs = [.ref f.p] ∧ FieldAt K aC H f n ws S ∧ GM n ws t S ∧ n ≤ 12 ∧ Wd T H ∧ ∀ v H', RisV K H' n S.h (reps S.h n) v → Ext T noM H H' → Q v H'
def spInit (K : PySem.W.Frag) (T : List Addr) (aC : Addr) : Sp := fun vs H Q _ => ∃ (p dx : Addr) (net : V) (n : Nat) (ws : Wl), vs = [.ref p, net] ∧ H p = some (.ins aC dx []) ∧ Rp H (netD n ws) net ∧ n ≤ 12 ∧
  ∀ f H', f.p = p → FieldAt K aC H' f n ws start → (∀ b, Fm f b → b = p ∨ H b = none) → Ext T (fun b => b = p) H H' → Q .non H'
section
variable {P : Program} {w : World} {K : PySem.W.Frag} {mg : Str → Option Value} {base : Heap} {T : List Addr} {aC : Addr}
end
end Mw

set_option Elab.async false
set_option linter.all false
set_option maxRecDepth 100000
set_option maxHeartbeats 4000000
namespace Mw
open PySem PySem.Spec PyProof.Rows L2 GE
abbrev Pr := Nat × Nat
def pairD (p : Pr) : D := .t [.i p.1, .i p.2]
def pairsD (ps : List Pr) : D := .t (ps.map pairD)
structure PsOk (n : Nat) (ps : List Pr) : Prop where
  ok : ∀ p ∈ ps, p.1 < p.2 ∧ p.2 < n
  ln : ps.length ≤ 6
theorem pair_at {H : Hp} {p : Pr} {v : V} (h : Rp H (pairD p) v) : ∃ a, v = .ref a ∧ H a = some (.tup [.int p.1, .int p.2]) := by
  obtain ⟨a, vs, rfl, h1, h2⟩ := h.t
  exact ⟨a, rfl, by rw [h1, RpL.ints (ns := [p.1, p.2]) h2]; rfl⟩
theorem rp_pair {H : Hp} {a : Addr} {x y : Nat} (h : H a = some (.tup [.int x, .int y])) : Rp H (pairD (x, y)) (.ref a) := rp_t h (rpl_cons (rp_i _) (rpl_cons (rp_i _) rpl_nil))
theorem inV_nats (a : Nat) : ∀ f : List Nat, inV (.int (a : Int)) (natsV f) = decide (a ∈ f)
  | [] => rfl
  | x :: f => by
    have ih := inV_nats a f
    unfold inV natsV at ih ⊢
    rw [List.map_cons, List.any_cons, ih]
    by_cases e : x = a
    · subst e; simp [eqV]
    · have e2 : ¬ a = x := fun z => e z.symm
      have e3 : ¬ (x : Int) = (a : Int) := fun z => e (by omega)
      simp [eqV, e2, e3]
theorem flat_nats (f : List Nat) : (natsV f).all flatV = true := by
  rw [List.all_eq_true]; intro x hx; obtain ⟨y, _, rfl⟩ := List.mem_map.mp hx; rfl

def spParts (T : List Addr) : Sp := fun vs H Q _ => ∃ (gt : Addr) (g : List Nat) (pz : V) (ps : List Pr), vs = [.ref gt, pz] ∧ H gt = some (.tup (natsV g)) ∧ Rp H (pairsD ps) pz ∧ ps.length ≤ 6 ∧ Wd T H ∧
  ∀ H', Ext T noM H H' → Q (.bl (ps.any fun q => decide (q.1 ∈ g) != decide (q.2 ∈ g))) H'
def spOpen (K : PySem.W.Frag) (T : List Addr) (aC : Addr) : Sp := fun vs H Q _ => ∃ (f : FAd) (n t : Nat) (ws : Wl) (S : Gs) (pz : V) (ps : List Pr), vs = [.ref f.p, pz] ∧ FieldAt K aC H f n ws S ∧ GM n ws t S ∧ n ≤ 12 ∧ Rp H (pairsD ps) pz ∧ PsOk n ps ∧ Wd T H ∧
  ∀ v H', RisV K H' n S.h (opens n ps S.h) v → Ext T noM H H' → Q v H'
theorem any_congr {α : Type} {f g : α → Bool} : ∀ {l : List α}, (∀ x ∈ l, f x = g x) → l.any f = l.any g
  | [], _ => rfl
  | x :: l, h => by rw [List.any_cons, List.any_cons, h x List.mem_cons_self, any_congr fun y hy => h y (List.mem_cons_of_mem _ hy)]
theorem bne_dec (a b : Prop) [Decidable a] [Decidable b] : (!decide (V.bl (decide a) = V.bl (decide b))) = (decide a != decide b) := by
  by_cases ha : a <;> by_cases hb : b <;> simp [ha, hb]
section
variable {P : Program} {w : World} {K : PySem.W.Frag} {mg : Str → Option Value} {base : Heap} {T : List Addr} {aC : Addr}
end
end Mw

set_option Elab.async false
set_option linter.all false
set_option maxRecDepth 100000
set_option maxHeartbeats 4000000
namespace Mw
open PySem PySem.Spec PyProof.Rows L2 GE
theorem ch_range (m : Nat) : Ch m (List.range m) := ⟨fun c hc => List.mem_range.mp hc, List.pairwise_lt_range⟩
theorem wf_ok {n : Nat} {ws : Wl} (W : Wf n ws) : WsOk n ws := ⟨W.n1, W.n12, fun c hc => (wy_ok W hc).2⟩
theorem wedges_edg (ws : Wl) : edg ws (List.range ws.length) = wedges ws := rfl
theorem joined_iff {n : Nat} {ws : Wl} (W : Wf n ws) {a b : Nat} (ha : a < n) (hb : b < n) : hom ws (List.range ws.length) a = hom ws (List.range ws.length) b ↔ Cn (wedges ws) a b :=
  (hom_ok W (List.range ws.length) fun c hc => List.mem_range.mp hc).iff a b ha hb
def spEvery (T : List Addr) : Sp := fun vs H Q _ => ∃ (net : V) (n : Nat) (ws : Wl), vs = [net] ∧ Rp H (netD n ws) net ∧ ws.length ≤ 24 ∧ ∀ u H', Rp H' (chD (List.range ws.length)) u → Ext T noM H H' → Q u H'
def spCheck (T : List Addr) : Sp := fun vs H Q _ => ∃ (net pz : V) (n : Nat) (ws : Wl) (ps : List Pr), vs = [net, pz] ∧ Wf n ws ∧ Rp H (netD n ws) net ∧ Rp H (pairsD ps) pz ∧ PsOk n ps ∧ (∀ q ∈ ps, Cn (wedges ws) q.1 q.2) ∧ ∀ H', Ext T noM H H' → Q .non H'
section
variable {P : Program} {w : World} {K : PySem.W.Frag} {mg : Str → Option Value} {base : Heap} {T : List Addr} {aC : Addr}
end
end Mw

set_option Elab.async false
set_option linter.all false
set_option maxRecDepth 100000
set_option maxHeartbeats 4000000
namespace Mw
open PySem PySem.Spec PyProof.Rows L2 GE
/-! ### the whole growth -/
abbrev Rw := Int × (Nat → Nat)
def gro (n : Nat) (ws : Wl) (ps : List Pr) : Nat → Gs → List Rw → Gs × List Rw
  | 0, S, L => (S, L)
  | k + 1, S, L => if opens n ps S.h = [] then (S, L) else gro n ws ps k (turn n ws ps S) (L ++ [((turn n ws ps S).time, (turn n ws ps S).h)])
def allGro (n : Nat) (ws : Wl) (ps : List Pr) : Gs × List Rw := gro n ws ps n start [(0, start.h)]
theorem gro_stop {n : Nat} {ws : Wl} {ps : List Pr} {S : Gs} {L : List Rw} (h : opens n ps S.h = []) : ∀ k, gro n ws ps k S L = (S, L)
  | 0 => rfl
  | k + 1 => if_pos h
structure GF (n : Nat) (ws : Wl) (t : Nat) (S : Gs) : Prop where
  g : GM n ws t S
  f : first ws S = none
  c : (reps S.h n).length + t ≤ n
  nd : (S.wid.map (·.1)).Nodup
  wl : S.wid.length ≤ 12 * t
  tk : S.taken.length + (reps S.h n).length ≤ n
theorem takeAll_cnt {n t : Nat} {ws : Wl} (W : WsOk n ws) : ∀ (k : Nat) {S : Gs}, GM n ws t S → (takeAll ws k S).taken.length + (reps (takeAll ws k S).h n).length ≤ S.taken.length + (reps S.h n).length
  | 0, S, _ => Nat.le_refl _
  | k + 1, S, G => by
    cases e : first ws S with
    | none => rw [takeAll_stop e]; exact Nat.le_refl _
    | some c =>
      rw [takeAll_go e]
      obtain ⟨hc, hx, _⟩ := first_some e
      obtain ⟨G2, hlt⟩ := G.take W hc hx
      have ih := takeAll_cnt W k G2
      have : (take1 ws S c).taken.length = S.taken.length + 1 := by show (S.taken ++ [_]).length = _; rw [List.length_append]; rfl
      omega
theorem fold_nd {n : Nat} {h : Nat → Nat} {s : Int} : ∀ (R : List Nat) {l : List (List Nat × Int)}, (l.map (·.1)).Nodup → ((R.foldl (fun w r => addW w (cls h n r) s) l).map (·.1)).Nodup ∧ (R.foldl (fun w r => addW w (cls h n r) s) l).length ≤ l.length + R.length
  | [], l, hl => ⟨hl, Nat.le_refl _⟩
  | r :: R, l, hl => by
    obtain ⟨h1, h2⟩ := fold_nd (n := n) (h := h) (s := s) R (addW_nd (k := cls h n r) (d := s) hl)
    refine ⟨h1, ?_⟩
    have := addW_len (k := cls h n r) (d := s) (l := l)
    show (R.foldl (fun w r => addW w (cls h n r) s) (addW l (cls h n r) s)).length ≤ l.length + (r :: R).length
    rw [List.length_cons]; omega
theorem opens_len (n : Nat) (ps : List Pr) (h : Nat → Nat) : (opens n ps h).length ≤ n := by
  have h1 := List.length_filter_le (fun r => ps.any (parted h r)) (reps h n)
  have h2 := reps_len h n
  unfold opens; omega
theorem GF.start {n : Nat} {ws : Wl} (W : WsOk n ws) : GF n ws 0 Mw.start := by
  have hr := reps_len Mw.start.h n
  refine ⟨GM.start W, ?_, by omega, List.nodup_nil, Nat.zero_le _, by show 0 + _ ≤ n; omega⟩
  refine List.find?_eq_none.mpr fun c hc => ?_
  have h3 := (W.ok c (List.mem_range.mp hc)).2.2.1
  have : lack ws Mw.start c = ((way ws c).2.2 : Int) * 4096 - (0 + 0) := rfl
  unfold full
  rw [decide_eq_false (show ¬ lack ws Mw.start c ≤ 0 by omega), Bool.and_false]; exact Bool.false_ne_true
theorem GF.turn {n t : Nat} {ws : Wl} {ps : List Pr} {S : Gs} (W : WsOk n ws) (J : ∀ q ∈ ps, Cn (wedges ws) q.1 q.2) (G : GF n ws t S) (hR : opens n ps S.h ≠ []) : t < 12 ∧ GF n ws (t + 1) (turn n ws ps S) := by
  obtain ⟨t12, g1, g2, g3⟩ := G.g.turn W J G.c G.f hR
  obtain ⟨_, _, _, _, gg, _⟩ := G.g.grow W J t12 G.f hR
  have e := takeAll_time ws n (grow n S (opens n ps S.h) (span ws S (opens n ps S.h)))
  have f := fold_nd (n := n) (h := S.h) (s := span ws S (opens n ps S.h)) (opens n ps S.h) G.nd
  have ol := opens_len n ps S.h
  have n12 := W.n12
  have wl := G.wl
  have tk := G.tk
  have tc := takeAll_cnt W n gg
  refine ⟨t12, g1, g2, g3, ?_, ?_, Nat.le_trans tc tk⟩
  · unfold Mw.turn; rw [e.2.2]; exact f.1
  · unfold Mw.turn; rw [e.2.2]
    have := f.2
    show (List.foldl (fun w r => addW w (cls S.h n r) (span ws S (opens n ps S.h))) S.wid (opens n ps S.h)).length ≤ _
    omega
def SeenL (K : PySem.W.Frag) (H : Hp) (n : Nat) (ps : List Pr) : List Rw → List V → Prop
  | [], vs => vs = []
  | (t, h) :: r, vs => ∃ a tv gv rv us, vs = .ref a :: us ∧ H a = some (.tup [tv, gv, rv]) ∧ FrV K H t tv ∧ RisV K H n h (reps h n) gv ∧ RisV K H n h (opens n ps h) rv ∧ SeenL K H n ps r us
theorem RisV.t {K : PySem.W.Frag} {H H' : Hp} {n : Nat} {h : Nat → Nat} {R : List Nat} {v : V} (r : RisV K H n h R v) (t : Tp K H H') : RisV K H' n h R v := by
  obtain ⟨⟨a, vs, e1, e2, e3, e4⟩, ok⟩ := r
  exact ⟨⟨a, vs, e1, t.tup _ _ e2, e3, fun i q hq => by obtain ⟨u, q1, q2⟩ := e4 i q hq; exact ⟨u, q1, t.tup _ _ q2⟩⟩, ok⟩
theorem SeenL.t {K : PySem.W.Frag} {H H' : Hp} {n : Nat} {ps : List Pr} (t : Tp K H H') : ∀ {l : List Rw} {vs : List V}, SeenL K H n ps l vs → SeenL K H' n ps l vs
  | [], vs, h => h
  | (s, g) :: r, vs, ⟨a, tv, gv, rv, us, e, h1, h2, h3, h4, h5⟩ => ⟨a, tv, gv, rv, us, e, t.tup _ _ h1, t.fr h2, h3.t t, h4.t t, SeenL.t t h5⟩
theorem SeenL.snoc {K : PySem.W.Frag} {H : Hp} {n : Nat} {ps : List Pr} {t : Int} {h : Nat → Nat} {a : Addr} {tv gv rv : V} (ha : H a = some (.tup [tv, gv, rv])) (h1 : FrV K H t tv) (h2 : RisV K H n h (reps h n) gv) (h3 : RisV K H n h (opens n ps h) rv) :
    ∀ {l : List Rw} {vs : List V}, SeenL K H n ps l vs → SeenL K H n ps (l ++ [(t, h)]) (vs ++ [.ref a])
  | [], vs, q => by rw [show vs = [] from q]; exact ⟨a, tv, gv, rv, [], rfl, ha, h1, h2, h3, rfl⟩
  | (s, g) :: r, vs, ⟨b, sv, g2, r2, us, e, k1, k2, k3, k4, k5⟩ => by rw [e]; exact ⟨b, sv, g2, r2, us ++ [.ref a], rfl, k1, k2, k3, k4, SeenL.snoc ha h1 h2 h3 k5⟩
theorem SeenL.len {K : PySem.W.Frag} {H : Hp} {n : Nat} {ps : List Pr} : ∀ {l : List Rw} {vs : List V}, SeenL K H n ps l vs → vs.length = l.length
  | [], vs, h => by rw [show vs = [] from h] <;> rfl
  | (s, g) :: r, vs, ⟨a, tv, gv, rv, us, e, h1, h2, h3, h4, h5⟩ => by rw [e, List.length_cons, List.length_cons, SeenL.len h5]
theorem FrV.t {K : PySem.W.Frag} {H H' : Hp} {u : Int} {v : V} (h : FrV K H u v) (t : Tp K H H') : FrV K H' u v := t.fr h
theorem _root_.GE.Ext.drop {T : List Addr} {M : Addr → Prop} {H1 H2 H' : Hp} (a : Ext T noM H1 H2) (b : Ext T M H2 H') (hM : ∀ b, M b → H1 b = none) : Ext T noM H1 H' :=
  ⟨fun x o _ e n => b.kp x o (fun m => by rw [hM x m] at e; cases e) (a.kp x o (fun z => z) e n) n, fun P hP h => b.tb P hP (a.tb P hP h), fun x h => a.fr x (b.fr x h)⟩
def spGrown (K : PySem.W.Frag) (T : List Addr) (aC : Addr) : Sp := fun vs H Q _ => ∃ (net pz : V) (n : Nat) (ws : Wl) (ps : List Pr), vs = [net, pz] ∧ Wf n ws ∧ Rp H (netD n ws) net ∧ Rp H (pairsD ps) pz ∧ PsOk n ps ∧ (∀ q ∈ ps, Cn (wedges ws) q.1 q.2) ∧ Wd T H ∧
  ∀ r f ls vs H', H' r = some (.tup [.ref f.p, .ref ls]) → FieldAt K aC H' f n ws (allGro n ws ps).1 → H' ls = some (.lst vs) → SeenL K H' n ps (allGro n ws ps).2 vs → Ext T noM H H' → Q (.ref r) H'
section
variable {P : Program} {w : World} {K : PySem.W.Frag} {mg : Str → Option Value} {base : Heap} {T : List Addr} {aC : Addr}
end
end Mw

set_option Elab.async false
set_option linter.all false
set_option maxRecDepth 100000
set_option maxHeartbeats 4000000
namespace Mw
open PySem PySem.Spec PyProof.Rows L2 GE
def spGrowth (K : PySem.W.Frag) (T : List Addr) (aC : Addr) : Sp := fun vs H Q _ => ∃ (net pz : V) (n : Nat) (ws : Wl) (ps : List Pr), vs = [net, pz] ∧ Wf n ws ∧ Rp H (netD n ws) net ∧ Rp H (pairsD ps) pz ∧ PsOk n ps ∧ (∀ q ∈ ps, Cn (wedges ws) q.1 q.2) ∧ Wd T H ∧
  ∀ a vs H', H' a = some (.tup vs) → TkL K H' (allGro n ws ps).1.taken vs → Ext T noM H H' → Q (.ref a) H'
section
variable {P : Program} {w : World} {K : PySem.W.Frag} {mg : Str → Option Value} {base : Heap} {T : List Addr} {aC : Addr}
end
end Mw

set_option Elab.async false
set_option linter.all false
set_option maxRecDepth 100000
set_option maxHeartbeats 4000000
namespace Mw
open PySem PySem.Spec PyProof.Rows L2 GE
/-! ### the law's own fractions -/
theorem half_mod {a b : Nat} (h0 : 0 < b) (h : b < a) : 2 * (a % b) < a := by
  have h1 := Nat.mod_lt a h0
  have h2 := Nat.mod_add_div a b
  have h3 : 1 ≤ a / b := Nat.div_pos (Nat.le_of_lt h) h0
  have h4 : b * 1 ≤ b * (a / b) := Nat.mul_le_mul_left b h3
  omega
def spGcd : Sp := fun vs H Q _ => ∃ (a b : Nat), vs = [.int (a : Nat), .int (b : Nat)] ∧ b < 2 ^ 50 ∧ ∀ H', (∀ T, Ext T noM H H') → Q (.int (Nat.gcd a b : Nat)) H'
def spLRatio (K : PySem.W.Frag) (T : List Addr) : Sp := fun vs H Q _ => ∃ (t b u : Int), vs = [.int t, .int b] ∧ 0 < b ∧ b < 2 ^ 50 ∧ t * 4096 = u * b ∧ ∀ v H', FrV K H' u v → Ext T noM H H' → Q v H'
def spExact (K : PySem.W.Frag) (T : List Addr) : Sp := fun vs H Q _ => ∃ (u : Int), vs = [.int (u * 268435456)] ∧ ∀ v H', FrV K H' u v → Ext T noM H H' → Q v H'
theorem pow_half {i : Nat} (hi : i < 50) : (2 : Nat) ^ (50 - i) = 2 * 2 ^ (50 - (i + 1)) := by
  rw [show 50 - i = (50 - (i + 1)) + 1 by omega, Nat.pow_succ, Nat.mul_comm]
section
variable {P : Program} {w : World} {K : PySem.W.Frag} {mg : Str → Option Value} {base : Heap} {T : List Addr} {aC : Addr}
end
end Mw

set_option Elab.async false
set_option linter.all false
set_option maxRecDepth 100000
set_option maxHeartbeats 4000000
namespace Mw
open PySem PySem.Spec PyProof.Rows L2 GE
def jn1 (ws : List Wy) (cs : List Nat) (p : Pr) : Bool := decide (hom ws cs p.1 = hom ws cs p.2)
def jn (ws : List Wy) (cs : List Nat) (ps : List Pr) : Bool := ps.all (jn1 ws cs)
theorem all_take {α : Type} {f : α → Bool} {l : List α} {i : Nat} {x : α} (hx : l[i]? = some x) (hb : (l.take i).all f = true) (h : f x = true) : (l.take (i + 1)).all f = true := by
  rw [take_succ' hx, List.all_append, hb]; simp [h]
theorem all_no {α : Type} {f : α → Bool} {l : List α} {i : Nat} {x : α} (hx : l[i]? = some x) (h : f x = false) : l.all f = false :=
  List.all_eq_false.mpr ⟨x, List.mem_of_getElem? hx, by rw [h]; exact Bool.false_ne_true⟩
theorem nats_at {cs : List Nat} {j : Nat} {x : V} (hx : (cs.map fun (c : Nat) => V.int (c : Int))[j]? = some x) : ∃ c, cs[j]? = some c ∧ x = V.int ((c : Nat) : Int) := by
  rw [List.getElem?_map] at hx
  cases e : cs[j]? with
  | none => rw [e] at hx; cases hx
  | some c => rw [e] at hx; exact ⟨c, rfl, (Option.some.inj hx).symm⟩
/-! ### a group, grown -/
structure Gr (n : Nat) (es : List (Nat × Nat)) (p : Nat) (f : List Nat) : Prop where
  mem : p ∈ f
  nd : f.Nodup
  ok : ∀ x ∈ f, x < n ∧ Cn es p x
theorem Gr.snoc {n : Nat} {es : List (Nat × Nat)} {p y : Nat} {f : List Nat} (g : Gr n es p f) (hy : y ∉ f) (hn : y < n) (hc : Cn es p y) : Gr n es p (f ++ [y]) :=
  ⟨List.mem_append_left _ g.mem, by rw [List.nodup_append]; exact ⟨g.nd, nd1 _, fun a ha b hb z => hy (by rw [← List.mem_singleton.mp hb, ← z]; exact ha)⟩,
   fun x hx => by rcases List.mem_append.mp hx with h | h
                  · exact g.ok x h
                  · rw [List.mem_singleton.mp h]; exact ⟨hn, hc⟩⟩
theorem Gr.len {n : Nat} {es : List (Nat × Nat)} {p : Nat} {f : List Nat} (g : Gr n es p f) : f.length ≤ n := nodup_le g.nd fun x hx => (g.ok x hx).1
def Clo (ws : List Wy) (cs : List Nat) (f : List Nat) : Prop := ∀ c ∈ cs, ((wyAt ws c).1 ∈ f ↔ (wyAt ws c).2.1 ∈ f)
/-- a choice in a tuple or a list -/
def ChV (H : Hp) (cs : List Nat) (v : V) : Prop := ∃ a, v = .ref a ∧ (H a = some (.tup (natsV cs)) ∨ H a = some (.lst (natsV cs)))
theorem ChV.x {T : List Addr} {H H' : Hp} {cs : List Nat} {v : V} (h : ChV H cs v) (e : Ext T noM H H') : ChV H' cs v := by
  obtain ⟨a, rfl, h | h⟩ := h
  · exact ⟨a, rfl, .inl (e.tup (fun z => z) h)⟩
  · exact ⟨a, rfl, .inr (e.lst (fun z => z) h)⟩
structure TaskL (H : Hp) (n : Nat) (ws : List Wy) (cs : List Nat) (net ch : V) : Prop where
  W : Wf n ws
  lt : ∀ c ∈ cs, c < ws.length
  ln : cs.length ≤ 24
  net : Rp H (netD n ws) net
  ch : ChV H cs ch
theorem TaskL.x {T : List Addr} {H H' : Hp} {n : Nat} {ws : List Wy} {cs : List Nat} {net ch : V} (t : TaskL H n ws cs net ch) (e : Ext T noM H H') : TaskL H' n ws cs net ch := ⟨t.W, t.lt, t.ln, Rp.x e t.net, t.ch.x e⟩
theorem Task.l {H : Hp} {n : Nat} {ws : List Wy} {cs : List Nat} {net ch : V} (t : Task H n ws cs net ch) : TaskL H n ws cs net ch :=
  ⟨t.W, t.C.lt, Nat.le_trans t.C.len t.W.ln, t.net, by obtain ⟨a, rfl, h⟩ := ch_at t.ch; exact ⟨a, rfl, .inl h⟩⟩
def prP (p : Pr) : PyData := .tuple [.int (p.1 : Nat), .int (p.2 : Nat)]
theorem prP_shaped (p : Pr) : SeqAt.shaped (prP p) = true := by
  unfold SeqAt.shaped prP; simp [PyData.canLay0, PyData.canLayAll0, PyData.depth, PyData.depthAll]
theorem prP_all : ∀ ps : List Pr, PyData.canLayAll0 (ps.map prP) = true ∧ PyData.depthAll (ps.map prP) ≤ 1
  | [] => ⟨rfl, Nat.zero_le _⟩
  | p :: r => by
    obtain ⟨h1, h2⟩ := prP_all r
    simp only [List.map_cons, PyData.canLayAll0, PyData.depthAll, h1, Bool.and_true]
    exact ⟨by simp [prP, PyData.canLay0, PyData.canLayAll0], by simp [prP, PyData.depth, PyData.depthAll]; omega⟩
theorem prPs_shaped (ps : List Pr) : SeqAt.shaped (.list (ps.map prP)) = true := by
  obtain ⟨h1, h2⟩ := prP_all ps
  show (PyData.canLayAll0 (ps.map prP) && decide (PyData.depthAll (ps.map prP) + 1 ≤ 64)) = true
  rw [h1, Bool.true_and, decide_eq_true_eq]
  omega
theorem dp_pair {K : PySem.W.Frag} {H : Hp} {p : Pr} {v : V} (h : Rp H (pairD p) v) : Dp K H v (prP p) := by
  obtain ⟨a, rfl, ha⟩ := pair_at h
  exact .tup (SqT.of ha) (.cons (.int _) (.cons (.int _) .nil))
theorem dp_pairs {K : PySem.W.Frag} {H : Hp} : ∀ {ps : List Pr} {vs : List V}, RpL H (ps.map pairD) vs → DpAll K H vs (ps.map prP)
  | [], vs, h => by rw [h.nil]; exact .nil
  | p :: r, vs, h => by
    obtain ⟨v, u, rfl, h1, h2⟩ := h.cons
    exact .cons (dp_pair h1) (dp_pairs h2)
theorem eqv_pr (p q : Pr) : PyData.eqv (prP p) (prP q) = decide (p = q) := by
  obtain ⟨a, b⟩ := p
  obtain ⟨c, d⟩ := q
  by_cases h1 : a = c <;> by_cases h2 : b = d <;> simp [prP, PyData.eqv, PyData.eqvAll, h1, h2] <;> omega
theorem any_pr (q : Pr) (ps : List Pr) : ((ps.map prP).any fun z => PyData.eqv z (prP q)) = decide (q ∈ ps) := by
  rw [Bool.eq_iff_iff, List.any_eq_true, decide_eq_true_eq]
  constructor
  · rintro ⟨z, hz, e⟩
    obtain ⟨p, hp, rfl⟩ := List.mem_map.mp hz
    rw [eqv_pr, decide_eq_true_eq] at e
    rw [← e]; exact hp
  · intro h
    exact ⟨prP q, List.mem_map.mpr ⟨q, h, rfl⟩, by rw [eqv_pr, decide_eq_true rfl]⟩
def spLGroup (T : List Addr) : Sp := fun vs H Q _ => ∃ (net ch : V) (n : Nat) (ws : List Wy) (cs : List Nat) (p : Nat), vs = [net, ch, .int (p : Nat)] ∧ TaskL H n ws cs net ch ∧ p < n ∧ ∀ a H', H' a = some (.tup (natsV (cls (hom ws cs) n p))) → Ext T noM H H' → Q (.ref a) H'
def spLPairs (T : List Addr) : Sp := fun vs H Q _ => ∃ (p s : Addr) (n : Nat) (most : Int), vs = [.ref p, .int (n : Nat), .int most] ∧ PoolAt H p s ∧ 1 ≤ n ∧ n ≤ 12 ∧ 0 ≤ most ∧ most ≤ 6 ∧ ∀ v ps H', PsOk n ps → ps.Nodup → Rp H' (pairsD ps) v → PoolAt H' p s → Ext T (atP p) H H' → Q v H'
def spLJoins (T : List Addr) : Sp := fun vs H Q _ => ∃ (net pz ch : V) (n : Nat) (ws : List Wy) (cs : List Nat) (ps : List Pr), vs = [net, pz, ch] ∧ TaskL H n ws cs net ch ∧ Rp H (pairsD ps) pz ∧ PsOk n ps ∧ ∀ H', Ext T noM H H' → Q (.bl (jn ws cs ps)) H'
/-- what is known of the list while it grows, in one turn -/
structure Grow (T : List Addr) (H H' : Hp) (l n : Nat) (ws : List Wy) (cs : List Nat) (p j : Nat) (f0 f : List Nat) : Prop where
  g : Gr n (edg ws cs) p f
  hl : H' l = some (.lst (natsV f))
  fr : H l = none
  e : Ext T noM H H'
  st : (f = f0 ∧ Clo ws (cs.take j) f) ∨ (f0.length < f.length ∧ ¬ Clo ws cs f0)
theorem Grow.push {T : List Addr} {H H' : Hp} {l n : Nat} {ws : List Wy} {cs : List Nat} {p j k : Nat} {f0 f : List Nat} (G : Grow T H H' l n ws cs p j f0 f) {c y : Nat} (hc : c ∈ cs) (hy : y ∉ f) (hn : y < n) (hcn : Cn (edg ws cs) p y)
    (hd : ¬ ((wyAt ws c).1 ∈ f ↔ (wyAt ws c).2.1 ∈ f)) : Grow T H (upd H' l (.lst (natsV f ++ [V.int (y : Nat)]))) l n ws cs p k f0 (f ++ [y]) := by
  refine ⟨G.g.snoc hy hn hcn, by rw [upd_same]; unfold natsV; rw [List.map_append]; rfl, G.fr, G.e.mut (.inl G.fr) G.hl ltbl, .inr ?_⟩
  rcases G.st with ⟨rfl, _⟩ | ⟨h1, h2⟩
  · exact ⟨by rw [List.length_append, List.length_singleton]; omega, fun z => hd (z c hc)⟩
  · exact ⟨by rw [List.length_append, List.length_singleton]; omega, h2⟩
section
variable {P : Program} {w : World} {K : PySem.W.Frag} {mg : Str → Option Value} {base : Heap} {T : List Addr}
theorem ok__law_pairs {f : Addr} {fd : FuncData} (F : Fun K "_law_pairs" "_law_pairs" s_law_pairs f fd) (m_range : mg "range" = none) (m_tuple : mg "tuple" = none) {f_law_draw : Addr} {fd_law_draw : FuncData} (F_law_draw : Fun K "_law_draw" "_law_draw" s_law_draw f_law_draw fd_law_draw) (G_law_draw : FnOk P w K mg base CX0 1 f_law_draw fd_law_draw ["pool", "many"] (spDraw T)) (b_law_draw : Binds K fd_law_draw ["pool", "many"] []) (g_law_draw : mg "_law_draw" = some (.ref f_law_draw)) : FnOk P w K mg base CX0 2 f fd ["pool", "places", "most"] (spLPairs T) := by
  refine F.ok sc_law_pairs (fun vs H Q E h => ?_) (fun cdv A outer s H vs Q E hr h => ?_)
  · obtain ⟨p, s, n, most, rfl, hP, n1, n12, hm1, hm2, k⟩ := h
    rfl
  · obtain ⟨p, s, n, most, rfl, hP, n1, n12, hm1, hm2, k⟩ := h
    refine ⟨_, (pss_cons (ps_set (i := 3) sc_law_pairs.nd rfl (Or.inl rfl) (pe_lst pa_nil))
      (pss_cons (ps_for PassesOwn.never rfl (pi_range1 (by rfl) m_range (pa_cons (pe_call G_law_draw hr (by rfl) g_law_draw F_law_draw.kp b_law_draw .nil pass0 (pa_cons (pv 0) (pa_cons (pe_op op_add (pv 2) pe_int) pa_nil))) pa_nil)) (pg_name (i := 4) sc_law_pairs.nd rfl (Or.inl rfl)) (pss_one (ps_if (pt_cmpR op_gt (pv 1) pe_int (nomark _)) (pss_cons (ps_set (i := 5) sc_law_pairs.nd rfl (Or.inl rfl) (pe_call G_law_draw hr (by rfl) g_law_draw F_law_draw.kp b_law_draw .nil pass0 (pa_cons (pv 0) (pa_cons (pe_op op_sub (pv 1) pe_int) pa_nil))))
      (pss_cons (ps_set (i := 6) sc_law_pairs.nd rfl (Or.inl rfl) (pe_tup (pa_cons (pv 5) (pa_cons (pe_op op_add (pe_op op_add (pv 5) pe_int) (pe_call G_law_draw hr (by rfl) g_law_draw F_law_draw.kp b_law_draw .nil pass0 (pa_cons (pv 0) (pa_cons (pe_op op_sub (pe_op op_sub (pv 1) pe_int) (pv 5)) pa_nil)))) pa_nil))))
      (pss_one (ps_if (pt_cmpR (op_notInD (by have := hr.un; show (A.deeper _).units + 65 < _; omega)) (pv 6) (pv 3) (by rfl)) (pss_one (ps_expr (pe_bm PySem.F.plainAttrs_list PySem.F.slot_list_append PySem.F.type_list_append mt_append (pv 3) (pa_cons (pv 6) pa_nil)))) pss_nil)))) pss_nil)))
      (pss_one (ps_ret (pe_callTy call_tuple_of (by rfl) m_tuple (by decide +kernel) (pa_cons (pv 3) pa_nil)))))), ?_⟩
    refine ⟨by show 0 ≤ sizeLine; decide, fun l hl => ?_⟩
    obtain ⟨hlp, hls⟩ := hP.ne hl
    refine ⟨_, rfl, _, rfl, _, _, rfl, rfl, p, s, _, rfl, hP.upd hlp hls, by omega, by omega, fun r H1 r0 r1 hP1 e1 => ?_⟩
    have e01 : Ext T (atP p) H H1 := (Ext.new (T := T) hl).trans e1
    have hl1 : H1 l = some (.lst []) := e1.lst hlp upd_same
    refine ⟨r, rfl, by omega, by omega, for_range (lo := 0) (n := r.toNat) (fun i σ' H' => ∃ ps vs y4 y5 y6, σ' = [some (.ref p), some (.int (n : Nat)), some (.int most), some (.ref l), y4, y5, y6] ∧ PoolAt H' p s ∧ Ext T (atP p) H H' ∧ H' l = some (.lst vs) ∧ RpL H' (ps.map pairD) vs ∧ ps.length ≤ i ∧ ps.Nodup ∧ ∀ q ∈ ps, q.1 < q.2 ∧ q.2 < n)
      ⟨[], [], none, none, none, rfl, hP1, e01, hl1, rpl_nil, Nat.le_refl _, List.nodup_nil, fun q hq => nomatch hq⟩ ?_ ?_⟩
    · rintro i σ' H2 hi ⟨ps, vs, y4, y5, y6, rfl, hP2, e2, hl2, r2, hlen, nd, ok⟩
      have hvl : vs.length = ps.length := by rw [r2.len, List.length_map]
      refine ⟨_, rfl, _, _, rfl, rfl, _, rfl, ?_⟩
      refine ite2 (fun c => ?_) (fun c => ⟨ps, vs, _, _, _, rfl, hP2, e2, hl2, r2, Nat.le_succ_of_le hlen, nd, ok⟩)
      have c' : (n : Int) > 1 := of_decide_eq_true c
      refine ⟨_, rfl, _, rfl, _, _, rfl, rfl, p, s, _, rfl, hP2, by omega, by omega, fun a H3 a0 a1 hP3 e3 => ?_⟩
      obtain ⟨a, rfl⟩ := nat_of a0
      refine ⟨_, rfl, _, rfl, _, _, rfl, rfl, _, rfl, _, rfl, _, _, rfl, rfl, _, rfl, _, _, rfl, rfl, p, s, _, rfl, hP3, by omega, by omega, fun b H4 b0 b1 hP4 e4 => ?_⟩
      obtain ⟨b, rfl⟩ := nat_of b0
      refine ⟨_, _, rfl, rfl, by show 2 ≤ sizeLine; decide, fun t ht => ?_⟩
      have hl4 := e4.lst hlp (e3.lst hlp hl2)
      have r4 := RpL.p (RpL.p r2 hP2 e3) hP3 e4
      have e5 : Ext T noM H4 (upd H4 t (.tup [.int (a : Int), .int ((a : Int) + 1 + (b : Int))])) := Ext.new ht
      have hP5 := hP4.keep (T := T) e5
      have hl5 := e5.lst (fun z => z) hl4
      have r5 := RpL.x e5 r4
      have hn : Rp (upd H4 t (.tup [.int (a : Int), .int ((a : Int) + 1 + (b : Int))])) (pairD (a, a + 1 + b)) (.ref t) := rp_pair (by rw [upd_same]; push_cast; rfl)
      have e25 := ((e2.trans e3).trans e4).trans e5.weak
      refine ⟨_, rfl, _, rfl, prP (a, a + 1 + b), ps.map prP, dp_pair hn, .lst (SqL.of hl5) (dp_pairs r5), prP_shaped _, prPs_shaped _, _, rfl, ?_⟩
      refine ite2 (fun q => ?_) (fun q => ⟨ps, vs, _, _, _, rfl, hP5, e25, hl5, r5, Nat.le_succ_of_le hlen, nd, ok⟩)
      refine ⟨_, rfl, .inl ⟨rfl, _, SqL.of hl5⟩, _, rfl, l, _, _, rfl, rfl, hl5, small1000 (by omega), ps ++ [(a, a + 1 + b)], vs ++ [.ref t], _, _, _, rfl, hP5.upd hlp hls, e25.mut (.inl hl) hl5 ltbl, upd_same, ?_, ?_, ?_, ?_⟩
      · rw [List.map_append]
        exact rpl_upd (RpL.snoc r5 hn) hl5
      · rw [List.length_append, List.length_singleton]; omega
      · have q : (!((ps.map prP).any fun z => PyData.eqv z (prP (a, a + 1 + b)))) = true := q
        rw [any_pr, Bool.not_eq_true', decide_eq_false_iff_not] at q
        rw [List.nodup_append]
        exact ⟨nd, List.nodup_cons.mpr ⟨(fun h => nomatch h), List.nodup_nil⟩, fun x hx y hy z => q (by rw [← List.mem_singleton.mp hy, ← z]; exact hx)⟩
      · intro q hq
        rcases List.mem_append.mp hq with h | h
        · exact ok q h
        · rw [List.mem_singleton.mp h]
          exact ⟨by show a < a + 1 + b; omega, by show a + 1 + b < n; omega⟩
    · rintro σ' H2 ⟨ps, vs, y4, y5, y6, rfl, hP2, e2, hl2, r2, hlen, nd, ok⟩
      refine ⟨_, rfl, l, vs, rfl, .inl ⟨SqL.of hl2, fun t ht => ?_⟩⟩
      exact k (.ref t) ps _ ⟨ok, by omega⟩ nd (rp_t upd_same (RpL.x (Ext.new (T := T) ht) r2)) (hP2.keep (T := T) (Ext.new ht)) (e2.trans (Ext.new ht))
end
end Mw

set_option Elab.async false
set_option linter.all false
set_option maxRecDepth 100000
set_option maxHeartbeats 2000000
/-! words and numbers in texts -/
namespace Mw
open PySem NumText
abbrev chs_ (x : Str) : List Nat := x.cps.toList
theorem str_ext {x y : Str} (h : chs_ x = chs_ y) : x = y := by
  have := congrArg (fun l : List Nat => (⟨l.toArray⟩ : Str)) h
  rw [TL.mk_tl, TL.mk_tl] at this
  exact this
/-- the text of a number -/
def nmS (n : Nat) : Str := Str.ofString (toString ((n : Nat) : Int))
theorem ch_nm (n : Nat) : chs_ (nmS n) = TL.numL n := TL.tl_num n
theorem ln_ch (x : Str) : x.length = (chs_ x).length := TL.len_tl x
theorem numL_mono : ∀ (N : Nat) {m n : Nat}, n ≤ N → m ≤ n → (TL.numL m).length ≤ (TL.numL n).length
  | N, m, n, hN, h => by
    by_cases h1 : m < 10
    · rw [TL.numL_lt h1]
      exact List.length_pos_iff.mpr (TL.numL_ne n)
    · rw [TL.numL_step (show 10 ≤ m by omega), TL.numL_step (show 10 ≤ n by omega), List.length_append, List.length_append]
      have := numL_mono (N - 1) (m := m / 10) (n := n / 10) (by omega) (by omega)
      show _ + 1 ≤ _ + 1
      omega
termination_by N _ n => n
decreasing_by omega
def isNum (a : Str) : Bool := Txt.isascii a && Txt.isdigit a
theorem dig_one {c : Nat} (h : c < 128) : Unicode.isDigit c = (decide (48 ≤ c) && decide (c ≤ 57)) := by
  have := PySem.W.os_isdigit h
  rw [← this]
  show _ = (decide ((⟨#[c]⟩ : Str).length > 0) && (#[c] : Array Nat).all Unicode.isDigit)
  simp [Str.length]
theorem isNum_iff {a : Str} : isNum a = true ↔ AllDigits (chs_ a) ∧ chs_ a ≠ [] := by
  unfold isNum Txt.isascii Txt.isdigit
  rw [Bool.and_eq_true, Bool.and_eq_true, decide_eq_true_eq, ln_ch, ← Array.all_toList, ← Array.all_toList, List.all_eq_true, List.all_eq_true]
  constructor
  · rintro ⟨h1, h2, h3⟩
    refine ⟨fun c hc => ?_, fun z => ?_⟩
    · have c1 : c < 128 := by simpa using h1 c hc
      have := h3 c hc
      rw [dig_one c1, Bool.and_eq_true, decide_eq_true_eq, decide_eq_true_eq] at this
      exact this
    · rw [z] at h2; exact absurd h2 (Nat.lt_irrefl 0)
  · rintro ⟨h1, h2⟩
    refine ⟨fun c hc => ?_, List.length_pos_iff.mpr h2, fun c hc => ?_⟩
    · have := h1 c hc
      exact decide_eq_true (by omega)
    · have := h1 c hc
      rw [dig_one (by omega), Bool.and_eq_true, decide_eq_true_eq, decide_eq_true_eq]
      exact this
theorem isNum_nm (n : Nat) : isNum (nmS n) = true := isNum_iff.mpr (by rw [ch_nm]; exact ⟨TL.numL_digits n, TL.numL_ne n⟩)
theorem int_of {a : Str} (h : isNum a = true) (hl : a.length ≤ 4300) : intText? a = some ((digitsVal (chs_ a) : Nat) : Int) := by
  obtain ⟨h1, h2⟩ := isNum_iff.mp h
  exact intText_digits h1 h2 hl
theorem dv_lt : ∀ (l : List Nat) (a : Nat), AllDigits l → l.foldl (fun acc c => acc * 10 + (c - 48)) a < (a + 1) * 10 ^ l.length
  | [], a, _ => by show a < (a + 1) * 1; omega
  | c :: l, a, h => by
    have hc := h.head
    have ih := dv_lt l (a * 10 + (c - 48)) h.tail
    rw [List.foldl_cons]
    refine Nat.lt_of_lt_of_le ih ?_
    rw [List.length_cons, Nat.pow_succ, Nat.mul_comm (10 ^ l.length) 10, ← Nat.mul_assoc]
    exact Nat.mul_le_mul_right _ (by omega)
theorem val_lt {l : List Nat} (h : AllDigits l) : digitsVal l < 10 ^ l.length := by
  have := dv_lt l 0 h
  rw [Nat.zero_add, Nat.one_mul] at this
  exact this
/-- the number from lo to hi that the word tells -/
def numT (a : Str) (lo hi : Nat) : Option Nat :=
  if (decide ((TL.numL hi).length < a.length) || !isNum a) = true then none
  else if (decide (nmS (digitsVal (chs_ a)) ≠ a) || (decide (digitsVal (chs_ a) < lo) || decide (hi < digitsVal (chs_ a)))) = true then none else some (digitsVal (chs_ a))
theorem numT_nm {n lo hi : Nat} (h1 : lo ≤ n) (h2 : n ≤ hi) : numT (nmS n) lo hi = some n := by
  have e : digitsVal (chs_ (nmS n)) = n := by rw [ch_nm, TL.numL_val]
  have hl := numL_mono hi (m := n) (Nat.le_refl _) h2
  unfold numT
  rw [isNum_nm, e, ln_ch, ch_nm, decide_eq_false (by omega : ¬ (TL.numL hi).length < (TL.numL n).length), if_neg (by decide), decide_eq_false (fun z => z rfl), decide_eq_false (by omega : ¬ n < lo), decide_eq_false (by omega : ¬ hi < n), if_neg (by decide)]
theorem numT_some {a : Str} {lo hi n : Nat} (h : numT a lo hi = some n) : a = nmS n ∧ lo ≤ n ∧ n ≤ hi := by
  unfold numT at h
  split at h
  · cases h
  · split at h
    · cases h
    · rename_i h2
      have e := Option.some.inj h
      rw [e] at h2
      rw [Bool.or_eq_true, Bool.or_eq_true, decide_eq_true_eq, decide_eq_true_eq, decide_eq_true_eq] at h2
      have h3 : nmS n = a := Classical.byContradiction fun z => h2 (.inl z)
      refine ⟨h3.symm, ?_, ?_⟩
      · exact Classical.byContradiction fun z => h2 (.inr (.inl (by omega)))
      · exact Classical.byContradiction fun z => h2 (.inr (.inr (by omega)))
theorem nm_inj {m n : Nat} (h : nmS m = nmS n) : m = n := TL.numL_inj (by rw [← ch_nm, ← ch_nm, h])
/-- splitting what was joined -/
theorem split_of {y : Str} {s : Nat} (ey : chs_ y = [s]) (hs : s < 256) {parts : List Str} (hne : parts ≠ []) (hp : ∀ p ∈ parts, s ∉ chs_ p) {x : Str} (hx : chs_ x = TL.joinL [s] (parts.map chs_)) : Txt.split x y = parts := by
  have e : x = Txt.join y parts := str_ext (by
    rw [hx, TL.join_eq]
    have := TL.tl_join y parts
    rw [show TL.tl y = [s] from ey] at this
    exact this.symm)
  rw [e]
  refine TL.split_join ey ?_ hne hp
  rw [← Array.all_toList, show y.cps.toList = [s] from ey]
  simp [hs]
theorem spl_ne (S : List Nat) : ∀ (l : List Nat) (k : Nat) (acc : List Nat), TL.spl S k acc l ≠ []
  | [], k, acc => by rw [TL.spl_nil]; exact List.cons_ne_nil _ _
  | c :: r, k, acc => by
    rw [TL.spl_pass]
    cases k with
    | zero =>
      rw [List.drop_zero]
      cases h : TL.pre S (c :: r) with
      | true => rw [TL.spl_hit h]; exact List.cons_ne_nil _ _
      | false => rw [TL.spl_miss h]; exact spl_ne S r 0 _
    | succ k =>
      rw [List.drop_succ_cons]
      have := spl_ne S r k acc
      rw [TL.spl_pass] at this
      exact this
theorem split_ne {x y : Str} {s : Nat} (ey : chs_ y = [s]) (hs : s < 256) : Txt.split x y ≠ [] := fun z => by
  have hk : y.cps.all (· < 256) = true := by
    rw [← Array.all_toList, show y.cps.toList = [s] from ey]
    simp [hs]
  have e := TL.split_spl x y (by rw [show TL.tl y = [s] from ey]; exact List.cons_ne_nil _ _) (TL.kind_ok hk)
  rw [z] at e
  exact spl_ne _ _ _ _ e.symm
theorem split_len {x y : Str} {s : Nat} (ey : chs_ y = [s]) : (Txt.split x y).length ≤ x.length + 1 ∧ ∀ w ∈ Txt.split x y, w.length ≤ x.length := by
  have hy : 1 ≤ y.length := by rw [ln_ch, ey]; exact Nat.le_refl 1
  have h := PyProof.Rows.split_weight x y hy
  have hp : ∀ (l : List Str), ∀ w ∈ l, w.length + l.length ≤ (l.map (·.length)).sum + l.length := fun l w hw => by
    have : w.length ≤ (l.map (·.length)).sum := by
      induction l with
      | nil => cases hw
      | cons a l ih =>
        rw [List.map_cons, List.sum_cons]
        rcases List.mem_cons.mp hw with e | e
        · rw [e]; omega
        · have := ih e; omega
    omega
  refine ⟨by omega, fun w hw => ?_⟩
  have h1 := hp _ w hw
  have h2 : 1 ≤ (Txt.split x y).length := List.length_pos_of_mem hw
  omega
end Mw

set_option Elab.async false
set_option linter.all false
set_option maxRecDepth 100000
set_option maxHeartbeats 2000000
/-! tests that only look: their answer, and a branch by it -/
namespace GE
open PySem PySem.Spec PyProof.Rows L2
def Ev (t : TT) (σ : L2.St) (H : Hp) (b : Bool) : Prop := ∀ Q : Bool → Hp → Prop, Q b H → t σ H Q
theorem ev_and {t u : TT} {σ : L2.St} {H : Hp} {a b : Bool} (h1 : Ev t σ H a) (h2 : a = true → Ev u σ H b) : Ev (tAnd t u) σ H (a && b) := fun Q q => by
  refine h1 _ ?_
  cases a with
  | true => exact h2 rfl Q q
  | false => exact q
theorem ev_or {t u : TT} {σ : L2.St} {H : Hp} {a b : Bool} (h1 : Ev t σ H a) (h2 : a = false → Ev u σ H b) : Ev (tOr t u) σ H (a || b) := fun Q q => by
  refine h1 _ ?_
  cases a with
  | true => exact q
  | false => exact h2 rfl Q q
theorem ev_andc {t u : TT} {σ : L2.St} {H : Hp} {Q : Bool → Hp → Prop} {a : Bool} (h1 : Ev t σ H a) (h2 : if a = true then u σ H Q else Q false H) : tAnd t u σ H Q := h1 _ h2
theorem ev_ifq {c : TT} {t u : TS} {D : Ends} {σ : L2.St} {H : Hp} (h : c σ H fun b H1 => if b = true then t D σ H1 else u D σ H1) : tIfS c t u D σ H := h
theorem ev_not {t : TT} {σ : L2.St} {H : Hp} {a : Bool} (h1 : Ev t σ H a) : Ev (tNot t) σ H (!a) := fun Q q => h1 _ q
theorem ev_if {c : TT} {t u : TS} {D : Ends} {σ : L2.St} {H : Hp} {b : Bool} (h : Ev c σ H b) (h1 : b = true → t D σ H) (h2 : b = false → u D σ H) : tIfS c t u D σ H := by
  refine h _ ?_
  cases b with
  | true => exact h1 rfl
  | false => exact h2 rfl
end GE

set_option Elab.async false
set_option linter.all false
set_option maxRecDepth 100000
set_option maxHeartbeats 2000000
/-! texts: f-strings by a name, enumerate with a start -/
namespace GE
open PySem PySem.Spec PyProof.Rows L2
def tJ (ts : List TE) : TE := fun σ H Q => tJs ts Str.empty σ H fun out H1 => Q (.str out) H1
theorem pe_js {X : Cx} {v1 v2 : Expr} {rest : List Expr} {ts : List TE} {pos : Pos} (h : PJ X (v1 :: v2 :: rest) ts) : PE X (.JoinedStr (v1 :: v2 :: rest) pos) (tJ ts) := pe_joined h
theorem pe_globI {X : Cx} {x : Str} {n : Int} {pos : Pos} (hg : Gl X x) (h : ∃ tk, X.mg x = some (.int n tk)) (hd : (x == ("__debug__" : Str)) = false := by decide) : PE X (.Name x pos) (tC (.int n)) := by
  obtain ⟨tk, h⟩ := h
  exact pe_glob hg h ⟨_, rfl⟩ hd
section
variable {M : Model} {A : Around} {E : Value → Shared → Prop} {s : Shared} {env : Env}
theorem kwT_call {cpos : Pos} {T : String} {a : Expr} {as : List Expr} {ks : List Keyword} {Q : Value → Shared → Prop}
    (run : wpAny M A (spliced (backTo cpos (starEach (a :: as) env))) (fun us r1 => wpAny M A (evalAll ((backToKw cpos (keywordEach ks env)).map (·.2))) (fun zs r2 => wpAny M A (call (.type T) us (((backToKw cpos (keywordEach ks env)).filterMap (·.1)).zip zs)) Q E r2) E r1) E s)
    (g1 : backTo cpos (starEach (a :: as) env) = (false, eval a env) :: backTo cpos (starEach as env)) (g2 : (backTo cpos (starEach (a :: as) env)).any (·.1) = false)
    (g3 : (backToKw cpos (keywordEach ks env)).all (·.1.isSome) = true) (g4 : (backToKw cpos (keywordEach ks env)).any (·.1.isNone) = false) :
    wpAny M A (callWith cpos (.type T) [] (backTo cpos (starEach (a :: as) env)) (backToKw cpos (keywordEach ks env))) Q E s := by
  have arg : wpAny M A (evalArgs (.type T) true (backTo cpos (starEach (a :: as) env)) (backToKw cpos (keywordEach ks env))) (fun g r => wpAny M A (call (.type T) ([] ++ g.pos) g.kw) Q E r) E s := by
    rw [g1] at run ⊢
    exact evalArgs_kwB g3 run
  unfold callWith
  refine wpAny_bind (wpAny_holding (wpAny_mono arg (fun g r1 q1 => wpAny_bind (wpAny_standAt ?_)) fun _ _ y => y))
  simp only [g2, g4, Bool.or_false]
  exact wpAny_bind (wpAny_pure (wpAny_bind (wpAny_mono q1 (fun z r2 q2 => wpAny_bind (wpAny_holding (wpAny_point (wpAny_pure q2)))) fun _ _ y => y)))
end
theorem enum_endL {prog : Program} {w : World} {A : Around} {E : Value → Shared → Prop} {s : Shared} {e it a : Addr} {i : Nat} {c : Int} {items : Array Value} {old : Value} {Q : Option Value → Shared → Prop} (hh : A.handled = none) (he : IsEnum s.heap e it c old) (hit : s.heap.IsListIter it a i)
    (hT : s.heap.IsList a items) (hx : items[i]? = none) (hQ : ∀ h', Heap.ExtBut it s.heap h' → Q none { s with heap := h' }) : wpAny (model prog w) A (pyNext (.ref e)) Q E s := by
  have ty : s.TypeIs (.ref e) "enumerate" := ⟨_, he, rfl⟩
  unfold pyNext
  refine wpAny_bind (wpAny_attempt (wpAny_callSpecial?_slot (name := Str.ofString "__next__") ty F.slot_enumerate_next (wpAny_call_entry F.slot_enumerate_next ty F.entry_enumerate_next ?_ (F.args_enumerate_next_1 _))))
  show wpAny _ _ (field (.ref e) 2 >>= _) _ _ s
  refine wpAny_bind (wpAny_field he rfl (x := .ref it) rfl ?_)
  refine wpAny_bind (wpAny_nextOf_list_end hh hit hT hx fun h' x eb ⟨o, ho, hc⟩ => ?_)
  exact wpAny_bind (wpAny_isInstance (T := "StopIteration") (b := true) ⟨o, ho, hc⟩ isSubtype_stop (wpAny_pure (hQ _ eb)))
/-- enumerate(list, start=1) -/
def Ite1 (K : PySem.W.Frag) (a : Addr) : It :=
  ⟨fun i H => ∃ (xs : List V) (x : V), SqL K H a xs ∧ xs[i]? = some x, fun i H v H' => ∃ T x, v = .ref T ∧ H T = none ∧ H' = upd H T (.tup [.int ((i + 1 : Nat) : Int), x]) ∧ ∀ xs, SqL K H a xs → xs[i]? = some x, fun i H => ∃ xs : List V, SqL K H a xs ∧ xs.length ≤ i⟩
theorem walk_enum1 {K : PySem.W.Frag} {a : Addr} {xs : List V} : Walk (Ite1 K a) xs.length (fun H => SqL K H a xs) (YPair (fun i => some (.int ((i + 1 : Nat) : Int))) (fun i => xs[i]?)) := by
  refine ⟨fun i _ hi q => ⟨xs, xs[i], q, List.getElem?_eq_getElem hi⟩, fun _ q => ⟨xs, q, Nat.le_refl _⟩, fun i H v H' _ q y => ?_⟩
  obtain ⟨T, x, h1, h2, h3, h4⟩ := y
  exact ⟨T, .int ((i + 1 : Nat) : Int), x, h1, h2, h3, rfl, h4 xs q⟩
theorem turn_enum1 {P : Program} {w : World} {K : PySem.W.Frag} {elts : List Expr} {kk : Nat} {tpos : Pos} (a e it : Addr) :
    Turn P w K (.Tuple elts kk tpos) (Ite1 K a) [e, it] e (fun i h => (∃ old, IsEnum h e it ((i + 1 : Nat) : Int) old) ∧ h.IsListIter it a i ∧ e ≠ it ∧ a ≠ it ∧ a ≠ e) where
  mem := by simp
  obj := fun i h st b hb => by
    obtain ⟨⟨old, he⟩, ⟨o, ho, hc, hd⟩, _⟩ := st
    have e' : b = e ∨ b = it := by simpa using hb
    rcases e' with z | z
    · rw [z]; exact ⟨_, he, fun v q => nomatch q⟩
    · rw [z]; exact ⟨o, ho, fun v q => by rw [hd] at q; cases q⟩
  keep := fun i h h' st k => let ⟨⟨old, he⟩, hi, hne⟩ := st; ⟨⟨old, k e (by simp) _ he⟩, hi.at fun o q => k it (by simp) o q, hne⟩
  item := by
    intro X hP hw hK hc i pins s σ H E I hf st hg
    subst hP hw hK
    obtain ⟨⟨old, he⟩, hit, hne, hai, hae⟩ := st
    obtain ⟨xs, x, hq, hx⟩ := hg
    obtain ⟨its, rv, p, hz⟩ := I.list hq
    obtain ⟨u, hu, ru⟩ := rv.get hx
    have hel : e < s.heap.objs.size := Heap.lt_size he
    have hil : it < s.heap.objs.size := by obtain ⟨_, q, _⟩ := hit; exact Heap.lt_size q
    have hT0 : s.heap.IsList a its.toArray := p.isList
    have hlt : i < its.toArray.size := by
      have := (List.getElem?_eq_some_iff.mp hu).1
      simpa using this
    refine wpAny_pyNext_enum_itemC (Draws.list (A := X.A.in1) (I.ok.hd hc) it a hai its.toArray) he ⟨hit, hT0⟩ hlt hne (by simp [hne, Ne.symm hae]) fun y h' tk hy ho hst' hT hsz hk => ?_
    have ey : y = u := by
      have h2 : its.toArray[i]? = some u := by simpa using hu
      exact Option.some.inj (hy.symm.trans h2)
    subst ey
    refine ⟨_, rfl, wpAny_letOwnedTupleGo_enum (s := { s with heap := h', toks := tk + 1 }) ho fun h'' he' sb => ?_⟩
    have hT2 : h''.get? s.heap.objs.size = some { cls := .type "tuple", data := .seq #[.int ((i + 1 : Nat) : Int) tk, y] } := (sb.2 _ (Nat.ne_of_gt hel)).trans hT
    have new : ObjOk X.prog X.w (upd H s.heap.objs.size (.tup [.int ((i + 1 : Nat) : Int), x])) h'' s.heap.objs.size (.tup [.int ((i + 1 : Nat) : Int), x]) :=
      ⟨by show 2 ≤ sizeLine; decide, [.int ((i + 1 : Nat) : Int) tk, y], .cons ⟨_, rfl⟩ (.cons ru .nil), ⟨_, hT2, rfl, _, rfl⟩⟩
    have I1 : Inv X pins σ (upd H s.heap.objs.size (.tup [.int ((i + 1 : Nat) : Int), x])) { s with heap := h'', toks := tk + 1 } :=
      I.turnedNew (ch := [e, it]) (fun b ob hb q => (sb.2 b (fun z => hb (by simp [z]))).trans (hk b ob (fun z => hb (by simp [z])) (fun z => hb (by simp [z])) q)) hf (Nat.le_refl _) new
    refine ⟨.ref s.heap.objs.size, _, I1, rfl, ⟨_, x, rfl, I.hok.fresh (Nat.le_refl _), rfl, fun ys hy' => ?_⟩, ⟨⟨y, ?_⟩, hst'.1.at fun o q => (sb.2 it (Ne.symm hne)).trans q, hne, hai, hae⟩, fun b hb => ?_⟩
    · rw [I.list_inj hy' hq]; exact hx
    · have e1 : ((i + 1 + 1 : Nat) : Int) = ((i + 1 : Nat) : Int) + 1 := by omega
      rw [e1]; exact he'
    · have hb' : b < s.heap.objs.size := by
        have e' : b = e ∨ b = it := by simpa using hb
        rcases e' with z | z
        · rw [z]; exact hel
        · rw [z]; exact hil
      rw [upd_ne (Nat.ne_of_lt hb')]
      exact (hf b hb).1
  done := by
    intro X hP hw hK hc i pins s σ H E I hf st hg
    subst hP hw hK
    obtain ⟨⟨old, he⟩, hit, hne, hai, hae⟩ := st
    obtain ⟨xs, hq, hx⟩ := hg
    obtain ⟨its, rv, p, hz⟩ := I.list hq
    obtain ⟨f0, f1, f2, f3, f4, f5⟩ := hf it (by simp)
    have hl := rv.length
    refine enum_endL (I.ok.hd hc) he hit p.isList (by simp; omega) fun h' eb => ⟨rfl, I.turned (t' := s.toks) (fun b o hb q => eb b o hb q) f0 f1 f3 f4 f5⟩
  self := fun A i s Q E st h => let ⟨⟨_, he⟩, _⟩ := st; wpAny_pyIter_enum he h
def iEnum1 (K : PySem.W.Frag) (ta : TA) : TI := fun σ H R => ta σ H fun vs H1 => ∃ a xs, vs = [.ref a] ∧ SqL K H1 a xs ∧ R (Ite1 K a) H1
theorem pi_enum1 {X : Cx} {e : Expr} {ta : TA} {p pos tpos kpos ipos : Pos} {elts : List Expr} {kk kz : Nat} (hg : Gl X "enumerate") (hm : X.mg "enumerate" = none) (ha : PA X [e] ta)
    (g1 : backTo pos (starEach [e] X.env) = (false, eval e X.env) :: backTo pos (starEach [] X.env) := by rfl) (g2 : (backTo pos (starEach [e] X.env)).any (·.1) = false := by rfl) :
    PI X (.Tuple elts kk tpos) (.Call (.Name "enumerate" p) [e] [⟨some "start", .Constant (.int 1) kz ipos, kpos⟩] pos) (iEnum1 X.K ta) := by
  refine ⟨fun pins s σ H R I h => ?_⟩
  refine wpAny_Call_Name_kw (ld_blt I hg hm boot_enumerate ?_)
  refine kwT_call (thn (ha.run pos pins s σ H _ I h) fun us s1 ⟨vs, H1, I1, r1, q1⟩ => thn ((pk_cons (nm := some "start") (kpos := kpos) (e := .Constant (.int 1) kz ipos) (pe_int (X := X)) pk_nil).run pos pins s1 σ H1 (fun zs H2 => zs = [.int 1] ∧ H2 = H1) I1 ⟨rfl, rfl⟩) fun ws s2 ⟨zs, H2, I2, r2, ez, eH⟩ => ?_) g1 g2 rfl rfl
  subst ez
  subst eH
  obtain ⟨a, xs, ex, hq, q⟩ := q1
  subst ex
  obtain ⟨z0, rfl, ⟨tk, rfl⟩⟩ : ∃ z0, ws = [z0] ∧ RelV (.int 1) z0 := by
    cases r2 with
    | cons r rr =>
      cases rr
      exact ⟨_, rfl, r⟩
  cases r1 with
  | cons r rr =>
    cases rr
    cases r
    obtain ⟨its, rv, p', hz⟩ := I2.list hq
    have hT0 : s2.heap.IsList a its.toArray := p'.isList
    have hal : a < s2.heap.objs.size := by obtain ⟨_, q0, _⟩ := hT0; exact Heap.lt_size q0
    show wpAny _ _ (call (.type "enumerate") [.ref a] [(Str.ofString "start", .int 1 tk)]) _ _ s2
    refine enum_begins_start (begins_list a its.toArray) hT0 (by decide) (by decide) fun h' he hit hsz hk => wpAny_pyIter_enum he ?_
    have I3 : Inv X pins σ H2 { s2 with heap := h' } := I2.kept (t' := s2.toks) hk
    refine ⟨s2.heap.objs.size + 1, [s2.heap.objs.size + 1, s2.heap.objs.size], _, _, H2, rfl, I3, turn_enum1 a (s2.heap.objs.size + 1) s2.heap.objs.size, ⟨⟨.none, he⟩, ⟨_, hit, rfl, rfl⟩, Nat.succ_ne_self _, Nat.ne_of_lt hal, Nat.ne_of_lt (Nat.lt_succ_of_lt hal)⟩, fun b hb => ?_, q⟩
    have e' : b = s2.heap.objs.size + 1 ∨ b = s2.heap.objs.size := by simpa using hb
    have hle : s2.heap.objs.size ≤ b := by
      rcases e' with z | z
      · rw [z]; exact Nat.le_add_right _ _
      · rw [z]; exact Nat.le_refl _
    exact I2.fpOk hle (I2.hok.fresh hle)
end GE

set_option Elab.async false
set_option linter.all false
set_option maxRecDepth 100000
set_option maxHeartbeats 4000000
namespace Mw
open PySem PySem.Spec PyProof.Rows L2 GE
structure RTx (K : PySem.W.Frag) (aC : Addr) : Prop where
  cl : Cls K aC
  n_places : NoAttr K aC "places"
  n_ways : NoAttr K aC "ways"
  n_pairs : NoAttr K aC "pairs"
def oV : Option Nat → V
  | some n => .int (n : Nat)
  | none => .non
def rf (pl : Option Nat) (lw lp : Addr) : List (Str × V) := [("places", oV pl), ("ways", .ref lw), ("pairs", .ref lp)]
/-- the reader at p, its lists at lw and lp -/
structure RdAt (K : PySem.W.Frag) (aC : Addr) (H : Hp) (p lw lp : Addr) (pl : Option Nat) (ws : Wl) (ps : List Pr) : Prop where
  ob : ∃ dx, H p = some (.ins aC dx (rf pl lw lp))
  wy : ∃ us, H lw = some (.lst us) ∧ RpL H (ws.map wayD) us
  pr : ∃ us, H lp = some (.lst us) ∧ RpL H (ps.map pairD) us
  ne : lw ≠ lp
  ok : ∀ n, pl = some n → 1 ≤ n ∧ n ≤ 12
def RM (p lw lp : Addr) : Addr → Prop := fun b => b = p ∨ b = lw ∨ b = lp
theorem RdAt.x {K : PySem.W.Frag} {aC : Addr} {T : List Addr} {H H' : Hp} {p lw lp : Addr} {pl : Option Nat} {ws : Wl} {ps : List Pr} (h : RdAt K aC H p lw lp pl ws ps) (e : Ext T noM H H') : RdAt K aC H' p lw lp pl ws ps := by
  obtain ⟨⟨dx, h1⟩, ⟨us, h2, h3⟩, ⟨vs, h4, h5⟩, h6, h7⟩ := h
  exact ⟨⟨dx, e.kp _ _ (fun z => z) h1 fun ps z => nomatch z⟩, ⟨us, e.lst (fun z => z) h2, RpL.x e h3⟩, ⟨vs, e.lst (fun z => z) h4, RpL.x e h5⟩, h6, h7⟩
theorem RdAt.not {K : PySem.W.Frag} {aC : Addr} {H : Hp} {p lw lp : Addr} {pl : Option Nat} {ws : Wl} {ps : List Pr} (h : RdAt K aC H p lw lp pl ws ps) : ∀ b vs, RM p lw lp b → H b ≠ some (.tup vs) := fun b vs e z => by
  obtain ⟨⟨dx, h1⟩, ⟨us, h2, h3⟩, ⟨vs, h4, h5⟩, h6, h7⟩ := h
  rcases e with e | e | e
  · rw [e, h1] at z; cases z
  · rw [e, h2] at z; cases z
  · rw [e, h4] at z; cases z
theorem RdAt.diff {K : PySem.W.Frag} {aC : Addr} {H : Hp} {p lw lp : Addr} {pl : Option Nat} {ws : Wl} {ps : List Pr} (h : RdAt K aC H p lw lp pl ws ps) : p ≠ lw ∧ p ≠ lp := by
  obtain ⟨⟨dx, h1⟩, ⟨us, h2, h3⟩, ⟨vs, h4, h5⟩, h6, h7⟩ := h
  exact ⟨(fun z => by rw [z, h2] at h1; cases h1), (fun z => by rw [z, h4] at h1; cases h1)⟩
theorem RdAt.put {K : PySem.W.Frag} {aC : Addr} {T : List Addr} {H : Hp} {p lw lp dx : Addr} {pl pl' : Option Nat} {ws : Wl} {ps : List Pr} (R0 : RdAt K aC H p lw lp pl ws ps) (hob : H p = some (.ins aC dx (rf pl lw lp))) (hn : ∀ n, pl' = some n → 1 ≤ n ∧ n ≤ 12) :
    RdAt K aC (upd H p (.ins aC dx (rf pl' lw lp))) p lw lp pl' ws ps ∧ Ext T (RM p lw lp) H (upd H p (.ins aC dx (rf pl' lw lp))) := by
  obtain ⟨us, h2, h3⟩ := R0.wy
  obtain ⟨vs, h4, h5⟩ := R0.pr
  have x : Ext T (RM p lw lp) H (upd H p (.ins aC dx (rf pl' lw lp))) := (Ext.refl T _ H).mut (.inr (.inl rfl)) hob fun ps z => nomatch z
  exact ⟨⟨⟨dx, upd_same⟩, ⟨us, by rw [upd_ne R0.diff.1.symm]; exact h2, h3.ext x R0.not⟩, ⟨vs, by rw [upd_ne R0.diff.2.symm]; exact h4, h5.ext x R0.not⟩, R0.ne, hn⟩, x⟩
theorem RdAt.way {K : PySem.W.Frag} {aC : Addr} {T : List Addr} {H : Hp} {p lw lp t : Addr} {pl : Option Nat} {ws : Wl} {ps : List Pr} {us : List V} {w : Wy} (R0 : RdAt K aC H p lw lp pl ws ps) (h2 : H lw = some (.lst us)) (ht : Rp H (wayD w) (.ref t)) :
    RdAt K aC (upd H lw (.lst (us ++ [.ref t]))) p lw lp pl (ws ++ [w]) ps ∧ Ext T (RM p lw lp) H (upd H lw (.lst (us ++ [.ref t]))) := by
  obtain ⟨dx, h1⟩ := R0.ob
  obtain ⟨us', h2', h3⟩ := R0.wy
  rw [h2] at h2'
  cases h2'
  obtain ⟨vs, h4, h5⟩ := R0.pr
  have x : Ext T (RM p lw lp) H (upd H lw (.lst (us ++ [.ref t]))) := (Ext.refl T _ H).mut (.inr (.inr (.inl rfl))) h2 ltbl
  exact ⟨⟨⟨dx, by rw [upd_ne R0.diff.1]; exact h1⟩, ⟨_, upd_same, by rw [List.map_append]; exact (h3.ext x R0.not).snoc (ht.ext x R0.not)⟩, ⟨vs, by rw [upd_ne R0.ne.symm]; exact h4, h5.ext x R0.not⟩, R0.ne, R0.ok⟩, x⟩
theorem RdAt.pair {K : PySem.W.Frag} {aC : Addr} {T : List Addr} {H : Hp} {p lw lp t : Addr} {pl : Option Nat} {ws : Wl} {ps : List Pr} {us : List V} {q : Pr} (R0 : RdAt K aC H p lw lp pl ws ps) (h4 : H lp = some (.lst us)) (ht : Rp H (pairD q) (.ref t)) :
    RdAt K aC (upd H lp (.lst (us ++ [.ref t]))) p lw lp pl ws (ps ++ [q]) ∧ Ext T (RM p lw lp) H (upd H lp (.lst (us ++ [.ref t]))) := by
  obtain ⟨dx, h1⟩ := R0.ob
  obtain ⟨vs, h2, h3⟩ := R0.wy
  obtain ⟨us', h4', h5⟩ := R0.pr
  rw [h4] at h4'
  cases h4'
  have x : Ext T (RM p lw lp) H (upd H lp (.lst (us ++ [.ref t]))) := (Ext.refl T _ H).mut (.inr (.inr (.inr rfl))) h4 ltbl
  exact ⟨⟨⟨dx, by rw [upd_ne R0.diff.2]; exact h1⟩, ⟨vs, by rw [upd_ne R0.ne]; exact h2, h3.ext x R0.not⟩, ⟨_, upd_same, by rw [List.map_append]; exact (h5.ext x R0.not).snoc (ht.ext x R0.not)⟩, R0.ne, R0.ok⟩, x⟩
theorem RdAt.lst {K : PySem.W.Frag} {aC : Addr} {H : Hp} {p lw lp wl : Addr} {pl : Option Nat} {ws : Wl} {ps : List Pr} (R0 : RdAt K aC H p lw lp pl ws ps) : ∃ us vs, H lw = some (.lst us) ∧ us.length = ws.length ∧ RpL H (ws.map wayD) us ∧ H lp = some (.lst vs) ∧ vs.length = ps.length ∧ RpL H (ps.map pairD) vs := by
  obtain ⟨us, h2, h3⟩ := R0.wy
  obtain ⟨vs, h4, h5⟩ := R0.pr
  exact ⟨us, vs, h2, by rw [h3.len, List.length_map], h3, h4, by rw [h5.len, List.length_map], h5⟩
def wd (words : List Str) (i : Nat) : Str := words.getD i Str.empty
theorem wd_get {words : List Str} {i : Nat} (h : i < words.length) : (words.map V.str)[i]? = some (.str (wd words i)) := by
  unfold wd
  rw [List.getElem?_map, List.getD_eq_getElem?_getD, List.getElem?_eq_getElem h]; rfl
def endsT (a b : Str) (n : Nat) : Option Pr := match numT a 0 (n - 1), numT b 0 (n - 1) with
  | some x, some y => if x < y then some (x, y) else none
  | _, _ => none
def plT (words : List Str) : Option Nat := if words.length = 2 ∧ wd words 0 = "places" then numT (wd words 1) 1 12 else none
def wayT (n : Nat) (ws : Wl) (ps : List Pr) (words : List Str) : Option Wl :=
  if words.length ≠ 4 ∨ ps ≠ [] ∨ 24 ≤ ws.length then none else match endsT (wd words 1) (wd words 2) n, numT (wd words 3) 1 10000 with
    | some e, some c => some (ws ++ [(e.1, e.2, c)])
    | _, _ => none
def pairT (n : Nat) (ps : List Pr) (words : List Str) : Option (List Pr) :=
  if words.length ≠ 3 ∨ wd words 0 ≠ "pair" ∨ 6 ≤ ps.length then none else match endsT (wd words 1) (wd words 2) n with
    | some e => if e ∈ ps then none else some (ps ++ [e])
    | none => none
abbrev RS := Option Nat × Wl × List Pr
def lineT (r : RS) (line : Str) : Option RS := match r.1 with
  | none => (plT (Txt.split line " ")).map fun n => (some n, r.2.1, r.2.2)
  | some n => if wd (Txt.split line " ") 0 = "way" then (wayT n r.2.1 r.2.2 (Txt.split line " ")).map fun ws => (some n, ws, r.2.2) else (pairT n r.2.2 (Txt.split line " ")).map fun ps => (some n, r.2.1, ps)
theorem endsT_ok {a b : Str} {n : Nat} (hn : 1 ≤ n) {e : Pr} (h : endsT a b n = some e) : e.1 < e.2 ∧ e.2 < n := by
  unfold endsT at h
  split at h
  · rename_i x y hx hy
    split at h
    · rename_i hlt
      have := Option.some.inj h
      subst this
      have := (numT_some hy).2.2
      exact ⟨hlt, by show y < n; omega⟩
    · cases h
  · cases h
def spNumber (T : List Addr) : Sp := fun vs H Q _ => ∃ (a : Str) (lo hi : Nat), vs = [.str a, .int (lo : Nat), .int (hi : Nat)] ∧ hi ≤ 10000 ∧ a.length ≤ 1000000 ∧ ∀ H', Ext T noM H H' → Q (oV (numT a lo hi)) H'
def spEndsT (T : List Addr) : Sp := fun vs H Q _ => ∃ (a b : Str) (n : Nat), vs = [.str a, .str b, .int (n : Nat)] ∧ 1 ≤ n ∧ n ≤ 12 ∧ a.length ≤ 1000000 ∧ b.length ≤ 1000000 ∧
  ((endsT a b n = none → ∀ H', Ext T noM H H' → Q .non H') ∧ ∀ e t H', endsT a b n = some e → H' t = some (.tup [.int (e.1 : Nat), .int (e.2 : Nat)]) → Ext T noM H H' → Q (.ref t) H')
structure WordsOk (words : List Str) : Prop where
  n1 : 1 ≤ words.length
  ln : ∀ y ∈ words, y.length ≤ 1000000
theorem WordsOk.at {words : List Str} (h : WordsOk words) {i : Nat} (hi : i < words.length) : (wd words i).length ≤ 1000000 := by
  unfold wd
  rw [List.getD_eq_getElem?_getD, List.getElem?_eq_getElem hi]
  exact h.ln _ (List.getElem_mem hi)
def spRInit (K : PySem.W.Frag) (T : List Addr) (aC : Addr) : Sp := fun vs H Q _ => ∃ (p dx : Addr), vs = [.ref p] ∧ H p = some (.ins aC dx []) ∧ ∀ lw lp H', RdAt K aC H' p lw lp none [] [] → H lw = none → H lp = none → Ext T (fun b => b = p) H H' → Q .non H'
def spRPl (K : PySem.W.Frag) (T : List Addr) (aC : Addr) : Sp := fun vs H Q _ => ∃ (p lw lp wl : Addr) (words : List Str) (ws : Wl) (ps : List Pr), vs = [.ref p, .ref wl] ∧ RdAt K aC H p lw lp none ws ps ∧ H wl = some (.lst (words.map V.str)) ∧ wl ≠ p ∧ WordsOk words ∧
  ∀ H', RdAt K aC H' p lw lp (plT words) ws ps → Ext T (RM p lw lp) H H' → Q (.bl (plT words).isSome) H'
def spRWay (K : PySem.W.Frag) (T : List Addr) (aC : Addr) : Sp := fun vs H Q _ => ∃ (p lw lp wl : Addr) (words : List Str) (n : Nat) (ws : Wl) (ps : List Pr), vs = [.ref p, .ref wl] ∧ RdAt K aC H p lw lp (some n) ws ps ∧ H wl = some (.lst (words.map V.str)) ∧ WordsOk words ∧
  ∀ H', RdAt K aC H' p lw lp (some n) ((wayT n ws ps words).getD ws) ps → Ext T (RM p lw lp) H H' → Q (.bl (wayT n ws ps words).isSome) H'
def spRPair (K : PySem.W.Frag) (T : List Addr) (aC : Addr) : Sp := fun vs H Q _ => ∃ (p lw lp wl : Addr) (words : List Str) (n : Nat) (ws : Wl) (ps : List Pr), vs = [.ref p, .ref wl] ∧ RdAt K aC H p lw lp (some n) ws ps ∧ H wl = some (.lst (words.map V.str)) ∧ WordsOk words ∧
  ∀ H', RdAt K aC H' p lw lp (some n) ws ((pairT n ps words).getD ps) → Ext T (RM p lw lp) H H' → Q (.bl (pairT n ps words).isSome) H'
def spRTakes (K : PySem.W.Frag) (T : List Addr) (aC : Addr) : Sp := fun vs H Q _ => ∃ (p lw lp : Addr) (line : Str) (r : RS), vs = [.ref p, .str line] ∧ RdAt K aC H p lw lp r.1 r.2.1 r.2.2 ∧ line.length ≤ 900000 ∧
  ∀ H' (r' : RS), r' = (lineT r line).getD r → RdAt K aC H' p lw lp r'.1 r'.2.1 r'.2.2 → Ext T (RM p lw lp) H H' → Q (.bl (lineT r line).isSome) H'
section
variable {P : Program} {w : World} {K : PySem.W.Frag} {mg : Str → Option Value} {base : Heap} {T : List Addr} {aC : Addr}
theorem ok__number {f : Addr} {fd : FuncData} (F : Fun K "_number" "_number" s_number f fd) (m_int : mg "int" = none) (m_len : mg "len" = none) (m_str : mg "str" = none) : FnOk P w K mg base CX0 1 f fd ["word", "low", "high"] (spNumber T) := by
  refine F.ok sc_number (fun vs H Q E h => ?_) (fun cdv A outer s H vs Q E hr h => ?_)
  · obtain ⟨a, lo, hi, rfl, h1, hl, k⟩ := h
    rfl
  · obtain ⟨a, lo, hi, rfl, h1, hl, k⟩ := h
    refine ⟨_, (pss_cons (ps_if (PW.pt (pw_or (pt_cmpR op_gt (pe_callB call_len_str (by rfl) m_len (by decide +kernel) (pa_cons (pv 0) pa_nil)) (pe_callB call_len_str (by rfl) m_len (by decide +kernel) (pa_cons (pe_callTy call_str_int (by rfl) m_str (by decide +kernel) (pa_cons (pv 2) pa_nil)) pa_nil)) (nomark _)) (pw_or1 (pt_not (PW.pt (pw_and (pt_val (pe_m0 PySem.F.slot_str_isascii PySem.F.type_str_isascii mt_isascii (pv 0))) (pw_and1 (pt_val (pe_m0 PySem.F.slot_str_isdigit PySem.F.type_str_isdigit mt_isdigit (pv 0)))))))))) (pss_one (ps_ret pe_non)) pss_nil)
      (pss_cons (ps_set (i := 3) sc_number.nd rfl (Or.inl rfl) (pe_callTy call_int_str (by rfl) m_int (by decide +kernel) (pa_cons (pv 0) pa_nil)))
      (pss_cons (ps_if (PW.pt (pw_or (pt_cmpR op_ne (pe_callTy call_str_int (by rfl) m_str (by decide +kernel) (pa_cons (pv 3) pa_nil)) (pv 0) (nomark _)) (pw_or (pt_cmpR op_lt (pv 3) (pv 1) (nomark _)) (pw_or1 (pt_cmpR op_gt (pv 3) (pv 2) (nomark _)))))) (pss_one (ps_ret pe_non)) pss_nil)
      (pss_one (ps_ret (pv 3)))))), ?_⟩
    have l5 : (TL.numL hi).length ≤ 5 := TL.numL_len (by decide) (by omega)
    have hlg : ∀ z : Nat, z ≤ 10000 → ((z : Nat) : Int).natAbs.log2 < 1920 := fun z hz => by
      rw [Int.natAbs_natCast]
      by_cases h0 : z = 0
      · subst h0; decide
      · exact Nat.lt_of_lt_of_le ((Nat.log2_lt h0).mpr (show z < 2 ^ 14 by omega)) (by decide)
    have sz : a.length ≤ sizeLine := Nat.le_trans hl (by decide)
    have nl : (Str.ofString (toString ((hi : Nat) : Int))).length = (TL.numL hi).length := by rw [ln_ch]; exact congrArg List.length (ch_nm hi)
    refine ev_if (ev_or (fun Q h => ⟨_, rfl, a, rfl, sz, _, rfl, _, rfl, hlg hi h1, _, rfl, by rw [nl]; exact Nat.le_of_lt (small1000 (by omega)), _, _, rfl, rfl, _, rfl, h⟩) fun _ => ev_not (ev_and (fun Q h => ⟨_, rfl, ⟨_, rfl⟩, _, rfl, rfl, trivial, _, rfl, h⟩) fun _ => fun Q h => ⟨_, rfl, ⟨_, rfl⟩, _, rfl, rfl, trivial, _, rfl, h⟩)) (fun c => ?_) (fun c => ?_)
    · have c' : (decide ((TL.numL hi).length < a.length) || !isNum a) = true := by
        rw [← c, ← nl]
        congr 1
        rw [decide_eq_decide]; omega
      have h0 := k H (Ext.refl _ _ _)
      have e : numT a lo hi = none := by unfold numT; rw [if_pos c']
      rw [e] at h0
      exact h0
    · have c' : ¬ (decide ((TL.numL hi).length < a.length) || !isNum a) = true := by
        rw [Bool.not_eq_true, ← c, ← nl]
        congr 1
        rw [decide_eq_decide]; omega
      have c2 := c'
      rw [Bool.or_eq_true, decide_eq_true_eq, Bool.not_eq_true'] at c2
      have la : a.length ≤ 5 := by
        have : ¬ (TL.numL hi).length < a.length := fun z => c2 (.inl z)
        omega
      have hn : isNum a = true := by
        cases e : isNum a with
        | true => rfl
        | false => exact absurd (.inr e) c2
      have hv : NumText.digitsVal (chs_ a) < 100000 := by
        have := val_lt (isNum_iff.mp hn).1
        rw [← ln_ch] at this
        exact Nat.lt_of_lt_of_le this (Nat.pow_le_pow_right (by decide) la)
      have hlv : ((NumText.digitsVal (chs_ a) : Nat) : Int).natAbs.log2 < 1920 := by
        rw [Int.natAbs_natCast]
        by_cases h0 : NumText.digitsVal (chs_ a) = 0
        · rw [h0]; decide
        · exact Nat.lt_of_lt_of_le ((Nat.log2_lt h0).mpr (show _ < 2 ^ 17 by omega)) (by decide)
      refine ⟨_, rfl, a, _, rfl, int_of hn (by omega), by omega, ?_⟩
      dsimp only [gName]
      refine ev_if (ev_or (fun Q h => ⟨_, rfl, _, rfl, hlv, _, rfl, rfl, _, rfl, h⟩) fun _ => ev_or (fun Q h => ⟨_, rfl, _, rfl, _, _, rfl, rfl, _, rfl, h⟩) fun _ => fun Q h => ⟨_, rfl, _, rfl, _, _, rfl, rfl, _, rfl, h⟩) (fun d => ?_) (fun d => ?_)
      · have d' : (decide (nmS (NumText.digitsVal (chs_ a)) ≠ a) || (decide (NumText.digitsVal (chs_ a) < lo) || decide (hi < NumText.digitsVal (chs_ a)))) = true := by
          simp only [Bool.or_eq_true, Bool.not_eq_true', decide_eq_true_eq, decide_eq_false_iff_not] at d ⊢
          rcases d with d | d | d
          · exact .inl fun z => d (congrArg V.str z)
          · exact .inr (.inl (by omega))
          · exact .inr (.inr (by omega))
        have h0 := k H (Ext.refl _ _ _)
        have e : numT a lo hi = none := by unfold numT; rw [if_neg c', if_pos d']
        rw [e] at h0
        exact h0
      · have d' : ¬ (decide (nmS (NumText.digitsVal (chs_ a)) ≠ a) || (decide (NumText.digitsVal (chs_ a) < lo) || decide (hi < NumText.digitsVal (chs_ a)))) = true := by
          intro z
          simp only [Bool.or_eq_true, Bool.not_eq_true', decide_eq_true_eq, decide_eq_false_iff_not] at z
          refine Bool.false_ne_true (d.symm.trans ?_)
          simp only [Bool.or_eq_true, Bool.not_eq_true', decide_eq_true_eq, decide_eq_false_iff_not]
          rcases z with z | z | z
          · exact .inl fun y => z (V.str.inj y)
          · exact .inr (.inl (by omega))
          · exact .inr (.inr (by omega))
        have h0 := k H (Ext.refl _ _ _)
        have e : numT a lo hi = some (NumText.digitsVal (chs_ a)) := by unfold numT; rw [if_neg c', if_neg d']
        rw [e] at h0
        exact ⟨_, rfl, h0⟩
theorem ok__ends {f : Addr} {fd : FuncData} (F : Fun K "_ends" "_ends" s_ends f fd) {f_number : Addr} {fd_number : FuncData} (F_number : Fun K "_number" "_number" s_number f_number fd_number) (G_number : FnOk P w K mg base CX0 1 f_number fd_number ["word", "low", "high"] (spNumber T)) (b_number : Binds K fd_number ["word", "low", "high"] []) (g_number : mg "_number" = some (.ref f_number)) : FnOk P w K mg base CX0 2 f fd ["first", "second", "places"] (spEndsT T) := by
  refine F.ok sc_ends (fun vs H Q E h => ?_) (fun cdv A outer s H vs Q E hr h => ?_)
  · obtain ⟨a, b, n, rfl, n1, n12, la, lb, k1, k2⟩ := h
    rfl
  · obtain ⟨a, b, n, rfl, n1, n12, la, lb, k1, k2⟩ := h
    refine ⟨_, (pss_cons (ps_set (i := 3) sc_ends.nd rfl (Or.inl rfl) (pe_call G_number hr (by rfl) g_number F_number.kp b_number .nil pass0 (pa_cons (pv 0) (pa_cons pe_int (pa_cons (pe_op op_sub (pv 2) pe_int) pa_nil)))))
      (pss_cons (ps_set (i := 4) sc_ends.nd rfl (Or.inl rfl) (pe_call G_number hr (by rfl) g_number F_number.kp b_number .nil pass0 (pa_cons (pv 1) (pa_cons pe_int (pa_cons (pe_op op_sub (pv 2) pe_int) pa_nil)))))
      (pss_cons (ps_if (PW.pt (pw_or (pt_cmpR op_isN (pv 3) pe_non (nomark _)) (pw_or (pt_cmpR op_isN (pv 4) pe_non (nomark _)) (pw_or1 (pt_cmpR op_ge (pv 3) (pv 4) (nomark _)))))) (pss_one (ps_ret pe_non)) pss_nil)
      (pss_one (ps_ret (pe_tup (pa_cons (pv 3) (pa_cons (pv 4) pa_nil)))))))), ?_⟩
    have en : ((n : Nat) : Int) - 1 = ((n - 1 : Nat) : Int) := by omega
    refine ⟨_, rfl, _, rfl, _, _, rfl, rfl, a, 0, n - 1, congrArg (fun z => [V.str a, V.int 0, V.int z]) en, by omega, la, fun H1 e1 => ?_⟩
    refine ⟨_, rfl, _, rfl, _, _, rfl, rfl, b, 0, n - 1, congrArg (fun z => [V.str b, V.int 0, V.int z]) en, by omega, lb, fun H2 e2 => ?_⟩
    have e12 := e1.trans e2
    dsimp only [gName]
    cases hx : numT a 0 (n - 1) with
    | none =>
      have hn : endsT a b n = none := by unfold endsT; rw [hx]
      exact ev_if (ev_or (b := false) (fun Q h => ⟨_, rfl, rfl, _, rfl, h⟩) fun z => by cases z) (fun _ => k1 hn H2 e12) (fun z => by cases z)
    | some x =>
      cases hy : numT b 0 (n - 1) with
      | none =>
        have hn : endsT a b n = none := by unfold endsT; rw [hx, hy]
        exact ev_if (ev_or (a := false) (fun Q h => ⟨_, rfl, rfl, _, rfl, h⟩) fun _ => ev_or (b := false) (fun Q h => ⟨_, rfl, rfl, _, rfl, h⟩) fun z => by cases z) (fun _ => k1 hn H2 e12) (fun z => by cases z)
      | some y =>
        refine ev_if (ev_or (a := false) (fun Q h => ⟨_, rfl, rfl, _, rfl, h⟩) fun _ => ev_or (a := false) (fun Q h => ⟨_, rfl, rfl, _, rfl, h⟩) fun _ => fun Q h => ⟨_, rfl, _, rfl, _, _, rfl, rfl, _, rfl, h⟩) (fun c => ?_) (fun c => ?_)
        · have c : decide (((x : Nat) : Int) ≥ ((y : Nat) : Int)) = true := c
          rw [decide_eq_true_eq] at c
          have hn : endsT a b n = none := by unfold endsT; rw [hx, hy]; show (if x < y then _ else none) = none; rw [if_neg (by omega)]
          exact k1 hn H2 e12
        · have c : decide (((x : Nat) : Int) ≥ ((y : Nat) : Int)) = false := c
          rw [decide_eq_false_iff_not] at c
          have hn : endsT a b n = some (x, y) := by unfold endsT; rw [hx, hy]; show (if x < y then _ else none) = _; rw [if_pos (by omega)]
          refine ⟨_, rfl, _, rfl, by show 2 ≤ sizeLine; decide, fun t ht => ?_⟩
          exact k2 (x, y) t _ hn upd_same (e12.trans (Ext.new ht))
theorem ok_Reader___init__ {f : Addr} {fd : FuncData} (F : Fun K "__init__" "Reader.__init__" sReader___init__ f fd) (fx : RTx K aC) : FnOk P w K mg base CX0 1 f fd ["self"] (spRInit K T aC) := by
  refine F.ok scReader___init__ (fun vs H Q E h => ?_) (fun cdv A outer s H vs Q E hr h => ?_)
  · obtain ⟨p, dx, rfl, hp, k⟩ := h
    rfl
  · obtain ⟨p, dx, rfl, hp, k⟩ := h
    refine ⟨_, (pss_cons (ps_fld (pv 0) pe_non rfl)
      (pss_cons (ps_fld (pv 0) (pe_lst pa_nil) rfl)
      (pss_one (ps_fld (pv 0) (pe_lst pa_nil) rfl)))), ?_⟩
    have X : ∀ (H' : Hp) (o o' : HO), H' p = some o → (∀ ps, o ≠ .tbl ps) → Ext T (fun b => b = p) H' (upd H' p o') := fun H' o o' h nt => (Ext.refl T _ H').mut (.inr rfl) h nt
    refine ⟨_, rfl, p, aC, dx, _, rfl, hp, fx.cl, fx.n_places, by show 0 < 1000; decide, ?_⟩
    have x1 := X H _ (.ins aC dx (putF "places" .non [])) hp fun ps z => nomatch z
    have h1 : (upd H p (.ins aC dx (putF "places" .non []))) p = some (.ins aC dx (putF "places" .non [])) := upd_same
    generalize (upd H p (.ins aC dx (putF "places" .non []))) = H1 at x1 h1 ⊢
    refine ⟨by show 0 ≤ sizeLine; decide, fun lw hlw => ?_⟩
    have x2 : Ext T (fun b => b = p) H1 (upd H1 lw (.lst [])) := Ext.new hlw
    have hlw2 : (upd H1 lw (.lst [])) lw = some (.lst []) := upd_same
    have lwp : lw ≠ p := fun z => by rw [z, h1] at hlw; cases hlw
    have h2 : (upd H1 lw (.lst [])) p = some (.ins aC dx (putF "places" .non [])) := by rw [upd_ne (fun z => lwp z.symm)]; exact h1
    generalize (upd H1 lw (.lst [])) = H2 at x2 hlw2 h2 ⊢
    refine ⟨_, rfl, p, aC, dx, _, rfl, h2, fx.cl, fx.n_ways, by show 1 < 1000; decide, ?_⟩
    have x3 := X H2 _ (.ins aC dx (putF "ways" (.ref lw) (putF "places" .non []))) h2 fun ps z => nomatch z
    have h3 : (upd H2 p (.ins aC dx (putF "ways" (.ref lw) (putF "places" .non [])))) p = some (.ins aC dx (putF "ways" (.ref lw) (putF "places" .non []))) := upd_same
    have hlw3 : (upd H2 p (.ins aC dx (putF "ways" (.ref lw) (putF "places" .non [])))) lw = some (.lst []) := by rw [upd_ne lwp]; exact hlw2
    generalize (upd H2 p (.ins aC dx (putF "ways" (.ref lw) (putF "places" .non [])))) = H3 at x3 h3 hlw3 ⊢
    refine ⟨by show 0 ≤ sizeLine; decide, fun lp hlp => ?_⟩
    have x4 : Ext T (fun b => b = p) H3 (upd H3 lp (.lst [])) := Ext.new hlp
    have lpp : lp ≠ p := fun z => by rw [z, h3] at hlp; cases hlp
    have lpw : lw ≠ lp := fun z => by rw [← z, hlw3] at hlp; cases hlp
    have hlp4 : (upd H3 lp (.lst [])) lp = some (.lst []) := upd_same
    have h4 : (upd H3 lp (.lst [])) p = some (.ins aC dx (putF "ways" (.ref lw) (putF "places" .non []))) := by rw [upd_ne (fun z => lpp z.symm)]; exact h3
    have hlw4 : (upd H3 lp (.lst [])) lw = some (.lst []) := by rw [upd_ne lpw]; exact hlw3
    generalize (upd H3 lp (.lst [])) = H4 at x4 h4 hlw4 hlp4 ⊢
    refine ⟨_, rfl, p, aC, dx, _, rfl, h4, fx.cl, fx.n_pairs, by show 2 < 1000; decide, ?_⟩
    have x5 := X H4 _ (.ins aC dx (putF "pairs" (.ref lp) (putF "ways" (.ref lw) (putF "places" .non [])))) h4 fun ps z => nomatch z
    refine k lw lp _ ⟨⟨dx, upd_same⟩, ⟨[], by rw [upd_ne lwp]; exact hlw4, rpl_nil⟩, ⟨[], by rw [upd_ne lpp]; exact hlp4, rpl_nil⟩, lpw, fun n hn => by cases hn⟩ (x1.fr lw hlw) ((((x1.trans x2).trans x3)).fr lp hlp) ((((x1.trans x2).trans x3).trans x4).trans x5)
theorem ok_Reader__takes_places {f : Addr} {fd : FuncData} (F : Fun K "_takes_places" "Reader._takes_places" sReader__takes_places f fd) (m_len : mg "len" = none) {f_number : Addr} {fd_number : FuncData} (F_number : Fun K "_number" "_number" s_number f_number fd_number) (G_number : FnOk P w K mg base CX0 1 f_number fd_number ["word", "low", "high"] (spNumber T)) (b_number : Binds K fd_number ["word", "low", "high"] []) (g_number : mg "_number" = some (.ref f_number)) (fx : RTx K aC) (g_MOST_PLACES : ∃ tk, mg "MOST_PLACES" = some (.int 12 tk)) : FnOk P w K mg base CX0 2 f fd ["self", "words"] (spRPl K T aC) := by
  refine F.ok scReader__takes_places (fun vs H Q E h => ?_) (fun cdv A outer s H vs Q E hr h => ?_)
  · obtain ⟨p, lw, lp, wl, words, ws, ps, rfl, R, hw, hwp, WO, k⟩ := h
    rfl
  · obtain ⟨p, lw, lp, wl, words, ws, ps, rfl, R, hw, hwp, WO, k⟩ := h
    refine ⟨_, (Evl.pss_cut (ps_if (PW.pt (pw_and (pt_cmpR op_eq (pe_callB call_len_seq (by rfl) m_len PySem.boot_len (pa_cons (pv 1) pa_nil)) pe_int (nomark _)) (pw_and1 (pt_cmpR op_eq (pe_ix ix_list (pv 1) pe_int (fun _ _ => rfl)) pe_str (nomark _))))) (pss_one (ps_fld (pv 0) (pe_call G_number hr (by rfl) g_number F_number.kp b_number .nil pass0 (pa_cons (pe_ix ix_list (pv 1) pe_int (fun _ _ => rfl)) (pa_cons pe_int (pa_cons (GE.pe_globI (n := 12) (by rfl) g_MOST_PLACES) pa_nil)))) rfl)) pss_nil)
      (pss_one (ps_ret (pe_cmpR op_notN (pe_fld (pv 0) rfl) pe_non (nomark _))))), ?_⟩
    have hwl : (words.map V.str).length = words.length := List.length_map ..
    have n1 := WO.n1
    obtain ⟨dx, hob⟩ := R.ob
    refine ⟨fun σ' H' => σ' = [some (.ref p), some (.ref wl)] ∧ RdAt K aC H' p lw lp (plT words) ws ps ∧ Ext T (RM p lw lp) H H', ?_, ?_⟩
    · refine ev_if (ev_and (fun Q h => ⟨_, rfl, wl, _, rfl, .inl (SqL.of hw), rfl, _, rfl, h⟩) fun _ => fun Q h => ⟨_, rfl, wl, _, _, _, rfl, rfl, SqL.of hw, at_of (j := 0) rfl (wd_get (by omega)), rfl, _, rfl, h⟩) (fun c => ?_) (fun c => ?_)
      · rw [Bool.and_eq_true, decide_eq_true_eq, decide_eq_true_eq, hwl] at c
        obtain ⟨c1, c2⟩ := c
        have c1 : words.length = 2 := vint_inj.mp (show V.int ((words.length : Nat) : Int) = V.int ((2 : Nat) : Int) from c1)
        have c2 : wd words 0 = "places" := V.str.inj c2
        have hp : plT words = numT (wd words 1) 1 12 := if_pos ⟨c1, c2⟩
        refine ⟨_, rfl, wl, _, _, _, rfl, rfl, SqL.of hw, at_of (j := 1) rfl (wd_get (by omega)), wd words 1, 1, 12, rfl, by decide, WO.at (by omega), fun H1 e1 => ?_⟩
        have hob1 := e1.kp _ _ (fun z => z) hob fun ps z => nomatch z
        obtain ⟨R1, x1⟩ := (R.x e1).put (T := T) (pl' := numT (wd words 1) 1 12) hob1 fun n hn => by have := numT_some hn; omega
        rw [← hp] at R1 x1
        refine ⟨_, rfl, p, aC, dx, _, rfl, hob1, fx.cl, fx.n_places, by show 3 < 1000; decide, rfl, ?_, ?_⟩
        · rw [hp] at R1 ⊢; exact R1
        · rw [hp] at x1; exact e1.weak.trans x1
      · have hp : plT words = none := if_neg fun ⟨a, b⟩ => by
          rw [hwl, a, b, decide_eq_true (p := V.int ((2 : Nat) : Int) = V.int 2) rfl, decide_eq_true rfl] at c; cases c
        exact ⟨rfl, by rw [hp]; exact R, Ext.refl _ _ _⟩
    · rintro σ' H' ⟨rfl, R', e'⟩
      obtain ⟨dx', hob'⟩ := R'.ob
      refine ⟨_, rfl, p, aC, dx', _, _, rfl, hob', fx.cl, fx.n_places, rfl, rfl, ?_⟩
      have := k H' R' e'
      cases h : plT words with
      | none => rw [h] at this; exact this
      | some n => rw [h] at this; exact this
theorem ok_Reader__takes_way {f : Addr} {fd : FuncData} (F : Fun K "_takes_way" "Reader._takes_way" sReader__takes_way f fd) (m_len : mg "len" = none) {f_ends : Addr} {fd_ends : FuncData} (F_ends : Fun K "_ends" "_ends" s_ends f_ends fd_ends) (G_ends : FnOk P w K mg base CX0 2 f_ends fd_ends ["first", "second", "places"] (spEndsT T)) (b_ends : Binds K fd_ends ["first", "second", "places"] []) (g_ends : mg "_ends" = some (.ref f_ends)) {f_number : Addr} {fd_number : FuncData} (F_number : Fun K "_number" "_number" s_number f_number fd_number) (G_number : FnOk P w K mg base CX0 2 f_number fd_number ["word", "low", "high"] (spNumber T)) (b_number : Binds K fd_number ["word", "low", "high"] []) (g_number : mg "_number" = some (.ref f_number)) (fx : RTx K aC) (g_MOST_WAYS : ∃ tk, mg "MOST_WAYS" = some (.int 24 tk)) (g_MOST_COST : ∃ tk, mg "MOST_COST" = some (.int 10000 tk)) : FnOk P w K mg base CX0 3 f fd ["self", "words"] (spRWay K T aC) := by
  refine F.ok scReader__takes_way (fun vs H Q E h => ?_) (fun cdv A outer s H vs Q E hr h => ?_)
  · obtain ⟨p, lw, lp, wl, words, n, ws, ps, rfl, R, hw, WO, k⟩ := h
    rfl
  · obtain ⟨p, lw, lp, wl, words, n, ws, ps, rfl, R, hw, WO, k⟩ := h
    refine ⟨_, (pss_cons (ps_if (PW.pt (pw_or (pt_cmpR op_ne (pe_callB call_len_seq (by rfl) m_len PySem.boot_len (pa_cons (pv 1) pa_nil)) pe_int (nomark _)) (pw_or (pt_truth (pe_fld (pv 0) rfl) (by intro _; rfl)) (pw_or1 (pt_cmpR op_ge (pe_callB call_len_seq (by rfl) m_len PySem.boot_len (pa_cons (pe_fld (pv 0) rfl) pa_nil)) (GE.pe_globI (n := 24) (by rfl) g_MOST_WAYS) (nomark _)))))) (pss_one (ps_ret pe_bl)) pss_nil)
      (pss_cons (ps_set (i := 2) scReader__takes_way.nd rfl (Or.inl rfl) (pe_call G_ends hr (by rfl) g_ends F_ends.kp b_ends .nil pass0 (pa_cons (pe_ix ix_list (pv 1) pe_int (fun _ _ => rfl)) (pa_cons (pe_ix ix_list (pv 1) pe_int (fun _ _ => rfl)) (pa_cons (pe_fld (pv 0) rfl) pa_nil)))))
      (pss_cons (ps_set (i := 3) scReader__takes_way.nd rfl (Or.inl rfl) (pe_call G_number hr (by rfl) g_number F_number.kp b_number .nil pass0 (pa_cons (pe_ix ix_list (pv 1) pe_int (fun _ _ => rfl)) (pa_cons pe_int (pa_cons (GE.pe_globI (n := 10000) (by rfl) g_MOST_COST) pa_nil)))))
      (pss_cons (ps_if (PW.pt (pw_or (pt_cmpR op_isN (pv 2) pe_non (nomark _)) (pw_or1 (pt_cmpR op_isN (pv 3) pe_non (nomark _))))) (pss_one (ps_ret pe_bl)) pss_nil)
      (pss_cons (ps_expr (pe_bm PySem.F.plainAttrs_list PySem.F.slot_list_append PySem.F.type_list_append mt_append (pe_fld (pv 0) rfl) (pa_cons (pe_tup (pa_cons (pe_ix ix_tup (pv 2) pe_int (fun _ _ => rfl)) (pa_cons (pe_ix ix_tup (pv 2) pe_int (fun _ _ => rfl)) (pa_cons (pv 3) pa_nil)))) pa_nil)))
      (pss_one (ps_ret pe_bl))))))), ?_⟩
    have hwl : (words.map V.str).length = words.length := List.length_map ..
    have n1 := WO.n1
    obtain ⟨dx, hob⟩ := R.ob
    obtain ⟨us, vs, h2, l2, h3, h4, l4, h5⟩ := R.lst (wl := wl)
    obtain ⟨m1, m12⟩ := R.ok n rfl
    have no : wayT n ws ps words = none → Q (.bl false) H := fun h => by
      have := k H (by rw [h]; exact R) (Ext.refl _ _ _)
      rw [h] at this; exact this
    refine ev_if (ev_or (fun Q h => ⟨_, rfl, wl, _, rfl, .inl (SqL.of hw), rfl, _, rfl, h⟩) fun _ => ev_or (a := !vs.isEmpty) (fun Q h => ⟨_, rfl, p, aC, dx, _, _, rfl, hob, fx.cl, fx.n_pairs, rfl, _, .inl ⟨vs, SqL.of h4, rfl⟩, h⟩) fun _ => fun Q h => ⟨_, rfl, p, aC, dx, _, _, rfl, hob, fx.cl, fx.n_ways, rfl, lw, _, rfl, .inl (SqL.of h2), _, _, rfl, rfl, _, rfl, h⟩) (fun c => ?_) (fun c => ?_)
    · refine no (if_pos ?_)
      rw [Bool.or_eq_true, Bool.or_eq_true, hwl] at c
      rcases c with c | c | c
      · refine .inl fun z => ?_
        rw [z] at c
        rw [decide_eq_true (p := V.int ((4 : Nat) : Int) = V.int 4) rfl] at c; cases c
      · refine .inr (.inl fun z => ?_)
        rw [z] at l4
        rw [List.eq_nil_of_length_eq_zero l4] at c; cases c
      · have := of_decide_eq_true c
        exact .inr (.inr (by omega))
    · rw [Bool.or_eq_false_iff, Bool.or_eq_false_iff, hwl] at c
      obtain ⟨c1, c2, c3⟩ := c
      have c1 : words.length = 4 := by
        have h0 : V.int ((words.length : Nat) : Int) = V.int ((4 : Nat) : Int) := Classical.byContradiction fun z => by
          rw [show decide (V.int ((words.length : Nat) : Int) = V.int 4) = false from decide_eq_false z] at c1; cases c1
        exact vint_inj.mp h0
      have c2 : ps = [] := by
        cases vs with
        | nil => exact List.eq_nil_of_length_eq_zero l4.symm
        | cons v vs => cases c2
      have c3 : ws.length < 24 := by
        have := of_decide_eq_false c3
        omega
      have hT : wayT n ws ps words = (match endsT (wd words 1) (wd words 2) n, numT (wd words 3) 1 10000 with
        | some e, some c => some (ws ++ [(e.1, e.2, c)])
        | _, _ => none) := if_neg (by intro z; rcases z with z | z | z; exact z c1; exact z c2; omega)
      have no2 : ∀ H', Ext T noM H H' → wayT n ws ps words = none → Q (.bl false) H' := fun H' e h => by
        have := k H' (by rw [h]; exact R.x e) e.weak
        rw [h] at this; exact this
      have ends : ∀ (ev : V) (H1 : Hp), Ext T noM H H1 → ((endsT (wd words 1) (wd words 2) n = none ∧ ev = .non) ∨ ∃ e t, endsT (wd words 1) (wd words 2) n = some e ∧ ev = .ref t ∧ H1 t = some (.tup [.int (e.1 : Nat), .int (e.2 : Nat)])) → True := fun _ _ _ _ => trivial
      refine ⟨_, rfl, wl, _, _, _, rfl, rfl, SqL.of hw, at_of (j := 1) rfl (wd_get (by omega)), _, rfl, wl, _, _, _, rfl, rfl, SqL.of hw, at_of (j := 2) rfl (wd_get (by omega)), _, rfl, p, aC, dx, _, _, rfl, hob, fx.cl, fx.n_places, rfl, wd words 1, wd words 2, n, rfl, m1, m12, WO.at (by omega), WO.at (by omega), fun he H1 e1 => ?_, fun e t H1 he ht e1 => ?_⟩
      · have hw1 := e1.lst (fun z => z) hw
        refine ⟨_, rfl, wl, _, _, _, rfl, rfl, SqL.of hw1, at_of (j := 3) rfl (wd_get (by omega)), wd words 3, 1, 10000, rfl, by decide, WO.at (by omega), fun H2 e2 => ?_⟩
        dsimp only [gName]
        exact ev_if (ev_or (b := false) (fun Q h => ⟨_, rfl, rfl, _, rfl, h⟩) fun z => by cases z) (fun _ => no2 H2 (e1.trans e2) (by rw [hT, he])) (fun z => by cases z)
      · have hw1 := e1.lst (fun z => z) hw
        refine ⟨_, rfl, wl, _, _, _, rfl, rfl, SqL.of hw1, at_of (j := 3) rfl (wd_get (by omega)), wd words 3, 1, 10000, rfl, by decide, WO.at (by omega), fun H2 e2 => ?_⟩
        have e12 := e1.trans e2
        dsimp only [gName]
        cases hc : numT (wd words 3) 1 10000 with
        | none => exact ev_if (ev_or (a := false) (fun Q h => ⟨_, rfl, rfl, _, rfl, h⟩) fun _ => fun Q h => ⟨_, rfl, rfl, _, rfl, h⟩) (fun _ => no2 H2 e12 (by rw [hT, he, hc])) (fun z => by cases z)
        | some cst =>
          refine ev_if (ev_or (a := false) (fun Q h => ⟨_, rfl, rfl, _, rfl, h⟩) fun _ => fun Q h => ⟨_, rfl, rfl, _, rfl, h⟩) (fun z => by cases z) (fun _ => ?_)
          have hob2 := e12.kp _ _ (fun z => z) hob fun ps z => nomatch z
          have ht2 := e2.tup (fun z => z) ht
          have h22 := e12.lst (fun z => z) h2
          refine ⟨_, rfl, p, aC, dx, _, _, rfl, hob2, fx.cl, fx.n_ways, rfl, .inl ⟨rfl, _, SqL.of h22⟩, ?_⟩
          refine ⟨_, rfl, t, _, _, _, rfl, rfl, SqT.of ht2, at_of (j := 0) rfl rfl, _, rfl, t, _, _, _, rfl, rfl, SqT.of ht2, at_of (j := 1) rfl rfl, _, rfl, by show 3 ≤ sizeLine; decide, fun u hu => ?_⟩
          have e3 : Ext T noM H2 (upd H2 u (.tup [.int (e.1 : Nat), .int (e.2 : Nat), .int (cst : Nat)])) := Ext.new hu
          have hu3 : Rp (upd H2 u (.tup [.int (e.1 : Nat), .int (e.2 : Nat), .int (cst : Nat)])) (wayD (e.1, e.2, cst)) (.ref u) := rp_way upd_same
          have h23 := e3.lst (fun z => z) h22
          obtain ⟨R4, x4⟩ := (R.x (e12.trans e3)).way (T := T) h23 hu3
          refine ⟨lw, us, _, rfl, rfl, h23, small1000 (by omega), ?_⟩
          have hTs : wayT n ws ps words = some (ws ++ [(e.1, e.2, cst)]) := by rw [hT, he, hc]
          have := k _ (by rw [hTs]; exact R4) ((e12.trans e3).weak.trans x4)
          rw [hTs] at this
          exact this
theorem ok_Reader__takes_pair {f : Addr} {fd : FuncData} (F : Fun K "_takes_pair" "Reader._takes_pair" sReader__takes_pair f fd) (m_len : mg "len" = none) {f_ends : Addr} {fd_ends : FuncData} (F_ends : Fun K "_ends" "_ends" s_ends f_ends fd_ends) (G_ends : FnOk P w K mg base CX0 2 f_ends fd_ends ["first", "second", "places"] (spEndsT T)) (b_ends : Binds K fd_ends ["first", "second", "places"] []) (g_ends : mg "_ends" = some (.ref f_ends)) (fx : RTx K aC) (g_MOST_PAIRS : ∃ tk, mg "MOST_PAIRS" = some (.int 6 tk)) : FnOk P w K mg base CX0 3 f fd ["self", "words"] (spRPair K T aC) := by
  refine F.ok scReader__takes_pair (fun vs H Q E h => ?_) (fun cdv A outer s H vs Q E hr h => ?_)
  · obtain ⟨p, lw, lp, wl, words, n, ws, ps, rfl, R, hw, WO, k⟩ := h
    rfl
  · obtain ⟨p, lw, lp, wl, words, n, ws, ps, rfl, R, hw, WO, k⟩ := h
    refine ⟨_, (pss_cons (ps_if (PW.pt (pw_or (pt_cmpR op_ne (pe_callB call_len_seq (by rfl) m_len PySem.boot_len (pa_cons (pv 1) pa_nil)) pe_int (nomark _)) (pw_or (pt_cmpR op_ne (pe_ix ix_list (pv 1) pe_int (fun _ _ => rfl)) pe_str (nomark _)) (pw_or1 (pt_cmpR op_ge (pe_callB call_len_seq (by rfl) m_len PySem.boot_len (pa_cons (pe_fld (pv 0) rfl) pa_nil)) (GE.pe_globI (n := 6) (by rfl) g_MOST_PAIRS) (nomark _)))))) (pss_one (ps_ret pe_bl)) pss_nil)
      (pss_cons (ps_set (i := 2) scReader__takes_pair.nd rfl (Or.inl rfl) (pe_call G_ends hr (by rfl) g_ends F_ends.kp b_ends .nil pass0 (pa_cons (pe_ix ix_list (pv 1) pe_int (fun _ _ => rfl)) (pa_cons (pe_ix ix_list (pv 1) pe_int (fun _ _ => rfl)) (pa_cons (pe_fld (pv 0) rfl) pa_nil)))))
      (pss_cons (ps_if (PW.pt (pw_or (pt_cmpR op_isN (pv 2) pe_non (nomark _)) (pw_or1 (pt_cmpR (op_inD (by have := hr.un; show (A.deeper _).units + 65 < _; omega)) (pv 2) (pe_fld (pv 0) rfl) (by rfl))))) (pss_one (ps_ret pe_bl)) pss_nil)
      (pss_cons (ps_expr (pe_bm PySem.F.plainAttrs_list PySem.F.slot_list_append PySem.F.type_list_append mt_append (pe_fld (pv 0) rfl) (pa_cons (pv 2) pa_nil)))
      (pss_one (ps_ret pe_bl)))))), ?_⟩
    have hwl : (words.map V.str).length = words.length := List.length_map ..
    have n1 := WO.n1
    obtain ⟨dx, hob⟩ := R.ob
    obtain ⟨us, vs, h2, l2, h3, h4, l4, h5⟩ := R.lst (wl := wl)
    obtain ⟨m1, m12⟩ := R.ok n rfl
    have no2 : ∀ H', Ext T noM H H' → pairT n ps words = none → Q (.bl false) H' := fun H' e h => by
      have := k H' (by rw [h]; exact R.x e) e.weak
      rw [h] at this; exact this
    refine ev_if (ev_or (fun Q h => ⟨_, rfl, wl, _, rfl, .inl (SqL.of hw), rfl, _, rfl, h⟩) fun _ => ev_or (fun Q h => ⟨_, rfl, wl, _, _, _, rfl, rfl, SqL.of hw, at_of (j := 0) rfl (wd_get (by omega)), rfl, _, rfl, h⟩) fun _ => fun Q h => ⟨_, rfl, p, aC, dx, _, _, rfl, hob, fx.cl, fx.n_pairs, rfl, lp, _, rfl, .inl (SqL.of h4), _, _, rfl, rfl, _, rfl, h⟩) (fun c => ?_) (fun c => ?_)
    · refine no2 H (Ext.refl _ _ _) (if_pos ?_)
      rw [Bool.or_eq_true, Bool.or_eq_true, hwl] at c
      rcases c with c | c | c
      · refine .inl fun z => ?_
        rw [z] at c
        rw [decide_eq_true (p := V.int ((3 : Nat) : Int) = V.int 3) rfl] at c; cases c
      · refine .inr (.inl fun z => ?_)
        rw [z] at c
        rw [decide_eq_true rfl] at c; cases c
      · have := of_decide_eq_true c
        exact .inr (.inr (by omega))
    · rw [Bool.or_eq_false_iff, Bool.or_eq_false_iff, hwl] at c
      obtain ⟨c1, c2, c3⟩ := c
      have c1 : words.length = 3 := by
        have h0 : V.int ((words.length : Nat) : Int) = V.int ((3 : Nat) : Int) := Classical.byContradiction fun z => by
          rw [show decide (V.int ((words.length : Nat) : Int) = V.int 3) = false from decide_eq_false z] at c1; cases c1
        exact vint_inj.mp h0
      have c2 : wd words 0 = "pair" := Classical.byContradiction fun z => by
        rw [decide_eq_false (fun y => z (V.str.inj y))] at c2; cases c2
      have c3 : ps.length < 6 := by
        have := of_decide_eq_false c3
        omega
      have hT : pairT n ps words = (match endsT (wd words 1) (wd words 2) n with
        | some e => if e ∈ ps then none else some (ps ++ [e])
        | none => none) := if_neg (by intro z; rcases z with z | z | z; exact z c1; exact z c2; omega)
      refine ⟨_, rfl, wl, _, _, _, rfl, rfl, SqL.of hw, at_of (j := 1) rfl (wd_get (by omega)), _, rfl, wl, _, _, _, rfl, rfl, SqL.of hw, at_of (j := 2) rfl (wd_get (by omega)), _, rfl, p, aC, dx, _, _, rfl, hob, fx.cl, fx.n_places, rfl, wd words 1, wd words 2, n, rfl, m1, m12, WO.at (by omega), WO.at (by omega), fun he H1 e1 => ?_, fun e t H1 he ht e1 => ?_⟩
      · dsimp only [gName]
        exact ev_if (ev_or (b := false) (fun Q h => ⟨_, rfl, rfl, _, rfl, h⟩) fun z => by cases z) (fun _ => no2 H1 e1 (by rw [hT, he])) (fun z => by cases z)
      · dsimp only [gName]
        have hob1 := e1.kp _ _ (fun z => z) hob fun ps z => nomatch z
        have h41 := e1.lst (fun z => z) h4
        have h51 := RpL.x e1 h5
        have htR : Rp H1 (pairD e) (.ref t) := rp_pair (x := e.1) (y := e.2) ht
        refine ev_if (ev_or (a := false) (fun Q h => ⟨_, rfl, rfl, _, rfl, h⟩) fun _ => fun Q h => ⟨_, rfl, _, rfl, p, aC, dx, _, _, rfl, hob1, fx.cl, fx.n_pairs, rfl, prP e, ps.map prP, dp_pair htR, .lst (SqL.of h41) (dp_pairs h51), prP_shaped _, prPs_shaped _, _, rfl, h⟩) (fun c => ?_) (fun c => ?_)
        · rw [Bool.false_or] at c
          have c : ((ps.map prP).any fun z => PyData.eqv z (prP e)) = true := c
          rw [any_pr, decide_eq_true_eq] at c
          exact no2 H1 e1 (by rw [hT, he]; show (if e ∈ ps then none else _) = none; rw [if_pos c])
        · rw [Bool.false_or] at c
          have c : ((ps.map prP).any fun z => PyData.eqv z (prP e)) = false := c
          rw [any_pr, decide_eq_false_iff_not] at c
          refine ⟨_, rfl, p, aC, dx, _, _, rfl, hob1, fx.cl, fx.n_pairs, rfl, .inl ⟨rfl, _, SqL.of h41⟩, _, rfl, lp, vs, _, rfl, rfl, h41, small1000 (by omega), ?_⟩
          obtain ⟨R4, x4⟩ := (R.x e1).pair (T := T) h41 htR
          have hTs : pairT n ps words = some (ps ++ [e]) := by rw [hT, he]; show (if e ∈ ps then none else _) = _; rw [if_neg c]
          have := k _ (by rw [hTs]; exact R4) (e1.weak.trans x4)
          rw [hTs] at this
          exact this
end
end Mw

set_option Elab.async false
set_option linter.all false
set_option maxRecDepth 100000
set_option maxHeartbeats 4000000
namespace Mw
open PySem PySem.Spec PyProof.Rows L2 GE
theorem ch_sp : chs_ (" " : Str) = [32] := by rfl
theorem ch_nl : chs_ ("\n" : Str) = [10] := by rfl
theorem words_ok {line : Str} (h : line.length ≤ 900000) : WordsOk (Txt.split line " ") := by
  obtain ⟨h1, h2⟩ := split_len (x := line) ch_sp
  exact ⟨List.length_pos_iff.mpr (split_ne ch_sp (by decide)), fun y hy => by have := h2 y hy; omega⟩
def runT (r : RS) : List Str → Option RS
  | [] => some r
  | l :: ls => (lineT r l).bind fun r' => runT r' ls
theorem runT_snoc : ∀ (ls : List Str) (r : RS) (l : Str), runT r (ls ++ [l]) = (runT r ls).bind fun r' => lineT r' l
  | [], r, l => by
    show (lineT r l).bind (fun r' => some r') = lineT r l
    cases lineT r l <;> rfl
  | x :: ls, r, l => by
    show (lineT r x).bind (fun r' => runT r' (ls ++ [l])) = ((lineT r x).bind fun r' => runT r' ls).bind _
    cases h : lineT r x with
    | none => rfl
    | some r' => exact runT_snoc ls r' l
theorem runT_take {ls : List Str} {r r' : RS} (h : runT r ls = some r') : ∀ i, i ≤ ls.length → ∃ q, runT r (ls.take i) = some q
  | i, hi => by
    have e : ls.take i ++ ls.drop i = ls := List.take_append_drop i ls
    have key : ∀ (a b : List Str) (r : RS), runT r (a ++ b) = (runT r a).bind fun q => runT q b := fun a b => by
      induction a with
      | nil => intro r; rfl
      | cons x a ih =>
        intro r
        show (lineT r x).bind (fun r' => runT r' (a ++ b)) = ((lineT r x).bind fun r' => runT r' a).bind _
        cases hx : lineT r x with
        | none => rfl
        | some r' => exact ih r'
    rw [← e, key] at h
    cases hq : runT r (ls.take i) with
    | none => rw [hq] at h; cases h
    | some q => exact ⟨q, rfl⟩
abbrev r0 : RS := (none, [], [])
def tskD (n : Nat) (ws : Wl) (ps : List Pr) : D := .t [netD n ws, pairsD ps]
section
variable {P : Program} {w : World} {K : PySem.W.Frag} {mg : Str → Option Value} {base : Heap} {T : List Addr} {aC : Addr}
theorem ok_Reader_takes {f : Addr} {fd : FuncData} (F : Fun K "takes" "Reader.takes" sReader_takes f fd) {fReader__takes_pair : Addr} {fdReader__takes_pair : FuncData} (FReader__takes_pair : Fun K "_takes_pair" "Reader._takes_pair" sReader__takes_pair fReader__takes_pair fdReader__takes_pair) (GReader__takes_pair : FnOk P w K mg base CX0 3 fReader__takes_pair fdReader__takes_pair ["self", "words"] (spRPair K T aC)) (bReader__takes_pair : Binds K fdReader__takes_pair ["self", "words"] []) (mmReader__takes_pair : Meth K aC "_takes_pair" fReader__takes_pair) {fReader__takes_places : Addr} {fdReader__takes_places : FuncData} (FReader__takes_places : Fun K "_takes_places" "Reader._takes_places" sReader__takes_places fReader__takes_places fdReader__takes_places) (GReader__takes_places : FnOk P w K mg base CX0 3 fReader__takes_places fdReader__takes_places ["self", "words"] (spRPl K T aC)) (bReader__takes_places : Binds K fdReader__takes_places ["self", "words"] []) (mmReader__takes_places : Meth K aC "_takes_places" fReader__takes_places) {fReader__takes_way : Addr} {fdReader__takes_way : FuncData} (FReader__takes_way : Fun K "_takes_way" "Reader._takes_way" sReader__takes_way fReader__takes_way fdReader__takes_way) (GReader__takes_way : FnOk P w K mg base CX0 3 fReader__takes_way fdReader__takes_way ["self", "words"] (spRWay K T aC)) (bReader__takes_way : Binds K fdReader__takes_way ["self", "words"] []) (mmReader__takes_way : Meth K aC "_takes_way" fReader__takes_way) (fx : RTx K aC) : FnOk P w K mg base CX0 4 f fd ["self", "line"] (spRTakes K T aC) := by
  refine F.ok scReader_takes (fun vs H Q E h => ?_) (fun cdv A outer s H vs Q E hr h => ?_)
  · obtain ⟨p, lw, lp, line, r, rfl, R, hl, k⟩ := h
    rfl
  · obtain ⟨p, lw, lp, line, r, rfl, R, hl, k⟩ := h
    refine ⟨_, (pss_cons (ps_set (i := 2) scReader_takes.nd rfl (Or.inl rfl) (pe_split (pv 1) pe_str))
      (pss_cons (ps_if (pt_cmpR op_isN (pe_fld (pv 0) rfl) pe_non (nomark _)) (pss_one (ps_ret (pe_meth (pv 0) fx.cl mmReader__takes_places GReader__takes_places hr bReader__takes_places .nil pass0 (pa_cons (pv 2) pa_nil)))) pss_nil)
      (pss_cons (ps_if (pt_cmpR op_eq (pe_ix ix_list (pv 2) pe_int (fun _ _ => rfl)) pe_str (nomark _)) (pss_one (ps_ret (pe_meth (pv 0) fx.cl mmReader__takes_way GReader__takes_way hr bReader__takes_way .nil pass0 (pa_cons (pv 2) pa_nil)))) pss_nil)
      (pss_one (ps_ret (pe_meth (pv 0) fx.cl mmReader__takes_pair GReader__takes_pair hr bReader__takes_pair .nil pass0 (pa_cons (pv 2) pa_nil))))))), ?_⟩
    obtain ⟨pl, ws, ps⟩ := r
    have sz : line.length + 2 ≤ sizeLine := Nat.le_trans (show line.length + 2 ≤ 1000000 by omega) (by decide)
    refine ⟨_, rfl, ⟨_, rfl⟩, line, " ", rfl, rfl, by decide, sz, fun wl hwl => ?_⟩
    have WO := words_ok hl
    have e1 : Ext T noM H (upd H wl (.lst ((Txt.split line " ").map V.str))) := Ext.new hwl
    have hw1 : (upd H wl (.lst ((Txt.split line " ").map V.str))) wl = some (.lst ((Txt.split line " ").map V.str)) := upd_same
    have hwp : wl ≠ p := fun z => by
      obtain ⟨dx, h⟩ := R.ob
      rw [z, h] at hwl; cases hwl
    generalize (upd H wl (.lst ((Txt.split line " ").map V.str))) = H1 at e1 hw1 ⊢
    have R1 := R.x e1
    obtain ⟨dx, hob⟩ := R1.ob
    have hn1 := WO.n1
    refine ⟨_, rfl, p, aC, dx, _, _, rfl, hob, fx.cl, fx.n_places, rfl, rfl, _, rfl, ?_⟩
    cases pl with
    | none =>
      refine iteT ⟨_, rfl, p, dx, _, rfl, hob, by rfl, _, rfl, p, lw, lp, wl, _, ws, ps, rfl, R1, hw1, hwp, WO, fun H2 R2 e2 => ?_⟩
      have hL : lineT (none, ws, ps) line = (plT (Txt.split line " ")).map fun n => (some n, ws, ps) := rfl
      have := k H2 ((lineT (none, ws, ps) line).getD (none, ws, ps)) rfl (by
        rw [hL]
        cases h : plT (Txt.split line " ") with
        | none => rw [h] at R2; exact R2
        | some n => rw [h] at R2; exact R2) (e1.weak.trans e2)
      rw [hL, Option.isSome_map] at this
      exact this
    | some n =>
      refine iteF ?_
      refine ⟨_, rfl, wl, _, _, _, rfl, rfl, SqL.of hw1, at_of (j := 0) rfl (wd_get (by omega)), rfl, _, rfl, ?_⟩
      refine ite2 (fun q => ?_) (fun q => ?_)
      · have q : wd (Txt.split line " ") 0 = "way" := V.str.inj (of_decide_eq_true q)
        refine ⟨_, rfl, p, dx, _, rfl, hob, by rfl, _, rfl, p, lw, lp, wl, _, n, ws, ps, rfl, R1, hw1, WO, fun H2 R2 e2 => ?_⟩
        have hL : lineT (some n, ws, ps) line = (wayT n ws ps (Txt.split line " ")).map fun ws => (some n, ws, ps) := if_pos q
        have := k H2 ((lineT (some n, ws, ps) line).getD (some n, ws, ps)) rfl (by
          rw [hL]
          cases h : wayT n ws ps (Txt.split line " ") with
          | none => rw [h] at R2; exact R2
          | some x => rw [h] at R2; exact R2) (e1.weak.trans e2)
        rw [hL, Option.isSome_map] at this
        exact this
      · have q : ¬ wd (Txt.split line " ") 0 = "way" := fun z => q (decide_eq_true (congrArg V.str z))
        refine ⟨_, rfl, p, dx, _, rfl, hob, by rfl, _, rfl, p, lw, lp, wl, _, n, ws, ps, rfl, R1, hw1, WO, fun H2 R2 e2 => ?_⟩
        have hL : lineT (some n, ws, ps) line = (pairT n ps (Txt.split line " ")).map fun ps => (some n, ws, ps) := if_neg q
        have := k H2 ((lineT (some n, ws, ps) line).getD (some n, ws, ps)) rfl (by
          rw [hL]
          cases h : pairT n ps (Txt.split line " ") with
          | none => rw [h] at R2; exact R2
          | some x => rw [h] at R2; exact R2) (e1.weak.trans e2)
        rw [hL, Option.isSome_map] at this
        exact this
end
end Mw

set_option Elab.async false
set_option linter.all false
set_option maxRecDepth 100000
set_option maxHeartbeats 4000000
namespace Mw
open PySem PySem.Spec PyProof.Rows L2 GE NumText
/-! the text of a task, as a function; what the reader makes of it -/
theorem ch_app (a b : Str) : chs_ (a ++ b) = chs_ a ++ chs_ b := TL.tl_append a b
theorem str_assoc (a b c : Str) : a ++ b ++ c = a ++ (b ++ c) := str_ext (by rw [ch_app, ch_app, ch_app, ch_app, List.append_assoc])
theorem str_nil (a : Str) : Str.empty ++ a = a := str_ext (by rw [ch_app]; rfl)
theorem ln_app (a b : Str) : (a ++ b).length = a.length + b.length := by rw [ln_ch, ln_ch a, ln_ch b, ch_app, List.length_append]
theorem ln_nm {n : Nat} (h : n ≤ 10000) : (nmS n).length ≤ 5 := by rw [ln_ch, ch_nm]; exact TL.numL_len (by decide) (by omega)
theorem nm_free {c n : Nat} (h : c < 48) : c ∉ chs_ (nmS n) := fun z => by
  rw [ch_nm] at z
  have := TL.numL_digits n c z
  omega
def plL (n : Nat) : Str := ("places " : Str) ++ nmS n
def wyL (w : Wy) : Str := ("way " : Str) ++ nmS w.1 ++ (" " : Str) ++ nmS w.2.1 ++ (" " : Str) ++ nmS w.2.2
def prL (q : Pr) : Str := ("pair " : Str) ++ nmS q.1 ++ (" " : Str) ++ nmS q.2
def lnsS (n : Nat) (ws : Wl) (ps : List Pr) : List Str := plL n :: (ws.map wyL ++ ps.map prL)
def endL (l : Str) : Str := l ++ ("\n" : Str)
def joinT (ls : List Str) : Str := Txt.join Str.empty (ls.map endL)
def textS (n : Nat) (ws : Wl) (ps : List Pr) : Str := joinT (lnsS n ws ps)
theorem ch_pl (n : Nat) : chs_ (plL n) = TL.joinL [32] ([("places" : Str), nmS n].map chs_) := by
  unfold plL
  rw [ch_app]
  rfl
theorem ch_wy (w : Wy) : chs_ (wyL w) = TL.joinL [32] ([("way" : Str), nmS w.1, nmS w.2.1, nmS w.2.2].map chs_) := by
  unfold wyL
  rw [ch_app, ch_app, ch_app, ch_app, ch_app]
  show ([119, 97, 121, 32] ++ chs_ (nmS w.1) ++ [32] ++ chs_ (nmS w.2.1) ++ [32] ++ chs_ (nmS w.2.2) : List Nat) = [119, 97, 121] ++ ([32] ++ (chs_ (nmS w.1) ++ ([32] ++ (chs_ (nmS w.2.1) ++ ([32] ++ chs_ (nmS w.2.2))))))
  simp [List.append_assoc]
theorem ch_pr (q : Pr) : chs_ (prL q) = TL.joinL [32] ([("pair" : Str), nmS q.1, nmS q.2].map chs_) := by
  unfold prL
  rw [ch_app, ch_app, ch_app]
  show ([112, 97, 105, 114, 32] ++ chs_ (nmS q.1) ++ [32] ++ chs_ (nmS q.2) : List Nat) = [112, 97, 105, 114] ++ ([32] ++ (chs_ (nmS q.1) ++ ([32] ++ chs_ (nmS q.2))))
  simp [List.append_assoc]
theorem sp_pl (n : Nat) : Txt.split (plL n) " " = [("places" : Str), nmS n] := by
  refine split_of ch_sp (by decide) (List.cons_ne_nil _ _) (fun p hp => ?_) (ch_pl n)
  rcases List.mem_cons.mp hp with h | h
  · rw [h]; exact (by decide : 32 ∉ [112, 108, 97, 99, 101, 115])
  · rw [List.mem_singleton.mp h]; exact nm_free (by decide)
theorem sp_wy (w : Wy) : Txt.split (wyL w) " " = [("way" : Str), nmS w.1, nmS w.2.1, nmS w.2.2] := by
  refine split_of ch_sp (by decide) (List.cons_ne_nil _ _) (fun p hp => ?_) (ch_wy w)
  rcases List.mem_cons.mp hp with h | h
  · rw [h]; exact (by decide : 32 ∉ [119, 97, 121])
  · rcases List.mem_cons.mp h with h | h
    · rw [h]; exact nm_free (by decide)
    · rcases List.mem_cons.mp h with h | h
      · rw [h]; exact nm_free (by decide)
      · rw [List.mem_singleton.mp h]; exact nm_free (by decide)
theorem sp_pr (q : Pr) : Txt.split (prL q) " " = [("pair" : Str), nmS q.1, nmS q.2] := by
  refine split_of ch_sp (by decide) (List.cons_ne_nil _ _) (fun p hp => ?_) (ch_pr q)
  rcases List.mem_cons.mp hp with h | h
  · rw [h]; exact (by decide : 32 ∉ [112, 97, 105, 114])
  · rcases List.mem_cons.mp h with h | h
    · rw [h]; exact nm_free (by decide)
    · rw [List.mem_singleton.mp h]; exact nm_free (by decide)
theorem line_pl {n : Nat} (h1 : 1 ≤ n) (h12 : n ≤ 12) : lineT r0 (plL n) = some (some n, [], []) := by
  show (plT (Txt.split (plL n) " ")).map _ = _
  rw [sp_pl]
  have : plT [("places" : Str), nmS n] = some n := by
    unfold plT
    rw [if_pos ⟨rfl, rfl⟩]
    exact numT_nm h1 h12
  rw [this]; rfl
theorem ends_nm {a b n : Nat} (hab : a < b) (hb : b < n) : endsT (nmS a) (nmS b) n = some (a, b) := by
  unfold endsT
  rw [numT_nm (Nat.zero_le _) (show a ≤ n - 1 by omega), numT_nm (Nat.zero_le _) (show b ≤ n - 1 by omega)]
  exact if_pos hab
theorem line_wy {n : Nat} {ws : Wl} {w : Wy} (hw : WayOk n w) (hl : ws.length < 24) : lineT (some n, ws, []) (wyL w) = some (some n, ws ++ [w], []) := by
  obtain ⟨h1, h2, h3, h4⟩ := hw
  have e : wayT n ws [] [("way" : Str), nmS w.1, nmS w.2.1, nmS w.2.2] = some (ws ++ [w]) := by
    unfold wayT
    rw [if_neg (by
      rintro (z | z | z)
      · exact z rfl
      · exact z rfl
      · omega)]
    show (match endsT (nmS w.1) (nmS w.2.1) n, numT (nmS w.2.2) 1 10000 with
      | some e, some c => some (ws ++ [(e.1, e.2, c)])
      | _, _ => none) = _
    rw [ends_nm h1 h2, numT_nm h3 h4]
  show (if wd (Txt.split (wyL w) " ") 0 = "way" then (wayT n ws [] (Txt.split (wyL w) " ")).map _ else _) = _
  rw [sp_wy, if_pos (show wd [("way" : Str), nmS w.1, nmS w.2.1, nmS w.2.2] 0 = ("way" : Str) from rfl), e]; rfl
theorem line_pr {n : Nat} {ws : Wl} {ps : List Pr} {q : Pr} (h1 : q.1 < q.2) (h2 : q.2 < n) (hq : q ∉ ps) (hl : ps.length < 6) : lineT (some n, ws, ps) (prL q) = some (some n, ws, ps ++ [q]) := by
  have e : pairT n ps [("pair" : Str), nmS q.1, nmS q.2] = some (ps ++ [q]) := by
    unfold pairT
    rw [if_neg (by
      rintro (z | z | z)
      · exact z rfl
      · exact z rfl
      · omega)]
    show (match endsT (nmS q.1) (nmS q.2) n with
      | some e => if e ∈ ps then none else some (ps ++ [e])
      | none => none) = _
    rw [ends_nm h1 h2]
    exact if_neg hq
  show (if wd (Txt.split (prL q) " ") 0 = "way" then _ else (pairT n ps (Txt.split (prL q) " ")).map _) = _
  rw [sp_pr, if_neg (by
    intro z
    have z := congrArg chs_ z
    exact absurd (show [112, 97, 105, 114] = [119, 97, 121] from z) (by decide)), e]; rfl
theorem runT_app : ∀ (a b : List Str) (r : RS), runT r (a ++ b) = (runT r a).bind fun q => runT q b
  | [], b, r => rfl
  | x :: a, b, r => by
    show (lineT r x).bind (fun r' => runT r' (a ++ b)) = ((lineT r x).bind fun r' => runT r' a).bind _
    cases hx : lineT r x with
    | none => rfl
    | some r' => exact runT_app a b r'
theorem run_wys {n : Nat} : ∀ (vs ws : Wl), (∀ w ∈ vs, WayOk n w) → ws.length + vs.length ≤ 24 → runT (some n, ws, []) (vs.map wyL) = some (some n, ws ++ vs, [])
  | [], ws, _, _ => by rw [List.append_nil]; rfl
  | v :: vs, ws, h, hl => by
    rw [List.length_cons] at hl
    show (lineT (some n, ws, []) (wyL v)).bind (fun r' => runT r' (vs.map wyL)) = _
    rw [line_wy (h v (.head _)) (by omega)]
    show runT (some n, ws ++ [v], []) (vs.map wyL) = _
    rw [run_wys vs (ws ++ [v]) (fun w hw => h w (.tail _ hw)) (by rw [List.length_append, List.length_singleton]; omega), List.append_assoc]; rfl
theorem run_prs {n : Nat} {ws : Wl} : ∀ (qs ps : List Pr), (∀ q ∈ qs, q.1 < q.2 ∧ q.2 < n) → (ps ++ qs).Nodup → ps.length + qs.length ≤ 6 → runT (some n, ws, ps) (qs.map prL) = some (some n, ws, ps ++ qs)
  | [], ps, _, _, _ => by rw [List.append_nil]; rfl
  | q :: qs, ps, h, nd, hl => by
    rw [List.length_cons] at hl
    have hq : q ∉ ps := fun z => by
      rw [List.nodup_append] at nd
      exact nd.2.2 q z q (.head _) rfl
    show (lineT (some n, ws, ps) (prL q)).bind (fun r' => runT r' (qs.map prL)) = _
    rw [line_pr (h q (.head _)).1 (h q (.head _)).2 hq (by omega)]
    show runT (some n, ws, ps ++ [q]) (qs.map prL) = _
    rw [run_prs qs (ps ++ [q]) (fun w hw => h w (.tail _ hw)) (by rw [List.append_assoc]; exact nd) (by rw [List.length_append, List.length_singleton]; omega), List.append_assoc]; rfl
theorem run_task {n : Nat} {ws : Wl} {ps : List Pr} (W : Wf n ws) (ok : PsOk n ps) (nd : ps.Nodup) : runT r0 (lnsS n ws ps) = some (some n, ws, ps) := by
  show (lineT r0 (plL n)).bind (fun r' => runT r' (ws.map wyL ++ ps.map prL)) = _
  rw [line_pl W.n1 W.n12]
  show runT (some n, [], []) (ws.map wyL ++ ps.map prL) = _
  rw [runT_app, run_wys ws [] W.ok (by have := W.ln; rw [List.length_nil]; omega)]
  exact run_prs ps [] ok.ok nd (by have := ok.ln; rw [List.length_nil]; omega)
theorem join_end : ∀ (l : List (List Nat)), TL.joinL [] (l.map fun x => x ++ [10]) = TL.joinL [10] (l ++ [[]])
  | [] => rfl
  | [x] => rfl
  | x :: y :: l => by
    have ih := join_end (y :: l)
    show (x ++ [10]) ++ ([] ++ TL.joinL [] ((y :: l).map fun x => x ++ [10])) = x ++ ([10] ++ TL.joinL [10] ((y :: l) ++ [[]]))
    rw [ih, List.nil_append, List.append_assoc]
theorem ch_join (ls : List Str) : chs_ (joinT ls) = TL.joinL [10] ((ls ++ [Str.empty]).map chs_) := by
  have e : ((ls.map endL).map chs_) = (ls.map chs_).map fun x => x ++ [10] := by
    rw [List.map_map, List.map_map]
    exact List.map_congr_left fun x _ => by
      show chs_ (x ++ ("\n" : Str)) = _
      rw [ch_app]; rfl
  unfold joinT
  rw [TL.join_eq]
  have h := TL.tl_join Str.empty (ls.map endL)
  rw [show TL.tl Str.empty = [] from rfl] at h
  have h2 : (ls.map endL).map TL.tl = (ls.map chs_).map fun x => x ++ [10] := e
  rw [h2, join_end] at h
  rw [List.map_append]
  exact h
theorem split_text {ls : List Str} (h : ∀ l ∈ ls, 10 ∉ chs_ l) : Txt.split (joinT ls) "\n" = ls ++ [Str.empty] := by
  refine split_of ch_nl (by decide) (by simp) (fun p hp => ?_) (ch_join ls)
  rcases List.mem_append.mp hp with h1 | h1
  · exact h p h1
  · rw [List.mem_singleton.mp h1]; exact List.not_mem_nil
theorem lns_free {n : Nat} {ws : Wl} {ps : List Pr} : ∀ l ∈ lnsS n ws ps, 10 ∉ chs_ l := by
  have nf : ∀ n : Nat, 10 ∉ chs_ (nmS n) := fun n => nm_free (by decide)
  have sp : (10 : Nat) ∉ chs_ (" " : Str) := (by decide : 10 ∉ [32])
  intro l hl
  rcases List.mem_cons.mp hl with h | h
  · rw [h]
    unfold plL
    rw [ch_app, List.mem_append]
    exact fun z => z.elim (by exact (by decide : 10 ∉ [112, 108, 97, 99, 101, 115, 32])) (nf _)
  · rcases List.mem_append.mp h with h | h
    · obtain ⟨w, _, rfl⟩ := List.mem_map.mp h
      unfold wyL
      rw [ch_app, ch_app, ch_app, ch_app, ch_app]
      simp only [List.mem_append, not_or]
      exact ⟨⟨⟨⟨⟨(by decide : 10 ∉ [119, 97, 121, 32]), nf _⟩, sp⟩, nf _⟩, sp⟩, nf _⟩
    · obtain ⟨q, _, rfl⟩ := List.mem_map.mp h
      unfold prL
      rw [ch_app, ch_app, ch_app]
      simp only [List.mem_append, not_or]
      exact ⟨⟨⟨(by decide : 10 ∉ [112, 97, 105, 114, 32]), nf _⟩, sp⟩, nf _⟩
theorem ln_wy {n : Nat} {w : Wy} (h : WayOk n w) (hn : n ≤ 12) : (wyL w).length ≤ 30 := by
  obtain ⟨h1, h2, h3, h4⟩ := h
  have a := ln_nm (n := w.1) (by omega)
  have b := ln_nm (n := w.2.1) (by omega)
  have c := ln_nm (n := w.2.2) (by omega)
  unfold wyL
  rw [ln_app, ln_app, ln_app, ln_app, ln_app, show ("way " : Str).length = 4 from rfl, show (" " : Str).length = 1 from rfl]
  omega
theorem ln_pr {n : Nat} {q : Pr} (h1 : q.1 < q.2) (h2 : q.2 < n) (hn : n ≤ 12) : (prL q).length ≤ 30 := by
  have a := ln_nm (n := q.1) (by omega)
  have b := ln_nm (n := q.2) (by omega)
  unfold prL
  rw [ln_app, ln_app, ln_app, show ("pair " : Str).length = 5 from rfl, show (" " : Str).length = 1 from rfl]
  omega
theorem ln_pl {n : Nat} (hn : n ≤ 12) : (plL n).length ≤ 30 := by
  have a := ln_nm (n := n) (by omega)
  unfold plL
  rw [ln_app, show ("places " : Str).length = 7 from rfl]
  omega
theorem lns_ln {n : Nat} {ws : Wl} {ps : List Pr} (W : Wf n ws) (ok : PsOk n ps) : ∀ l ∈ lnsS n ws ps, l.length ≤ 30 := fun l hl => by
  rcases List.mem_cons.mp hl with h | h
  · rw [h]; exact ln_pl W.n12
  · rcases List.mem_append.mp h with h | h
    · obtain ⟨w, hw, rfl⟩ := List.mem_map.mp h
      exact ln_wy (W.ok w hw) W.n12
    · obtain ⟨q, hq, rfl⟩ := List.mem_map.mp h
      exact ln_pr (ok.ok q hq).1 (ok.ok q hq).2 W.n12
theorem lns_len {n : Nat} {ws : Wl} {ps : List Pr} (W : Wf n ws) (ok : PsOk n ps) : (lnsS n ws ps).length ≤ 31 := by
  have := W.ln; have := ok.ln
  unfold lnsS
  rw [List.length_cons, List.length_append, List.length_map, List.length_map]; omega
theorem ln_end (l : Str) : (endL l).length = l.length + 1 := by unfold endL; rw [ln_app]; rfl
theorem lens_le {l : List Str} {b : Nat} (h : ∀ x ∈ l, x.length ≤ b) : (l.map (·.length)).sum ≤ l.length * b := by
  induction l with
  | nil => exact Nat.zero_le _
  | cons a l ih =>
    rw [List.map_cons, List.sum_cons, List.length_cons, Nat.succ_mul]
    have h1 := h a (.head _)
    have h2 := ih fun x hx => h x (.tail _ hx)
    show a.length + (l.map (·.length)).sum ≤ _
    omega
theorem len_joinL0 : ∀ (l : List (List Nat)), (TL.joinL [] l).length = (l.map List.length).sum
  | [] => rfl
  | [x] => by rw [List.map_cons, List.sum_cons]; rfl
  | x :: y :: l => by
    have ih := len_joinL0 (y :: l)
    show (x ++ ([] ++ TL.joinL [] (y :: l))).length = x.length + ((y :: l).map List.length).sum
    rw [List.nil_append, List.length_append, ih]
theorem ln_join (ls : List Str) : (joinT ls).length = ((ls.map endL).map (·.length)).sum := by
  unfold joinT
  rw [TL.join_eq, ln_ch]
  have h := TL.tl_join Str.empty (ls.map endL)
  have h2 : chs_ (Str.join Str.empty (ls.map endL)) = TL.joinL [] ((ls.map endL).map TL.tl) := h
  rw [h2, len_joinL0, List.map_map]
  exact congrArg List.sum (List.map_congr_left fun x _ => (ln_ch x).symm)
theorem text_ln {n : Nat} {ws : Wl} {ps : List Pr} (W : Wf n ws) (ok : PsOk n ps) : ((lnsS n ws ps).map endL).length ≤ 31 ∧ (((lnsS n ws ps).map endL).map (·.length)).sum ≤ 1000 ∧ (textS n ws ps).length ≤ 1000 := by
  have h1 := lns_len W ok
  have h2 := lens_le (l := (lnsS n ws ps).map endL) (b := 31) fun x hx => by
    obtain ⟨l, hl, rfl⟩ := List.mem_map.mp hx
    rw [ln_end]
    have := lns_ln W ok l hl
    omega
  rw [List.length_map] at h2
  have h3 : (textS n ws ps).length = _ := ln_join (lnsS n ws ps)
  refine ⟨by rw [List.length_map]; exact h1, ?_, ?_⟩
  · have : (lnsS n ws ps).length * 31 ≤ 31 * 31 := Nat.mul_le_mul_right _ h1
    omega
  · have : (lnsS n ws ps).length * 31 ≤ 31 * 31 := Nat.mul_le_mul_right _ h1
    rw [h3]; omega
end Mw

set_option Elab.async false
set_option linter.all false
set_option maxRecDepth 100000
set_option maxHeartbeats 4000000
namespace Mw
open PySem PySem.Spec PyProof.Rows L2 GE
def spLLines (T : List Addr) : Sp := fun vs H Q _ => ∃ (net pz : V) (n : Nat) (ws : Wl) (ps : List Pr), vs = [net, pz] ∧ Wf n ws ∧ PsOk n ps ∧ Rp H (netD n ws) net ∧ Rp H (pairsD ps) pz ∧
  ∀ r H', H' r = some (.lst ((lnsS n ws ps).map V.str)) → Ext T noM H H' → Q (.ref r) H'
def spWrite (T : List Addr) : Sp := fun vs H Q _ => ∃ (net pz : V) (n : Nat) (ws : Wl) (ps : List Pr), vs = [net, pz] ∧ Wf n ws ∧ PsOk n ps ∧ Rp H (netD n ws) net ∧ Rp H (pairsD ps) pz ∧
  ∀ H', Ext T noM H H' → Q (.str (textS n ws ps)) H'
def spRead (K : PySem.W.Frag) (T : List Addr) (aC : Addr) : Sp := fun vs H Q _ => ∃ (n : Nat) (ws : Wl) (ps : List Pr), vs = [.str (textS n ws ps)] ∧ Wf n ws ∧ PsOk n ps ∧ ps.Nodup ∧
  ∀ r H', Rp H' (tskD n ws ps) r → Ext T noM H H' → Q r H'
theorem sz100 {n : Nat} (h : n ≤ 100) : n ≤ sizeLine := Nat.le_trans h (by decide)
theorem nlog {n : Nat} (h : n ≤ 10000) : ((n : Nat) : Int).natAbs.log2 < 1920 := by
  rw [Int.natAbs_natCast]
  by_cases h0 : n = 0
  · subst h0; decide
  · exact Nat.lt_of_lt_of_le ((Nat.log2_lt h0).mpr (show n < 2 ^ 14 by omega)) (by decide)
theorem l_way : ("way " : Str).length = 4 := rfl
theorem l_pair : ("pair " : Str).length = 5 := rfl
theorem l_places : ("places " : Str).length = 7 := rfl
theorem l_sp : (" " : Str).length = 1 := rfl
theorem l_nl : ("\n" : Str).length = 1 := rfl
theorem l_0 : Str.empty.length = 0 := rfl
theorem ln_num {n : Nat} (h : n ≤ 10000) : (Str.ofString (toString ((n : Nat) : Int))).length ≤ 5 := ln_nm h
theorem wy_hx {H : Hp} {ws : Wl} {us : List V} (r : RpL H (ws.map wayD) us) {j : Nat} {x : V} (hx : us[j]? = some x) : ∃ w a, ws[j]? = some w ∧ x = .ref a ∧ H a = some (.tup [.int w.1, .int w.2.1, .int w.2.2]) := by
  have h1 := (List.getElem?_eq_some_iff.mp hx).1
  have hj : j < ws.length := by rw [r.len, List.length_map] at h1; exact h1
  obtain ⟨x', hx', hr⟩ := r.get (i := j) (d := wayD ws[j]) (by rw [List.getElem?_map, List.getElem?_eq_getElem hj]; rfl)
  rw [hx] at hx'
  obtain rfl := Option.some.inj hx'
  obtain ⟨a, rfl, ha⟩ := way_at hr
  exact ⟨ws[j], a, List.getElem?_eq_getElem hj, rfl, ha⟩
theorem pr_hx {H : Hp} {ps : List Pr} {us : List V} (r : RpL H (ps.map pairD) us) {j : Nat} {x : V} (hx : us[j]? = some x) : ∃ q a, ps[j]? = some q ∧ x = .ref a ∧ H a = some (.tup [.int q.1, .int q.2]) := by
  have h1 := (List.getElem?_eq_some_iff.mp hx).1
  have hj : j < ps.length := by rw [r.len, List.length_map] at h1; exact h1
  obtain ⟨x', hx', hr⟩ := r.get (i := j) (d := pairD ps[j]) (by rw [List.getElem?_map, List.getElem?_eq_getElem hj]; rfl)
  rw [hx] at hx'
  obtain rfl := Option.some.inj hx'
  obtain ⟨a, rfl, ha⟩ := pair_at hr
  exact ⟨ps[j], a, List.getElem?_eq_getElem hj, rfl, ha⟩
section
variable {P : Program} {w : World} {K : PySem.W.Frag} {mg : Str → Option Value} {base : Heap} {T : List Addr} {aC : Addr}
theorem ok__law_lines {f : Addr} {fd : FuncData} (F : Fun K "_law_lines" "_law_lines" s_law_lines f fd) (m_str : mg "str" = none) : FnOk P w K mg base CX0 1 f fd ["net", "pairs"] (spLLines T) := by
  refine F.ok sc_law_lines (fun vs H Q E h => ?_) (fun cdv A outer s H vs Q E hr h => ?_)
  · obtain ⟨net, pz, n, ws, ps, rfl, W, ok, hnet, hpz, k⟩ := h
    rfl
  · obtain ⟨net, pz, n, ws, ps, rfl, W, ok, hnet, hpz, k⟩ := h
    refine ⟨_, (pss_cons (ps_set (i := 2) sc_law_lines.nd rfl (Or.inl rfl) (pe_lst (pa_cons (pe_op op_add_str pe_str (pe_callTy call_str_int (by rfl) m_str (by decide +kernel) (pa_cons (pe_ix ix_tup (pv 0) pe_int (fun _ _ => rfl)) pa_nil))) pa_nil)))
      (pss_cons (ps_set (i := 2) sc_law_lines.nd rfl (Or.inl rfl) (pe_op op_cat (pv 2) (pe_lc (own := [("way", 3)]) (g := (gName 3)) (tt := tYes) rfl sc_law_lines.nd (pi_tup (pe_ix ix_tup (pv 0) pe_int (fun _ _ => rfl))) (blkOk_by (own := [("way", 3)]) (N := ["net", "pairs", "lines", "way", "pair"]) (sc := defScope s_law_lines) (by decide +kernel)) (fun _ _ _ _ _ => (pg_name (i := 3) sc_law_lines.nd rfl (Or.inl rfl))) (fun _ _ _ _ _ => pts_nil) (fun _ _ _ _ _ => (pe_op op_add_str (pe_op op_add_str (pe_op op_add_str (pe_op op_add_str (pe_op op_add_str pe_str (pe_callTy call_str_int (by rfl) m_str (by decide +kernel) (pa_cons (pe_ix (GE.ix_tupK (K := K)) (pv 3) pe_int (fun _ _ => rfl)) pa_nil))) pe_str) (pe_callTy call_str_int (by rfl) m_str (by decide +kernel) (pa_cons (pe_ix (GE.ix_tupK (K := K)) (pv 3) pe_int (fun _ _ => rfl)) pa_nil))) pe_str) (pe_callTy call_str_int (by rfl) m_str (by decide +kernel) (pa_cons (pe_ix (GE.ix_tupK (K := K)) (pv 3) pe_int (fun _ _ => rfl)) pa_nil)))))))
      (pss_one (ps_ret (pe_op op_cat (pv 2) (pe_lc (own := [("pair", 4)]) (g := (gName 4)) (tt := tYes) rfl sc_law_lines.nd (pi_tup (pv 1)) (blkOk_by (own := [("pair", 4)]) (N := ["net", "pairs", "lines", "way", "pair"]) (sc := defScope s_law_lines) (by decide +kernel)) (fun _ _ _ _ _ => (pg_name (i := 4) sc_law_lines.nd rfl (Or.inl rfl))) (fun _ _ _ _ _ => pts_nil) (fun _ _ _ _ _ => (pe_op op_add_str (pe_op op_add_str (pe_op op_add_str pe_str (pe_callTy call_str_int (by rfl) m_str (by decide +kernel) (pa_cons (pe_ix (GE.ix_tupK (K := K)) (pv 4) pe_int (fun _ _ => rfl)) pa_nil))) pe_str) (pe_callTy call_str_int (by rfl) m_str (by decide +kernel) (pa_cons (pe_ix (GE.ix_tupK (K := K)) (pv 4) pe_int (fun _ _ => rfl)) pa_nil)))))))))), ?_⟩
    have n12 := W.n12
    have w24 := W.ln
    have p6 := ok.ln
    obtain ⟨na, nb, us, rfl, ha, hb, hus⟩ := net_at hnet
    obtain ⟨pa, pus, rfl, hpa, hpus⟩ := hpz.t
    have hul : us.length = ws.length := by rw [hus.len, List.length_map]
    have hpl : pus.length = ps.length := by rw [hpus.len, List.length_map]
    have q1 := ln_num (n := n) (by omega)
    refine ⟨_, rfl, na, _, _, _, rfl, rfl, SqT.of ha, at_of (j := 0) rfl rfl, _, rfl, nlog (by omega), _, _, rfl, rfl, (by simp only [ln_app, l_way, l_pair, l_places, l_sp, l_nl, l_0]; exact sz100 (by omega)), by show 1 ≤ sizeLine; decide, fun l0 hl0 => ?_⟩
    have e0 : Ext T noM H (upd H l0 (.lst [.str (plL n)])) := Ext.new hl0
    refine ⟨_, rfl, _, rfl, na, _, _, _, rfl, rfl, SqT.of (e0.tup (fun z => z) ha), at_of (j := 1) rfl rfl, nb, rfl, ⟨_, SqT.of (e0.tup (fun z => z) hb)⟩, fun D hD => ?_⟩
    have hDn : H D = none := e0.fr D hD
    have hne : l0 ≠ D := ne_of_none upd_same hD
    have hl1 : (upd (upd H l0 (.lst [.str (plL n)])) D (.lst [])) l0 = some (.lst [.str (plL n)]) := by rw [upd_ne hne]; exact upd_same
    refine lc_tup (K := K) (a := nb) (xs := us) (fun j H' => Ext T noM H H' ∧ H' l0 = some (.lst [.str (plL n)]) ∧ H' D = some (.lst (((ws.take j).map wyL).map V.str))) ⟨e0.trans (Ext.new hD), hl1, upd_same⟩ (fun j H' _ p => SqT.of (p.1.tup (fun z => z) hb)) ?_ ?_
    · rintro j x H3 hx ⟨e, h0, hD3⟩
      obtain ⟨w, wa, hw, rfl, hwa⟩ := wy_hx hus hx
      obtain ⟨w1, w2, w3, w4⟩ := W.ok w (List.mem_of_getElem? hw)
      have hw3 := SqT.of (K := K) (e.tup (fun z => z) hwa)
      have q1 := ln_num (n := w.1) (by omega)
      have q2 := ln_num (n := w.2.1) (by omega)
      have q3 := ln_num (n := w.2.2) (by omega)
      refine ⟨rfl, tYesI ?_⟩
      refine ⟨_, rfl, wa, _, _, _, rfl, rfl, hw3, at_of (j := 0) rfl rfl, _, rfl, nlog (by omega), _, _, rfl, rfl, (by simp only [ln_app, l_way, l_pair, l_places, l_sp, l_nl, l_0]; exact sz100 (by omega)), ?_⟩
      refine ⟨_, _, rfl, rfl, (by simp only [ln_app, l_way, l_pair, l_places, l_sp, l_nl, l_0]; exact sz100 (by omega)), ?_⟩
      refine ⟨_, rfl, wa, _, _, _, rfl, rfl, hw3, at_of (j := 1) rfl rfl, _, rfl, nlog (by omega), _, _, rfl, rfl, (by simp only [ln_app, l_way, l_pair, l_places, l_sp, l_nl, l_0]; exact sz100 (by omega)), ?_⟩
      refine ⟨_, _, rfl, rfl, (by simp only [ln_app, l_way, l_pair, l_places, l_sp, l_nl, l_0]; exact sz100 (by omega)), ?_⟩
      refine ⟨_, rfl, wa, _, _, _, rfl, rfl, hw3, at_of (j := 2) rfl rfl, _, rfl, nlog (by omega), _, _, rfl, rfl, (by simp only [ln_app, l_way, l_pair, l_places, l_sp, l_nl, l_0]; exact sz100 (by omega)), ?_⟩
      refine ⟨_, hD3, ?_, e.mut (.inl hDn) hD3 ltbl, by rw [upd_ne hne]; exact h0, ?_⟩
      · rw [List.length_map, List.length_map, List.length_take]; exact small1000 (by omega)
      · rw [upd_same, take_succ' hw, List.map_append, List.map_append]; rfl
    · rintro H3 ⟨e, h0, hD3⟩
      rw [hul, List.take_length] at hD3
      refine ⟨l0, D, _, _, rfl, rfl, h0, hD3, ?_, fun l1 hl1 => ?_⟩
      · rw [List.length_map, List.length_map]; exact Nat.le_of_lt (small1000 (by show 1 + ws.length ≤ 1000; omega))
      have e4 := e.trans (Ext.new (o := .lst ([.str (plL n)] ++ (ws.map wyL).map V.str)) hl1)
      generalize hH4 : upd H3 l1 (.lst ([.str (plL n)] ++ (ws.map wyL).map V.str)) = H4 at e4
      have h4 : H4 l1 = some (.lst ([.str (plL n)] ++ (ws.map wyL).map V.str)) := by rw [← hH4]; exact upd_same
      clear hH4
      refine ⟨_, rfl, _, rfl, pa, rfl, ⟨_, SqT.of (e4.tup (fun z => z) hpa)⟩, fun D2 hD2 => ?_⟩
      have hD2n : H D2 = none := e4.fr D2 hD2
      have hne2 : l1 ≠ D2 := ne_of_none h4 hD2
      refine lc_tup (K := K) (a := pa) (xs := pus) (fun j H' => Ext T noM H H' ∧ H' l1 = some (.lst ([.str (plL n)] ++ (ws.map wyL).map V.str)) ∧ H' D2 = some (.lst (((ps.take j).map prL).map V.str))) ⟨e4.trans (Ext.new hD2), by rw [upd_ne hne2]; exact h4, upd_same⟩ (fun j H' _ p => SqT.of (p.1.tup (fun z => z) hpa)) ?_ ?_
      · rintro j x H5 hx ⟨e5, h5, hD5⟩
        obtain ⟨q, qa, hq, rfl, hqa⟩ := pr_hx hpus hx
        obtain ⟨w1, w2⟩ := ok.ok q (List.mem_of_getElem? hq)
        have hq3 := SqT.of (K := K) (e5.tup (fun z => z) hqa)
        have q1 := ln_num (n := q.1) (by omega)
        have q2 := ln_num (n := q.2) (by omega)
        refine ⟨rfl, tYesI ?_⟩
        refine ⟨_, rfl, qa, _, _, _, rfl, rfl, hq3, at_of (j := 0) rfl rfl, _, rfl, nlog (by omega), _, _, rfl, rfl, (by simp only [ln_app, l_way, l_pair, l_places, l_sp, l_nl, l_0]; exact sz100 (by omega)), ?_⟩
        refine ⟨_, _, rfl, rfl, (by simp only [ln_app, l_way, l_pair, l_places, l_sp, l_nl, l_0]; exact sz100 (by omega)), ?_⟩
        refine ⟨_, rfl, qa, _, _, _, rfl, rfl, hq3, at_of (j := 1) rfl rfl, _, rfl, nlog (by omega), _, _, rfl, rfl, (by simp only [ln_app, l_way, l_pair, l_places, l_sp, l_nl, l_0]; exact sz100 (by omega)), ?_⟩
        refine ⟨_, hD5, ?_, e5.mut (.inl hD2n) hD5 ltbl, by rw [upd_ne hne2]; exact h5, ?_⟩
        · rw [List.length_map, List.length_map, List.length_take]; exact small1000 (by omega)
        · rw [upd_same, take_succ' hq, List.map_append, List.map_append]; rfl
      · rintro H5 ⟨e5, h5, hD5⟩
        rw [hpl, List.take_length] at hD5
        refine ⟨l1, D2, _, _, rfl, rfl, h5, hD5, ?_, fun l2 hl2 => ?_⟩
        · rw [List.length_append, List.length_map, List.length_map, List.length_map, List.length_map]; exact Nat.le_of_lt (small1000 (by show 1 + ws.length + ps.length ≤ 1000; omega))
        refine k l2 _ ?_ (e5.trans (Ext.new hl2))
        rw [upd_same]
        unfold lnsS
        rw [List.map_cons, List.map_append]
        rfl
theorem ok_write_task {f : Addr} {fd : FuncData} (F : Fun K "write_task" "write_task" swrite_task f fd) : FnOk P w K mg base CX0 1 f fd ["net", "pairs"] (spWrite T) := by
  refine F.ok scwrite_task (fun vs H Q E h => ?_) (fun cdv A outer s H vs Q E hr h => ?_)
  · obtain ⟨net, pz, n, ws, ps, rfl, W, ok, hnet, hpz, k⟩ := h
    rfl
  · obtain ⟨net, pz, n, ws, ps, rfl, W, ok, hnet, hpz, k⟩ := h
    refine ⟨_, (pss_cons (ps_asg (pv 0) (pg_tup (by rfl) (pgs_cons (pg_name (i := 2) scwrite_task.nd rfl (Or.inl rfl)) (pgs_cons (pg_name (i := 3) scwrite_task.nd rfl (Or.inl rfl)) pgs_nil))))
      (pss_cons (ps_set (i := 4) scwrite_task.nd rfl (Or.inl rfl) (pe_lst (pa_cons (GE.pe_js (PJ.cons pe_str (PJ.cons (pe_fmt (pv 2)) (PJ.cons pe_str PJ.nil)))) pa_nil)))
      (pss_cons (ps_expr (pe_bm PySem.F.plainAttrs_list PySem.F.slot_list_extend PySem.F.type_list_extend mt_extend (pv 4) (pa_cons (pe_lc (own := [("a", 5), ("b", 6), ("cost", 7)]) (tt := tYes) rfl scwrite_task.nd (pi_tup (pv 3)) (blkOk_by (own := [("a", 5), ("b", 6), ("cost", 7)]) (N := ["net", "pairs", "places", "ways", "lines", "a", "b", "cost"]) (sc := defScope swrite_task) (by decide +kernel)) (fun _ _ _ _ _ => (GE.pg_tupK (K := K) 3 (pgs_cons (pg_name (i := 5) scwrite_task.nd rfl (Or.inl rfl)) (pgs_cons (pg_name (i := 6) scwrite_task.nd rfl (Or.inl rfl)) (pgs_cons (pg_name (i := 7) scwrite_task.nd rfl (Or.inl rfl)) pgs_nil))))) (fun _ _ _ _ _ => pts_nil) (fun _ _ _ _ _ => (GE.pe_js (PJ.cons pe_str (PJ.cons (pe_fmt (pv 5)) (PJ.cons pe_str (PJ.cons (pe_fmt (pv 6)) (PJ.cons pe_str (PJ.cons (pe_fmt (pv 7)) (PJ.cons pe_str PJ.nil)))))))))) pa_nil)))
      (pss_cons (ps_expr (pe_bm PySem.F.plainAttrs_list PySem.F.slot_list_extend PySem.F.type_list_extend mt_extend (pv 4) (pa_cons (pe_lc (own := [("a", 5), ("b", 6)]) (tt := tYes) rfl scwrite_task.nd (pi_tup (pv 1)) (blkOk_by (own := [("a", 5), ("b", 6)]) (N := ["net", "pairs", "places", "ways", "lines", "a", "b", "cost"]) (sc := defScope swrite_task) (by decide +kernel)) (fun _ _ _ _ _ => (GE.pg_tupK (K := K) 2 (pgs_cons (pg_name (i := 5) scwrite_task.nd rfl (Or.inl rfl)) (pgs_cons (pg_name (i := 6) scwrite_task.nd rfl (Or.inl rfl)) pgs_nil)))) (fun _ _ _ _ _ => pts_nil) (fun _ _ _ _ _ => (GE.pe_js (PJ.cons pe_str (PJ.cons (pe_fmt (pv 5)) (PJ.cons pe_str (PJ.cons (pe_fmt (pv 6)) (PJ.cons pe_str PJ.nil)))))))) pa_nil)))
      (pss_one (ps_ret (pe_join pe_str (pv 4)))))))), ?_⟩
    have n12 := W.n12
    have w24 := W.ln
    have p6 := ok.ln
    obtain ⟨na, nb, us, rfl, ha, hb, hus⟩ := net_at hnet
    obtain ⟨pa, pus, rfl, hpa, hpus⟩ := hpz.t
    have hul : us.length = ws.length := by rw [hus.len, List.length_map]
    have hpl : pus.length = ps.length := by rw [hpus.len, List.length_map]
    have q1 := ln_num (n := n) (by omega)
    refine ⟨_, rfl, na, _, rfl, SqT.of ha, rfl, _, _, rfl, _, _, rfl, rfl, ?_⟩
    refine ⟨_, rfl, (by simp only [ln_app, l_way, l_pair, l_places, l_sp, l_nl, l_0]; exact sz100 (by omega)), _, rfl, .inr ⟨_, rfl, nlog (by omega), _, rfl, (by simp only [ln_app, l_way, l_pair, l_places, l_sp, l_nl, l_0]; exact sz100 (by omega)), _, rfl, (by simp only [ln_app, l_way, l_pair, l_places, l_sp, l_nl, l_0]; exact sz100 (by omega)), by show 1 ≤ sizeLine; decide, fun l0 hl0 => ?_⟩⟩
    have e0 : Ext T noM H (upd H l0 (.lst [.str (endL (plL n))])) := Ext.new hl0
    have h0 : (upd H l0 (.lst [.str (endL (plL n))])) l0 = some (.lst [.str (endL (plL n))]) := upd_same
    rw [show Str.empty ++ ("places " : Str) ++ Str.ofString (toString ((n : Nat) : Int)) ++ ("\n" : Str) = endL (plL n) by rw [str_nil]; rfl]
    generalize (upd H l0 (.lst [.str (endL (plL n))])) = H0 at e0 h0 ⊢
    refine ⟨_, rfl, .inl ⟨rfl, _, SqL.of h0⟩, _, rfl, nb, rfl, ⟨_, SqT.of (e0.tup (fun z => z) hb)⟩, fun D hD => ?_⟩
    have hDn : H D = none := e0.fr D hD
    have hne : l0 ≠ D := ne_of_none h0 hD
    refine lc_tup (K := K) (a := nb) (xs := us) (fun j H' => Ext T noM H H' ∧ H' l0 = some (.lst [.str (endL (plL n))]) ∧ H' D = some (.lst (((ws.take j).map fun w => endL (wyL w)).map V.str))) ⟨e0.trans (Ext.new hD), by rw [upd_ne hne]; exact h0, upd_same⟩ (fun j H' _ p => SqT.of (p.1.tup (fun z => z) hb)) ?_ ?_
    · rintro j x H3 hx ⟨e, h0, hD3⟩
      obtain ⟨w, wa, hw, rfl, hwa⟩ := wy_hx hus hx
      obtain ⟨w1, w2, w3, w4⟩ := W.ok w (List.mem_of_getElem? hw)
      have hw3 := SqT.of (K := K) (e.tup (fun z => z) hwa)
      have q1 := ln_num (n := w.1) (by omega)
      have q2 := ln_num (n := w.2.1) (by omega)
      have q3 := ln_num (n := w.2.2) (by omega)
      refine ⟨wa, _, rfl, hw3, rfl, _, _, rfl, _, _, rfl, _, _, rfl, rfl, rfl, tYesI ?_⟩
      refine ⟨_, rfl, (by simp only [ln_app, l_way, l_pair, l_places, l_sp, l_nl, l_0]; exact sz100 (by omega)), _, rfl, .inr ⟨_, rfl, nlog (by omega), _, rfl, (by simp only [ln_app, l_way, l_pair, l_places, l_sp, l_nl, l_0]; exact sz100 (by omega)), ?_⟩⟩
      refine ⟨_, rfl, (by simp only [ln_app, l_way, l_pair, l_places, l_sp, l_nl, l_0]; exact sz100 (by omega)), _, rfl, .inr ⟨_, rfl, nlog (by omega), _, rfl, (by simp only [ln_app, l_way, l_pair, l_places, l_sp, l_nl, l_0]; exact sz100 (by omega)), ?_⟩⟩
      refine ⟨_, rfl, (by simp only [ln_app, l_way, l_pair, l_places, l_sp, l_nl, l_0]; exact sz100 (by omega)), _, rfl, .inr ⟨_, rfl, nlog (by omega), _, rfl, (by simp only [ln_app, l_way, l_pair, l_places, l_sp, l_nl, l_0]; exact sz100 (by omega)), ?_⟩⟩
      refine ⟨_, rfl, (by simp only [ln_app, l_way, l_pair, l_places, l_sp, l_nl, l_0]; exact sz100 (by omega)), ?_⟩
      refine ⟨_, hD3, ?_, e.mut (.inl hDn) hD3 ltbl, by rw [upd_ne hne]; exact h0, ?_⟩
      · rw [List.length_map, List.length_map, List.length_take]; exact small1000 (by omega)
      · rw [upd_same, take_succ' hw, List.map_append, List.map_append, str_nil]; rfl
    · rintro H3 ⟨e, h0, hD3⟩
      rw [hul, List.take_length] at hD3
      refine ⟨l0, D, _, _, rfl, rfl, h0, hD3, ?_, ?_⟩
      · rw [List.length_map, List.length_map]; exact Nat.le_of_lt (small1000 (by show 1 + ws.length ≤ 1000; omega))
      have hl0n : H l0 = none := hl0
      have e4 : Ext T noM H (upd H3 l0 (.lst ([.str (endL (plL n))] ++ (ws.map fun w => endL (wyL w)).map V.str))) := e.mut (.inl hl0n) h0 ltbl
      have h4 : (upd H3 l0 (.lst ([.str (endL (plL n))] ++ (ws.map fun w => endL (wyL w)).map V.str))) l0 = some (.lst ([.str (endL (plL n))] ++ (ws.map fun w => endL (wyL w)).map V.str)) := upd_same
      generalize (upd H3 l0 (.lst ([.str (endL (plL n))] ++ (ws.map fun w => endL (wyL w)).map V.str))) = H4 at e4 h4 ⊢
      refine ⟨_, rfl, .inl ⟨rfl, _, SqL.of h4⟩, _, rfl, pa, rfl, ⟨_, SqT.of (e4.tup (fun z => z) hpa)⟩, fun D2 hD2 => ?_⟩
      have hD2n : H D2 = none := e4.fr D2 hD2
      have hne2 : l0 ≠ D2 := ne_of_none h4 hD2
      refine lc_tup (K := K) (a := pa) (xs := pus) (fun j H' => Ext T noM H H' ∧ H' l0 = some (.lst ([.str (endL (plL n))] ++ (ws.map fun w => endL (wyL w)).map V.str)) ∧ H' D2 = some (.lst (((ps.take j).map fun q => endL (prL q)).map V.str))) ⟨e4.trans (Ext.new hD2), by rw [upd_ne hne2]; exact h4, upd_same⟩ (fun j H' _ p => SqT.of (p.1.tup (fun z => z) hpa)) ?_ ?_
      · rintro j x H5 hx ⟨e5, h5, hD5⟩
        obtain ⟨q, qa, hq, rfl, hqa⟩ := pr_hx hpus hx
        obtain ⟨w1, w2⟩ := ok.ok q (List.mem_of_getElem? hq)
        have hq3 := SqT.of (K := K) (e5.tup (fun z => z) hqa)
        have q1 := ln_num (n := q.1) (by omega)
        have q2 := ln_num (n := q.2) (by omega)
        refine ⟨qa, _, rfl, hq3, rfl, _, _, rfl, _, _, rfl, rfl, rfl, tYesI ?_⟩
        refine ⟨_, rfl, (by simp only [ln_app, l_way, l_pair, l_places, l_sp, l_nl, l_0]; exact sz100 (by omega)), _, rfl, .inr ⟨_, rfl, nlog (by omega), _, rfl, (by simp only [ln_app, l_way, l_pair, l_places, l_sp, l_nl, l_0]; exact sz100 (by omega)), ?_⟩⟩
        refine ⟨_, rfl, (by simp only [ln_app, l_way, l_pair, l_places, l_sp, l_nl, l_0]; exact sz100 (by omega)), _, rfl, .inr ⟨_, rfl, nlog (by omega), _, rfl, (by simp only [ln_app, l_way, l_pair, l_places, l_sp, l_nl, l_0]; exact sz100 (by omega)), ?_⟩⟩
        refine ⟨_, rfl, (by simp only [ln_app, l_way, l_pair, l_places, l_sp, l_nl, l_0]; exact sz100 (by omega)), ?_⟩
        refine ⟨_, hD5, ?_, e5.mut (.inl hD2n) hD5 ltbl, by rw [upd_ne hne2]; exact h5, ?_⟩
        · rw [List.length_map, List.length_map, List.length_take]; exact small1000 (by omega)
        · rw [upd_same, take_succ' hq, List.map_append, List.map_append, str_nil]; rfl
      · rintro H5 ⟨e5, h5, hD5⟩
        rw [hpl, List.take_length] at hD5
        refine ⟨l0, D2, _, _, rfl, rfl, h5, hD5, ?_, ?_⟩
        · rw [List.length_append, List.length_map, List.length_map, List.length_map, List.length_map]; exact Nat.le_of_lt (small1000 (by show 1 + ws.length + ps.length ≤ 1000; omega))
        have e6 : Ext T noM H (upd H5 l0 (.lst ([.str (endL (plL n))] ++ (ws.map fun w => endL (wyL w)).map V.str ++ (ps.map fun q => endL (prL q)).map V.str))) := e5.mut (.inl hl0n) h5 ltbl
        have h6 : (upd H5 l0 (.lst ([.str (endL (plL n))] ++ (ws.map fun w => endL (wyL w)).map V.str ++ (ps.map fun q => endL (prL q)).map V.str))) l0 = some (.lst (((lnsS n ws ps).map endL).map V.str)) := by
          rw [upd_same]
          unfold lnsS
          simp only [List.map_cons, List.map_append, List.map_map]
          rfl
        generalize (upd H5 l0 (.lst ([.str (endL (plL n))] ++ (ws.map fun w => endL (wyL w)).map V.str ++ (ps.map fun q => endL (prL q)).map V.str))) = H6 at e6 h6 ⊢
        obtain ⟨t1, t2, t3⟩ := text_ln W ok
        refine ⟨⟨_, rfl⟩, _, rfl, Str.empty, l0, _, rfl, rfl, .inl (SqL.of h6), ?_, k H6 e6⟩
        show _ + _ * 0 ≤ _
        omega
end
end Mw

set_option Elab.async false
set_option linter.all false
set_option maxRecDepth 100000
set_option maxHeartbeats 4000000
namespace Mw
open PySem PySem.Spec PyProof.Rows L2 GE NumText
/-! ### splitting is undone by joining -/
theorem join_spl1 (s : Nat) : ∀ (l acc : List Nat), TL.joinL [s] (TL.spl [s] 0 acc l) = acc ++ l
  | [], acc => by rw [TL.spl_nil, List.append_nil]; rfl
  | c :: r, acc => by
    cases h : TL.pre [s] (c :: r) with
    | true =>
      have hc : c = s := by
        unfold TL.pre at h
        simpa using h
      rw [TL.spl_hit h]
      have ih := join_spl1 s r []
      have hne := spl_ne [s] r 0 []
      show TL.joinL [s] (acc :: TL.spl [s] 0 [] r) = _
      cases hq : TL.spl [s] 0 [] r with
      | nil => exact absurd hq hne
      | cons p q =>
        rw [hq] at ih
        show acc ++ ([s] ++ TL.joinL [s] (p :: q)) = _
        rw [ih, hc]; rfl
    | false =>
      rw [TL.spl_miss h, join_spl1 s r (acc ++ [c]), List.append_assoc]; rfl
theorem split_chs {x y : Str} {s : Nat} (ey : chs_ y = [s]) (hs : s < 256) : (Txt.split x y).map chs_ = TL.spl [s] 0 [] (chs_ x) := by
  have hk : y.cps.all (· < 256) = true := by
    rw [← Array.all_toList, show y.cps.toList = [s] from ey]
    simp [hs]
  have e := TL.split_spl x y (by rw [show TL.tl y = [s] from ey]; exact List.cons_ne_nil _ _) (TL.kind_ok hk)
  rw [show TL.tl y = [s] from ey] at e
  exact e
theorem unsplit {x y : Str} {s : Nat} (ey : chs_ y = [s]) (hs : s < 256) : chs_ x = TL.joinL [s] ((Txt.split x y).map chs_) := by
  rw [split_chs ey hs, join_spl1, List.nil_append]
theorem split_inj {x z y : Str} {s : Nat} (ey : chs_ y = [s]) (hs : s < 256) (h : Txt.split x y = Txt.split z y) : x = z := str_ext (by rw [unsplit ey hs, h, ← unsplit ey hs])
/-! ### numbers -/
theorem numT_as {w : Str} {lo hi : Nat} (h : hi ≤ 99999) : numT w lo hi = (match numT w 0 99999 with
  | some n => if lo ≤ n ∧ n ≤ hi then some n else none
  | none => none) := by
  cases e : numT w 0 99999 with
  | some n =>
    obtain ⟨rfl, _, h2⟩ := numT_some e
    show _ = if lo ≤ n ∧ n ≤ hi then some n else none
    by_cases c : lo ≤ n ∧ n ≤ hi
    · rw [if_pos c]; exact numT_nm c.1 c.2
    · rw [if_neg c]
      cases q : numT (nmS n) lo hi with
      | none => rfl
      | some m =>
        obtain ⟨g1, g2, g3⟩ := numT_some q
        have := nm_inj g1
        exact absurd (by omega) c
  | none =>
    cases q : numT w lo hi with
    | none => rfl
    | some m =>
      obtain ⟨g1, g2, g3⟩ := numT_some q
      rw [g1, numT_nm (Nat.zero_le _) (by omega)] at e
      cases e
theorem chs_ne {a : Str} (h : chs_ a ≠ []) : ∃ c r, chs_ a = c :: r := by
  cases e : chs_ a with
  | nil => exact absurd e h
  | cons c r => exact ⟨c, r, rfl⟩
theorem nm_back {a : Str} (hd : AllDigits (chs_ a)) (hn : chs_ a ≠ []) : nmS (digitsVal (chs_ a)) = a ↔ (∃ r, chs_ a = 48 :: r) → a = "0" := by
  constructor
  · rintro e ⟨r, hr⟩
    have h1 : TL.numL (digitsVal (chs_ a)) = 48 :: r := by rw [← ch_nm, e, hr]
    by_cases h0 : digitsVal (chs_ a) = 0
    · rw [← e, h0]; rfl
    · exfalso
      obtain ⟨c, q, hc⟩ := chs_ne hn
      rw [hr] at hc
      obtain ⟨rfl, rfl⟩ := List.cons.inj hc
      have hl1 : (TL.numL (digitsVal (chs_ a))).length = r.length + 1 := by rw [h1]; rfl
      have hv : digitsVal (chs_ a) < 10 ^ r.length := by
        rw [hr, digitsVal_zero]
        rw [hr] at hd
        exact val_lt fun c hc => hd c (List.mem_cons_of_mem _ hc)
      have := TL.numL_len (n := digitsVal (chs_ a)) (k := r.length) (by
        rcases Nat.eq_zero_or_pos r.length with z | z
        · rw [z] at hv; omega
        · exact z) hv
      omega
  · intro h
    obtain ⟨c, r, hc⟩ := chs_ne hn
    by_cases h48 : c = 48
    · subst h48
      have := h ⟨r, hc⟩
      subst this
      rfl
    · have hc49 : 49 ≤ c := by
        have := hd c (by rw [hc]; exact List.mem_cons_self)
        omega
      have e := toDigits_digitsVal r.length (chs_ a) (by rw [hc]; rfl) hd (.inr ⟨c, r, hc, hc49⟩)
      refine str_ext ?_
      rw [ch_nm]
      show (Nat.toDigits 10 (digitsVal (chs_ a))).map Char.toNat = chs_ a
      rw [e, List.map_map]
      refine (List.map_congr_left fun x hx => ?_).trans (List.map_id _)
      have := hd x hx
      show (Char.ofNat x).toNat = x
      have hv : x.isValidChar := .inl (by omega)
      unfold Char.ofNat
      rw [dif_pos hv]
      rfl
/-! ### lines -/
def linesT (text : Str) : List Str := if (Txt.split text "\n").getLastD Str.empty ≠ Str.empty ∨ (Txt.split text "\n").dropLast = [] then Txt.split text "\n" else (Txt.split text "\n").dropLast
def restT (text : Str) : Str := (Txt.split text "\n").getLastD Str.empty
def runB (r : RS) (k : Nat) : List Str → Sum Nat RS
  | [] => .inr r
  | l :: ls => match lineT r l with
    | none => .inl (k + 1)
    | some r' => runB r' (k + 1) ls
def outT (text : Str) : Sum Nat RS := match runB r0 0 (linesT text) with
  | .inl i => .inl i
  | .inr q => if restT text = Str.empty then .inr q else .inl (linesT text).length
theorem runB_app : ∀ (a b : List Str) (r q : RS) (k : Nat), runB r k a = .inr q → runB r k (a ++ b) = runB q (k + a.length) b
  | [], b, r, q, k, h => by
    cases h
    rfl
  | l :: a, b, r, q, k, h => by
    show (match lineT r l with
      | none => Sum.inl (k + 1)
      | some r' => runB r' (k + 1) (a ++ b)) = _
    have h' : (match lineT r l with
      | none => Sum.inl (k + 1)
      | some r' => runB r' (k + 1) a) = .inr q := h
    cases e : lineT r l with
    | none => rw [e] at h'; cases h'
    | some r' =>
      rw [e] at h'
      show runB r' (k + 1) (a ++ b) = _
      rw [runB_app a b r' q (k + 1) h', List.length_cons]
      congr 1; omega
theorem runB_fail {L : List Str} {i : Nat} {l : Str} {q : RS} (h : runB r0 0 (L.take i) = .inr q) (hl : L[i]? = some l) (hn : lineT q l = none) : runB r0 0 L = .inl (i + 1) := by
  have hi := (List.getElem?_eq_some_iff.mp hl).1
  rw [← List.take_append_drop i L, runB_app _ _ _ _ _ h, List.drop_eq_getElem_cons hi, List.length_take, Nat.min_eq_left (by omega), Nat.zero_add]
  rw [List.getElem?_eq_getElem hi] at hl
  rw [Option.some.inj hl]
  show (match lineT q l with
    | none => Sum.inl (i + 1)
    | some r' => runB r' (i + 1) (L.drop (i + 1))) = _
  rw [hn]
theorem runB_step {L : List Str} {i : Nat} {l : Str} {q q' : RS} (h : runB r0 0 (L.take i) = .inr q) (hl : L[i]? = some l) (hn : lineT q l = some q') : runB r0 0 (L.take (i + 1)) = .inr q' := by
  rw [take_succ' hl, runB_app _ _ _ _ _ h]
  show (match lineT q l with
    | none => _
    | some r' => runB r' _ []) = _
  rw [hn]; rfl
/-! ### what is accepted is written so -/
structure Good (L : List Str) (r : RS) : Prop where
  at0 : r.1 = none → L = [] ∧ r.2.1 = [] ∧ r.2.2 = []
  at1 : ∀ n, r.1 = some n → L = lnsS n r.2.1 r.2.2 ∧ 1 ≤ n ∧ n ≤ 12 ∧ r.2.1.length ≤ 24 ∧ (∀ w ∈ r.2.1, WayOk n w) ∧ (∀ q ∈ r.2.2, q.1 < q.2 ∧ q.2 < n) ∧ r.2.2.length ≤ 6 ∧ r.2.2.Nodup
theorem wd_i {words : List Str} {i : Nat} {x : Str} (h : words[i]? = some x) : wd words i = x := by unfold wd; rw [List.getD_eq_getElem?_getD, h]; rfl
theorem ends_ok' {a b : Str} {n : Nat} (hn : 1 ≤ n) {e : Pr} (h : endsT a b n = some e) : a = nmS e.1 ∧ b = nmS e.2 ∧ e.1 < e.2 ∧ e.2 < n := by
  have h0 := endsT_ok hn h
  unfold endsT at h
  split at h
  · rename_i x y hx hy
    split at h
    · have := Option.some.inj h
      subst this
      exact ⟨(numT_some hx).1, (numT_some hy).1, h0⟩
    · cases h
  · cases h
theorem good_step {L : List Str} {r r' : RS} {l : Str} (G : Good L r) (h : lineT r l = some r') : Good (L ++ [l]) r' := by
  obtain ⟨pl, ws, ps⟩ := r
  have e0 : ∀ {parts : List Str} {z : Str}, Txt.split l " " = parts → chs_ z = TL.joinL [32] (parts.map chs_) → l = z := fun {parts z} h1 h2 => str_ext (by rw [unsplit ch_sp (by decide), h1, h2])
  cases pl with
  | none =>
    obtain ⟨rfl, h2, h3⟩ := G.at0 rfl
    have h2 : ws = [] := h2
    have h3 : ps = [] := h3
    subst h2 h3
    have h : (plT (Txt.split l " ")).map (fun n => ((some n, [], []) : RS)) = some r' := h
    cases hp : plT (Txt.split l " ") with
    | none => rw [hp] at h; cases h
    | some n =>
      rw [hp] at h
      have h := Option.some.inj h
      subst h
      unfold plT at hp
      split at hp
      · rename_i c
        obtain ⟨c1, c2⟩ := c
        obtain ⟨g1, g2, g3⟩ := numT_some hp
        have hs : Txt.split l " " = [("places" : Str), nmS n] := by
          match h4 : Txt.split l " ", c1 with
          | [a, b], _ =>
            rw [h4] at c2 g1
            rw [show a = "places" from c2, show b = nmS n from g1]
        refine ⟨fun z => (nomatch z), fun m hm => ?_⟩
        obtain rfl := Option.some.inj hm
        refine ⟨?_, g2, g3, Nat.zero_le _, fun w hw => (nomatch hw), fun q hq => (nomatch hq), Nat.zero_le _, List.nodup_nil⟩
        show [] ++ [l] = [plL n]
        rw [e0 hs (ch_pl n)]; rfl
      · cases hp
  | some n =>
    obtain ⟨hL, n1, n12, w24, hw, hq, p6, nd⟩ := G.at1 n rfl
    have hL : L = lnsS n ws ps := hL
    have h : (if wd (Txt.split l " ") 0 = "way" then (wayT n ws ps (Txt.split l " ")).map fun ws => ((some n, ws, ps) : RS) else (pairT n ps (Txt.split l " ")).map fun ps => ((some n, ws, ps) : RS)) = some r' := h
    split at h
    · rename_i cw
      cases hp : wayT n ws ps (Txt.split l " ") with
      | none => rw [hp] at h; cases h
      | some ws' =>
        rw [hp] at h
        have h := Option.some.inj h
        subst h
        unfold wayT at hp
        split at hp
        · cases hp
        · rename_i c
          split at hp
          · rename_i e cst he hc
            have hp := Option.some.inj hp
            subst hp
            obtain ⟨g1, g2, g3, g4⟩ := ends_ok' n1 he
            obtain ⟨k1, k2, k3⟩ := numT_some hc
            have c1 : (Txt.split l " ").length = 4 := Classical.byContradiction fun z => c (.inl z)
            have c2 : ps = [] := Classical.byContradiction fun z => c (.inr (.inl z))
            have c3 : ws.length < 24 := Nat.lt_of_not_le fun z => c (.inr (.inr z))
            subst c2
            have hs : Txt.split l " " = [("way" : Str), nmS e.1, nmS e.2, nmS cst] := by
              match h4 : Txt.split l " ", c1 with
              | [a, b, x, y], _ =>
                rw [h4] at cw g1 g2 k1
                rw [show a = "way" from cw, show b = nmS e.1 from g1, show x = nmS e.2 from g2, show y = nmS cst from k1]
            have hok : WayOk n (e.1, e.2, cst) := ⟨g3, g4, k2, k3⟩
            refine ⟨fun z => (nomatch z), fun m hm => ?_⟩
            obtain rfl := Option.some.inj hm
            refine ⟨?_, n1, n12, by show (ws ++ [_]).length ≤ 24; rw [List.length_append, List.length_singleton]; omega, fun w hw' => ?_, hq, p6, nd⟩
            · show L ++ [l] = lnsS n (ws ++ [(e.1, e.2, cst)]) []
              rw [hL, e0 hs (ch_wy (e.1, e.2, cst))]
              unfold lnsS
              simp
            · rcases List.mem_append.mp hw' with z | z
              · exact hw w z
              · rw [List.mem_singleton.mp z]; exact hok
          · cases hp
    · cases hp : pairT n ps (Txt.split l " ") with
      | none => rw [hp] at h; cases h
      | some ps' =>
        rw [hp] at h
        have h := Option.some.inj h
        subst h
        unfold pairT at hp
        split at hp
        · cases hp
        · rename_i c
          split at hp
          · rename_i e he
            split at hp
            · cases hp
            · rename_i hnin
              have hp := Option.some.inj hp
              subst hp
              obtain ⟨g1, g2, g3, g4⟩ := ends_ok' n1 he
              have c1 : (Txt.split l " ").length = 3 := Classical.byContradiction fun z => c (.inl z)
              have c2 : wd (Txt.split l " ") 0 = "pair" := Classical.byContradiction fun z => c (.inr (.inl z))
              have c3 : ps.length < 6 := Nat.lt_of_not_le fun z => c (.inr (.inr z))
              have hs : Txt.split l " " = [("pair" : Str), nmS e.1, nmS e.2] := by
                match h4 : Txt.split l " ", c1 with
                | [a, b, x], _ =>
                  rw [h4] at c2 g1 g2
                  rw [show a = "pair" from c2, show b = nmS e.1 from g1, show x = nmS e.2 from g2]
              refine ⟨fun z => (nomatch z), fun m hm => ?_⟩
              obtain rfl := Option.some.inj hm
              refine ⟨?_, n1, n12, w24, hw, fun q hq' => ?_, by show (ps ++ [e]).length ≤ 6; rw [List.length_append, List.length_singleton]; omega, ?_⟩
              · show L ++ [l] = lnsS n ws (ps ++ [e])
                rw [hL, e0 hs (ch_pr e)]
                unfold lnsS
                simp
              · rcases List.mem_append.mp hq' with z | z
                · exact hq q z
                · rw [List.mem_singleton.mp z]; exact ⟨g3, g4⟩
              · show (ps ++ [e]).Nodup
                exact List.nodup_append.mpr ⟨nd, (by simp), fun a ha b hb z => hnin (by rw [List.mem_singleton.mp hb] at z; exact z ▸ ha)⟩
          · cases hp
theorem good_run : ∀ {L A : List Str} {r q : RS} {k : Nat}, Good A r → runB r k L = .inr q → Good (A ++ L) q
  | [], A, r, q, k, G, h => by cases h; rw [List.append_nil]; exact G
  | l :: L, A, r, q, k, G, h => by
    have h' : (match lineT r l with
      | none => Sum.inl (k + 1)
      | some r' => runB r' (k + 1) L) = .inr q := h
    cases e : lineT r l with
    | none => rw [e] at h'; cases h'
    | some r' =>
      rw [e] at h'
      have := good_run (good_step G e) h'
      rw [List.append_assoc] at this
      exact this
theorem good0 : Good [] r0 := ⟨fun _ => ⟨rfl, rfl, rfl⟩, fun n h => nomatch h⟩
theorem line_nil : lineT r0 Str.empty = none := by decide +kernel
theorem split_last (text : Str) : ∃ A b, Txt.split text "\n" = A ++ [b] := by
  have hne := split_ne (x := text) ch_nl (by decide)
  exact ⟨_, _, (List.dropLast_concat_getLast hne).symm⟩
/-- a text that is taken: it is the text of what is told -/
theorem out_ok {text : Str} {q : RS} (h : outT text = .inr q) : ∃ n ws ps, q = (some n, ws, ps) ∧ Wf n ws ∧ PsOk n ps ∧ ps.Nodup ∧ text = textS n ws ps := by
  unfold outT at h
  split at h
  · cases h
  · rename_i q' hr
    split at h
    · rename_i hb
      obtain rfl := Sum.inr.inj h
      have G := good_run good0 hr
      rw [List.nil_append] at G
      obtain ⟨A, b, hs⟩ := split_last text
      have hb' : b = Str.empty := by unfold restT at hb; rw [hs] at hb; simpa using hb
      subst hb'
      have hA : A ≠ [] := fun z => by
        subst z
        have : linesT text = [Str.empty] := by unfold linesT; rw [hs]; simp
        rw [this] at hr
        have hr' : (match lineT r0 Str.empty with
          | none => Sum.inl 1
          | some r' => runB r' 1 []) = .inr q' := hr
        rw [line_nil] at hr'
        cases hr'
      have hL : linesT text = A := by unfold linesT; rw [hs]; simp [hA]
      rw [hL] at G
      obtain ⟨pl, ws, ps⟩ := q'
      cases pl with
      | none => exact absurd (G.at0 rfl).1 hA
      | some n =>
        obtain ⟨g0, g1, g2, g3, g4, g5, g6, g7⟩ := G.at1 n rfl
        have W : Wf n ws := ⟨g1, g2, g3, g4⟩
        have ok : PsOk n ps := ⟨g5, g6⟩
        refine ⟨n, ws, ps, rfl, W, ok, g7, split_inj ch_nl (by decide) ?_⟩
        have e : Txt.split (textS n ws ps) "\n" = lnsS n ws ps ++ [Str.empty] := split_text lns_free
        rw [hs, e, g0]
    · cases h
end Mw

set_option Elab.async false
set_option linter.all false
set_option maxRecDepth 100000
set_option maxHeartbeats 4000000
/-! own errors with a field: made, raised, caught, asked -/
namespace GE
open PySem PySem.Spec PyProof.Rows L2
section
variable {P : Program} {w : World} {K : PySem.W.Frag} {mg : Str → Option Value} {base : Heap} {k : Nat} {f : Addr} {fd : FuncData} {ps : List Str} {sp sq : Sp}
/-- a def that lets nothing out, where others may -/
theorem okX0 {CX : CXT} (F : FnOk P w K mg base CX0 k f fd ps sp) : FnOk P w K mg base CX k f fd ps sp :=
  ⟨F.len, fun A outer s H args us vs Q E hr he hb hv hs => codeAny_mono (F.run A outer s H args us vs Q E hr he hb hv hs) fun r s' h => match r, h with
    | .error _, h => h.elim
    | .ok (.ret _), h => h
    | .ok .next, h => h
    | .ok .brk, h => h
    | .ok .cont, h => h⟩
/-- of two promises either -/
theorem okOr {CX : CXT} (a : FnOk P w K mg base CX k f fd ps sp) (b : FnOk P w K mg base CX k f fd ps sq) : FnOk P w K mg base CX k f fd ps (fun vs H Q E => sp vs H Q E ∨ sq vs H Q E) :=
  ⟨fun vs H Q E h => h.elim (a.len vs H Q E) (b.len vs H Q E), fun A outer s H args us vs Q E r1 r2 r3 r4 h => h.elim (fun h => a.run A outer s H args us vs Q E r1 r2 r3 r4 h) fun h => b.run A outer s H args us vs Q E r1 r2 r3 r4 h⟩
abbrev CXn (P : Program) (w : World) : CXT := L2N.CX P w
theorem funN {x qual : Str} {st : Stmt} {N : List Str} (F : Fun K x qual st f fd) (S : FnScope N ps (defScope st)) (len : ∀ vs H Q E, sp vs H Q E → vs.length = ps.length)
    (body : ∀ (cdv : Value) (A : Around) (outer : List Env) (s : Shared) (H : Hp) (vs : List V) (Q : VK) (E : XK), Room k (A.deeper (envOfC qual (defScope st) s.heap.objs.size f cdv)) → sp vs H Q E →
      ∃ t, PSs (cxOf (CXn P w) P w K mg base N qual (defScope st) f cdv A outer s H E) (defBody st) t ∧ t { nx := fun _ H' => Q .non H', rt := Q } (start N vs) H) : FnOk P w K mg base (CXn P w) (k + 1) f fd ps sp := by
  obtain ⟨_, _, _, _, _, _, cv, _, _, rfl, l, c⟩ := F.ex
  exact fn_of l c S len fun A outer s H vs Q E r h => body cv A outer s H vs Q E r h
/-- .. called where an error is handled -/
theorem funH {CX : CXT} {x qual : Str} {st : Stmt} {N : List Str} (F : Fun K x qual st f fd) (S : FnScope N ps (defScope st)) (len : ∀ vs H Q E, sp vs H Q E → vs.length = ps.length)
    (body : ∀ (cdv : Value) (A : Around) (outer : List Env) (s : Shared) (H : Hp) (vs : List V) (Q : VK) (E : XK) (p : Addr × Obj), L2H.Hot1 A p → L2H.RoomH k (A.deeper (envOfC qual (defScope st) s.heap.objs.size f cdv)) → sp vs H Q E →
      ∃ t, PSs (L2H.cxH CX P w K mg base N qual (defScope st) f cdv A outer s H E p) (defBody st) t ∧ t { nx := fun _ H' => Q .non H', rt := Q } (L2.start N vs) H) : L2H.FnH P w K mg base CX (k + 1) f fd ps sp := by
  obtain ⟨_, _, _, _, _, _, cv, _, _, rfl, l, c⟩ := F.ex
  exact L2H.fn_ofH l c S len fun A outer s H vs Q E p a r h => body cv A outer s H vs Q E p a r h
/-- errors with whatever context are errors -/
theorem okN_X (F : FnOk P w K mg base (CXn P w) k f fd ps sp) : FnOk P w K mg base (L2.CX P w) k f fd ps sp :=
  ⟨F.len, fun A outer s H args us vs Q E r1 r2 r3 r4 h => codeAny_mono (F.run A outer s H args us vs Q E r1 r2 r3 r4 h) fun r s' h => match r, h with
    | .error _, ⟨a, B, H', cls, d, e, fl, h1, h2, h3, h4, h5, h6⟩ => ⟨a, B, H', cls, d, e, by
        obtain ⟨k1, k2, k3, oe, vs, T, oT, ts, g1, g2, g3⟩ := fl
        exact ⟨k1, k2, k3, oe, vs, T, oT, ts, g1, g2.zc, g3⟩, h1, h2, h3, h4, h5, h6⟩
    | .ok (.ret _), h => h
    | .ok .next, h => h
    | .ok .brk, h => h
    | .ok .cont, h => h⟩
end
/-! ### facts of the classes -/
def oexB (K : PySem.W.Frag) (C : Addr) : Bool := match K.lookup C with
  | some ⟨.type t, _, .cls cd, sl⟩ => (match cd.mro, sl.toList with
    | .ref B :: bm, [_, _, _, _, some (.builtin n), _] => decide (t = "type") && (decide (B = C) && (decide (n = "ValueError.__new__") && (!cd.hasDel && (cd.hasDict && PySem.HandSPX.refsVE bm))))
    | _, _ => false)
  | _ => false
theorem oexB_ok {K : PySem.W.Frag} {C : Addr} (q : oexB K C = true) : ∃ nm qn N bs bm sn sub ab col dd k0 k1 k2 k3 k5, K.lookup C = some (excClassObj nm qn C N bs bm true sn sub ab col dd k0 k1 k2 k3 k5 "ValueError.__new__") ∧ PySem.HandSPX.refsVE bm = true := by
  unfold oexB at q
  split at q
  · rename_i t dd cd sl lk
    split at q
    · rename_i B bm k0 k1 k2 k3 n k5 e1 e2
      rw [Bool.and_eq_true, Bool.and_eq_true, Bool.and_eq_true, Bool.and_eq_true, Bool.and_eq_true, decide_eq_true_eq, decide_eq_true_eq, decide_eq_true_eq, Bool.not_eq_true'] at q
      obtain ⟨rfl, rfl, rfl, q4, q5, q6⟩ := q
      obtain ⟨nm, bs, mro, ns, qn, hd, sn, sub, ab, col, del⟩ := cd
      dsimp only at e1 q4 q5
      subst e1 q4 q5
      obtain ⟨l⟩ := sl
      have e3 : l = [k0, k1, k2, k3, some (.builtin "ValueError.__new__"), k5] := e2
      subst e3
      exact ⟨nm, qn, ns, bs, bm, sn, sub, ab, col, dd, k0, k1, k2, k3, k5, lk, q6⟩
    · cases q
  · cases q
/-- what is asked of an own error's class at C, its __init__ at fI, its field fld -/
structure Xc (K : PySem.W.Frag) (C fI : Addr) (fld : Str) : Prop where
  ox : OexC K C
  xf : XfC K C
  xc : ExcC K C
  no : PySem.W.findIn K (.ref C) fld = some none
  iC : PySem.W.findIn K (.ref C) "__init__" = some (some (.ref fI))
  tI : PySem.W.typeIn K (.ref fI) = some (.type "function")
def xcB (K : PySem.W.Frag) (C fI : Addr) (fld : Str) : Bool :=
  oexB K C && (decide (PySem.W.findIn K (.ref C) "__setattr__" = some (some (.builtin "object.__setattr__"))) && (decide (PySem.W.subIn K (.ref C) (.type "BaseException") = some true) && (decide (PySem.W.typeIn K (.ref C) = some (.type "type")) &&
  (PySem.W.keepIn K (.ref C) && (decide (PySem.W.findIn K (.ref C) "__getattribute__" = some (some (.builtin "BaseException.__getattribute__"))) && (decide (PySem.W.findIn K (.ref C) "__getattr__" = some none) && (PySem.W.hasDictIn K C &&
  (decide (PySem.W.findIn K (.ref C) "__class__" = some (some (.builtin "object.__class__"))) && (decide (PySem.W.specialIn K (.builtin "object.__class__") "__get__" = some (some (.builtin "getset_descriptor.__get__"))) && (decide (PySem.W.takesIn K (.builtin "object.__class__") = some true) &&
  (decide (PySem.W.mroIn K C (.type "object") = some true) && (decide (PySem.W.findIn K (.ref C) fld = some none) && (decide (PySem.W.findIn K (.ref C) "__init__" = some (some (.ref fI))) && decide (PySem.W.typeIn K (.ref fI) = some (.type "function")))))))))))))))
theorem xcB_ok {K : PySem.W.Frag} {C fI : Addr} {fld : Str} (h : xcB K C fI fld = true) : Xc K C fI fld := by
  unfold xcB at h
  simp only [Bool.and_eq_true, decide_eq_true_eq] at h
  obtain ⟨h1, h2, h3, h4, h5, h6, h7, h8, h9, h10, h11, h12, h13, h14, h15⟩ := h
  exact ⟨⟨oexB_ok h1, h2, h3, h4, h5⟩, ⟨h6, h7, h3, h8⟩, ⟨h6, h7, h3, h8, h9, h10, h11, h12⟩, h13, h14, h15⟩
/-- the base class at B: its __init__ is ValueError's -/
structure Xb (K : PySem.W.Frag) (B : Addr) : Prop where
  rd : PySem.W.readsIn K B (.type "type") = true
  ga : PySem.W.specialIn K (.ref B) "__getattribute__" = some (some (.builtin "type.__getattribute__"))
  at_ : PySem.W.findCls K (.ref B) (.type "type") "__init__" = some (.val (.builtin "ValueError.__init__"))
def xbB (K : PySem.W.Frag) (B : Addr) : Bool := PySem.W.readsIn K B (.type "type") && (decide (PySem.W.specialIn K (.ref B) "__getattribute__" = some (some (.builtin "type.__getattribute__"))) && (match PySem.W.findCls K (.ref B) (.type "type") "__init__" with
  | some (.val (.builtin n)) => decide (n = "ValueError.__init__")
  | _ => false))
theorem xbB_ok {K : PySem.W.Frag} {B : Addr} (h : xbB K B = true) : Xb K B := by
  unfold xbB at h
  rw [Bool.and_eq_true, Bool.and_eq_true, decide_eq_true_eq] at h
  obtain ⟨h1, h2, h3⟩ := h
  refine ⟨h1, h2, ?_⟩
  split at h3
  · rename_i n e
    rw [e, of_decide_eq_true h3]
  · cases h3
/-! ### B.__init__(self, ..) -/
theorem pe_binit {X : Cx} {x : Str} {B : Addr} {e : Expr} {es : List Expr} {ta : TA} {p1 p2 pos : Pos} {pl : Sem Bool} (b : Xb X.K B) (hg : Gl X x) (hm : X.mg x = some (.ref B)) (ha : PA X (e :: es) ta) (hdb : (x == ("__debug__" : Str)) = false := by decide)
    (hc : eval (.Call (.Attribute (.Name x p1) "__init__" p2) (e :: es) [] pos) X.env = (do
      let v ← eval (.Name x p1) X.env
      standAt p2.atName
      let (g, own) ← holding [v] (getMethod v "__init__" pl)
      callWith pos g own (backTo pos (starEach (e :: es) X.env)) (backToKw pos (keywordEach [] X.env))) := by rfl)
    (he : starEach (e :: es) X.env = (false, eval e X.env) :: starEach es X.env := by rfl) (hp : (backTo pos (starEach es X.env)).any (·.1) = false := by rfl) : PE X (.Call (.Attribute (.Name x p1) "__init__" p2) (e :: es) [] pos) (tVeI X.K ta) := by
  refine ⟨fun pins s σ H Q I h => PySem.W.methodCall_KW (ld_glob I hg hm (PySem.W.method_cls I.kIn b.ga (PySem.W.cls_value I.kIn b.rd b.at_ (by decide +kernel) ?_)) hdb) hc⟩
  refine callWith_method1 (thn (ha.run pos pins _ σ H _ (I.tok _) h) ?_) he hp
  rintro us s1 ⟨vs, H1, J, r, a, C, ws, rfl, hl, T, ea, q⟩
  match us, r with
  | _ :: ur, .cons ra rw =>
    cases ra
    refine oinit_ok T J ea (Nat.le_trans (Nat.le_of_eq (Paired.length rw).symm) (Nat.le_trans hl (by decide))) fun s' J' => ?_
    exact ⟨.non, H1, J', rfl, q⟩
end GE

set_option Elab.async false
set_option linter.all false
set_option maxRecDepth 100000
set_option maxHeartbeats 4000000
namespace GE
open PySem PySem.Spec PyProof.Rows L2
/-! ### C(e, ..): the new error's context is None -/
theorem pmkN {X : Cx} {CX : CXT} {x : Str} {C fI : Addr} {k : Nat} {fd : FuncData} {ps : List Str} {sp : Sp} {fld : Str} {e : Expr} {es : List Expr} {ta : TA} {p pos : Pos} (T : Xc X.K C fI fld)
    (FI : FnOk X.prog X.w X.K X.mg X.base CX k fI fd ps sp) (hr : Room (k + 1) X.A) (hb : Binds X.K fd ps []) (hx : Passes CX X (fun _ _ _ => False)) (hg : Gl X x) (hm : X.mg x = some (.ref C)) (ha : PA X (e :: es) ta)
    (hdb : (x == ("__debug__" : Str)) = false := by decide) (he : starEach (e :: es) X.env = (false, eval e X.env) :: starEach es X.env := by rfl) (hp : (backTo pos (starEach es X.env)).any (·.1) = false := by rfl) :
    L2N.PMk X (.Call (.Name x p) (e :: es) [] pos) (tMkO C sp [] ta) := by
  intro pins s σ H Q I h
  obtain ⟨_, _, _, _, bm, _, _, _, _, _, _, _, _, _, _, look, hbm⟩ := T.ox.cls
  refine wpAny_Call_Name_kw (ld_glob I hg hm ?_ hdb)
  refine PySem.W.callWith_K (h₀ := X.base) I.ok.mod.kin T.ox.kC (thn (ha.run pos pins s σ H _ I h) ?_) he hp
  rintro us ⟨h1, g, dr, tk, os⟩ ⟨vs, H1, J, rv, small, q⟩
  refine ⟨J.kIn, ?_⟩
  -- where the error will stand
  have big : h1.objs.size ≤ h1.objs.size + 1 := Nat.le_succ _
  have free : H1 (h1.objs.size + 1) = none := J.hok.fresh big
  have asked := q _ free
  rw [List.append_nil] at asked
  have grows : ∀ b o, h1.get? b = some o → ((h1.push (PySem.W.kdv_tup us)).push (PySem.HandSPX.excO C h1.objs.size)).get? b = some o := fun b o z =>
    Heap.get?_push_of_some _ (Heap.get?_push_of_some _ z)
  have there : ((h1.push (PySem.W.kdv_tup us)).push (PySem.HandSPX.excO C h1.objs.size)).get? (h1.objs.size + 1) = some (PySem.HandSPX.excO C h1.objs.size) := by heap_get
  have J2 := J.laid (t' := tk) (h' := (h1.push (PySem.W.kdv_tup us)).push (PySem.HandSPX.excO C h1.objs.size)) grows big (exo_ok there)
  have rv2 : Vals (V.ref (h1.objs.size + 1) :: vs) (Value.ref (h1.objs.size + 1) :: us) := .cons rfl rv
  have long : (Value.ref (h1.objs.size + 1) :: us ++ []).length = ps.length := by rw [List.append_nil, ← rv2.length]; exact FI.len _ _ _ _ asked
  have lus : us.length ≤ sizeLine := Nat.le_trans (Nat.le_of_eq (Paired.length rv).symm) (Nat.le_trans small (by decide))
  have bnd := hb _ (Value.ref (h1.objs.size + 1) :: us) J2.kIn long
  rw [List.append_nil] at bnd
  refine wpAny_call (PySem.HandSPX.call_own F.excBase_ValueError (fun Y => PySem.HandSPX.refsVE_contains Y bm hbm) (J.kIn _ _ look) (PySem.W.looks_findIn J.kIn T.iC)
    (fun self => PySem.W.bind_fn J.kIn self T.tI) lus (codeAny_mono (FnOk.run FI _ X.stack _ _ ⟨Value.ref (h1.objs.size + 1) :: us, []⟩ (Value.ref (h1.objs.size + 1) :: us) _ _ (fun _ _ _ => False) (hr.make C us []) (J2.env0.make C us []) bnd rv2 asked) ?_))
  intro r s' hq
  match r, hq with
  | .error er, hq => exact hx pins σ _ _ er s' J2 hq
  | .ok (.ret u), ⟨v, H2, o2, bare, un, ok2, rv3, ev, d, fs, ea, ed, hd, q2⟩ =>
    subst ev
    obtain ⟨h2, g2, d2, t2, os2⟩ := s'
    obtain ⟨t0, G, J3, kG, gone, obj, na⟩ := mk_end0 (d2 := d2) (t2 := t2) J big grows un ok2 o2 bare ea ed hd
    exact ⟨rv3, _, _, _, ⟨G, g2, d2, t2, os2⟩, _, .ref C, some d, rfl, J3, kG, gone, obj, ⟨rfl, rfl, fun vs hv => by cases hv; rfl⟩, rfl, rfl, na, rfl, bare, raises_own T.ox.exC T.ox.tyC, q2⟩
  | .ok .next, hq => exact hq.elim
  | .ok .brk, hq => exact hq.elim
  | .ok .cont, hq => exact hq.elim
/-! ### isinstance of the caught error -/
theorem getClass {prog : Program} {w : World} {A : Around} {E : Value → Shared → Prop} {s : Shared} {K : PySem.W.Frag} {x D : Addr} {ox : Obj} {od : Option Obj} {Q : Option Value → Shared → Prop} (C : ExcC K D) (X : K.In s.heap) (I : PySem.W.InstAt s.heap x ox D od)
    (h : Q (some (.ref D)) { s with toks := s.toks + 1 }) : wpAny (model prog w) A (getAttr? (.ref x) "__class__") Q E s := by
  have found : PySem.W.findObj K D od "__class__" = some (.bind (.builtin "getset_descriptor.__get__") (.builtin "object.__class__")) := by
    have hc : (PySem.W.clsIn K D).isSome = true := by
      have := C.hd
      unfold PySem.W.hasDictIn at this
      cases e : PySem.W.clsIn K D with
      | none => rw [e] at this; cases this
      | some cd => rfl
    obtain ⟨cd, hc⟩ := Option.isSome_iff_exists.mp hc
    unfold PySem.W.findObj
    rw [hc, Option.bind_some, C.ha, Option.bind_some]
    simp [C.hn, C.ht]
  obtain ⟨hp, g, d, t, os⟩ := s
  have ty := I.type (M := model prog w)
  have ga := PySem.W.looks_findIn (M := model prog w) X C.hg
  have gk := PySem.W.looks_findIn (M := model prog w) X C.hk
  have fi := PySem.W.looks_find (M := model prog w) X I found
  have isE : PySem.W.Looks (model prog w) hp (isInstance (.ref x) (.type "BaseException")) true := ty.andThen (PySem.W.looks_subIn X C.hs)
  have n1 : (false && onTheHeap (Value.builtin "BaseException.__getattribute__")) = false := rfl
  have n2 : (onTheHeap (Value.ref D) && Value.builtin "BaseException.__getattribute__" == Value.builtin "object.__getattribute__") = false := by
    rw [show (Value.builtin "BaseException.__getattribute__" == Value.builtin "object.__getattribute__") = false by decide +kernel]; rfl
  unfold getAttr? getAttrBy? getAttrBy
  refine wpAny_bind (wpAny_mkText (wpAny_bind (wpAny_attempt (wpAny_holding (wpAny_bind (ty.at (wpAny_bind (ga.at ?_))))))))
  change wpAny _ _ (if (onTheHeap (Value.ref D) && Value.builtin "BaseException.__getattribute__" == Value.builtin "object.__getattribute__") = true then _ else _) _ _ _
  rw [n2, if_neg Bool.false_ne_true]
  unfold getAttrByItsOwn hookBefore
  refine wpAny_bind ?_
  rw [if_pos (show onTheHeap (Value.ref D) = true from rfl)]
  refine gk.at (wpAny_bind (wpAny_attempt (wpAny_holding ?_)))
  unfold callGetattribute
  rw [n1, if_neg Bool.false_ne_true]
  unfold boundAndCalled
  rw [F.excAttr_ValueError.ga.bind (.ref x)]
  refine wpAny_bind (wpAny_pure ?_)
  change wpAny _ _ (call (.builtin "BaseException.__getattribute__") [.ref x, .str "__class__" t]) _ _ _
  refine wpAny_call (codeAny_call_builtin F.excAttr_ValueError.ga.plain F.entry_bexc_ga ?_)
  refine @PySem.W.check_slot (model prog w) _ _ ⟨hp, g, d, t + 1, os⟩ "BaseException.__getattribute__" "BaseException" "__getattribute__" (.ref x) [.str "__class__" t] [] _ (by decide +kernel) (by decide +kernel) isE (F.args_bexc_ga (.ref x) (.str "__class__" t)) ?_
  unfold Builtin.«object.__getattribute__»
  refine wpAny_bind (wpAny_of_eq (a := ((Value.ref x : Value), [Value.str "__class__" t])) (by first | rfl | (simp only [slotArgs]; rfl)) (wpAny_bind (wpAny_pure (wpAny_bind (ty.at (wpAny_bind (fi.at ?_)))))))
  change wpAny _ _ (holding [Value.builtin "object.__class__"] (call (.builtin "getset_descriptor.__get__") [.builtin "object.__class__", .ref x, .ref D]) >>= ret) _ _ _
  refine wpAny_bind (wpAny_holding (wpAny_call (PySem.W.class_get (s := ⟨hp, g, d, t + 1, os⟩) (ox := ox) (od := od) X I C.hm (wpAny_pure ?_))))
  change wpAny _ _ (handedOut (.ref D)) _ _ _
  rw [PySem.W.handedOut_of (v := .ref D) rfl]
  first
    | exact wpAny_pure (wpAny_pure h)
    | exact wpAny_pure h
    | exact wpAny_pure (wpAny_bind (wpAny_pure (wpAny_pure h)))
theorem kitE {K : PySem.W.Frag} {x D : Addr} {ox : Obj} {od : Option Obj} (C : ExcC K D) : PySem.W.KitX K (.ref x) (.ref D) (fun h => PySem.W.InstAt h x ox D od) where
  ty := fun _ _ _ I => I.type
  it := fun _ _ X _ => by
    have := C.hd
    unfold PySem.W.hasDictIn PySem.W.clsIn at this
    split at this
    · rename_i c' d' cd' sl' ho
      exact fun A' Q' E' s' k q => by
        unfold isType loadHead
        exact wpAny_bind (wpAny_loadPart (k _ _ (X _ _ ho)) (wpAny_pure q))
    · cases this
  ne := fun h tp dd its n sl X htp => by
    have := C.hd
    refine Bool.eq_false_iff.mpr fun q => ?_
    have e : D = tp := Value.ref.inj (beq_iff_eq.mp q)
    subst e
    unfold PySem.W.hasDictIn PySem.W.clsIn at this
    split at this
    · rename_i c' d' cd' sl' ho
      have z := (X _ _ ho).symm.trans htp
      cases z
    · cases this
  ca := fun X I q => getClass C X I q
/-- the error at a, of the class at D, has its dict -/
structure Caught (K : PySem.W.Frag) (H : Hp) (cls : Value) (d : Option Addr) (D : Addr) (fs : List (Str × V)) : Prop where
  cl : cls = .ref D
  ec : ExcC K D
  dt : ∃ dd, d = some dd ∧ H dd = some (.xd fs)
def rIsC (K : PySem.W.Frag) (a : Addr) (cls : Value) (d : Option Addr) : List V → Hp → VK → Prop := fun xs H Q => ∃ (c : V) (u : Value) (D : Addr) (fs : List (Str × V)) (b : Bool), xs = [.ref a, c] ∧ Caught K H cls d D fs ∧ ClsV c u ∧ PySem.W.kitOne K (.ref D) u = some b ∧ Q (.bl b) H
def rIsCT (K : PySem.W.Frag) (a : Addr) (cls : Value) (d : Option Addr) : List V → Hp → VK → Prop := fun xs H Q => ∃ (tp : Addr) (cs : List V) (us : List Value) (D : Addr) (fs : List (Str × V)) (b : Bool), xs = [.ref a, .ref tp] ∧ H tp = some (.tup cs) ∧ Caught K H cls d D fs ∧ Paired ClsV cs us ∧
  PySem.W.kitAny K (.ref D) us = some b ∧ Q (.bl b) H
section
variable {X : Cx} {a : Addr} {oe : Obj} {pn : List (Addr × Obj)} {cls : Value} {d : Option Addr}
theorem caught_at {pins : List (Addr × Obj)} {σ : L2.St} {H : Hp} {s : Shared} {D : Addr} {fs : List (Str × V)} (hz : Zc cls d oe) (hf : ∃ vs, oe.data = .fields vs) (I : Inv (X.suite a ((a, oe) :: pn)) pins σ H s) (c : Caught X.K H cls d D fs) : ∃ od, PySem.W.InstAt s.heap a oe D od := by
  obtain ⟨rfl, _, dd, rfl, hd⟩ := c
  obtain ⟨at_, _⟩ := I.pin (a, oe) (List.mem_append_left _ List.mem_cons_self)
  obtain ⟨vs, hv⟩ := hf
  obtain ⟨mA, hns, _⟩ : ObjOk X.prog X.w H s.heap dd (.xd fs) := I.hok dd _ hd
  obtain ⟨od, ho, _⟩ := lookIn_ns hns
  exact ⟨some od, at_, hz.1, by unfold PySem.W.notCls; rw [hv] <;> rfl, by rw [hz.2]; exact ho⟩
theorem call_isC (hz : Zc cls d oe) (hf : ∃ vs, oe.data = .fields vs) : CallR (X.suite a ((a, oe) :: pn)) (.builtin "isinstance") (rIsC X.K a cls d) := by
  intro pins s σ H xs us Q I r h
  obtain ⟨c, u, D, fs, b, rfl, ca, cv, e, q⟩ := h
  obtain ⟨u1, u2, rfl, r1, r2⟩ := vals2 r
  cases (show u1 = Value.ref a from r1)
  obtain rfl := cv.eq r2
  obtain ⟨od, J⟩ := caught_at hz hf I ca
  exact PySem.W.kia_one (kitE ca.ec) I.kIn J e (fun z => nomatch z) fun tk => ⟨.bl b, H, I.tok tk, rfl, q⟩
theorem call_isCT (hz : Zc cls d oe) (hf : ∃ vs, oe.data = .fields vs) : CallR (X.suite a ((a, oe) :: pn)) (.builtin "isinstance") (rIsCT X.K a cls d) := by
  intro pins s σ H xs us Q I r h
  obtain ⟨tp, cs, ws, D, fs, b, rfl, ht, ca, cv, e, q⟩ := h
  obtain ⟨u1, u2, rfl, r1, r2⟩ := vals2 r
  cases (show u1 = Value.ref a from r1)
  cases (show u2 = Value.ref tp from r2)
  obtain ⟨od, J⟩ := caught_at hz hf I ca
  obtain ⟨_, its, rv, o, h1, h2, n, h3⟩ : ObjOk X.prog X.w H s.heap tp (.tup cs) := I.hok tp _ ht
  obtain rfl := ClsV.all cv rv
  obtain ⟨oc, od, dt, sl⟩ := o
  dsimp only at h2 h3
  subst h2 h3
  exact PySem.W.kia_tup (kitE ca.ec) I.kIn J h1 e (fun z => nomatch z) fun tk => ⟨.bl b, H, I.tok tk, rfl, q⟩
theorem hot_suite (hz : L2N.Zn cls d oe) (hf : ∃ vs, oe.data = .fields vs) : L2H.HotC (X.suite a ((a, oe) :: pn)) := by
  obtain ⟨vs, hv⟩ := hf
  exact ⟨(a, oe), ⟨rfl, vs, hv, hz.2.2 vs hv⟩, List.mem_cons_self⟩
end
/-! ### calls that may raise, in a try: the wish may speak of the slots -/
def tCallLS (i : Nat) (f : Addr) (sp : Sp) (E : L2.St → XK) (t : TA) : TE := fun σ H Q => σ[i]? = some (some (.ref f)) ∧ t σ H fun vs H1 => sp vs H1 Q (E σ)
def tMethSS (C : Addr) (m : Str) (sp : Sp) (E : L2.St → XK) (ta : TE) (t : TA) : TE := fun σ H Q => ta σ H fun x H1 => ∃ a dx fs, x = .ref a ∧ H1 a = some (.ins C dx fs) ∧ fs.lookup m = none ∧ t σ H1 fun vs H2 => sp (x :: vs) H2 Q (E σ)
section
variable {X : Cx} {CX : CXT} {k i : Nat} {f C : Addr} {fd : FuncData} {ps : List Str} {sp : Sp} {E : L2.St → XK} {x m : Str} {p pos apos : Pos} {e o : Expr} {es : List Expr} {ta : TE} {t : TA}
theorem pe_callLS (F : FnOk X.prog X.w X.K X.mg X.base CX k f fd ps sp) (hr : Room k X.A) (hN : X.N[i]? = some x) (hv : Vis X.env.scope x) (hk : PySem.W.keepIn X.K (.ref f) = true) (hb : Binds X.K fd ps []) (hx : ∀ σ, PassesAt CX X σ (E σ)) (ha : PA X (e :: es) t)
    (hdb : (x == ("__debug__" : Str)) = false := by decide) (hcd : (x == ("__classdict__" : Str)) = false := by decide) (he : starEach (e :: es) X.env = (false, eval e X.env) :: starEach es X.env := by rfl) (hp : (backTo pos (starEach es X.env)).any (·.1) = false := by rfl) :
    PE X (.Call (.Name x p) (e :: es) [] pos) (tCallLS i f sp E t) := by
  refine ⟨fun pins s σ H Q I ⟨here, h⟩ => wpAny_Call_Name_kw (thn ((pe_var (pos := p) hN hv hdb hcd).run pins s σ H (fun v H1 => v = .ref f ∧ H1 = H) I ⟨.ref f, here, rfl, rfl⟩) ?_)⟩
  rintro u s1 ⟨v, H1, J, r, rfl, rfl⟩
  cases r
  refine PySem.W.callWith_K (h₀ := X.base) I.ok.mod.kin hk (thn (ha.run pos pins s1 σ _ _ J h) ?_) he hp
  rintro us s2 ⟨vs, H2, J2, r2, q⟩
  exact ⟨J2.kIn, run_fnS F hr hb (hx σ) J2 r2 q⟩
theorem pe_methSS {pl : Sem Bool} (he : PE X o ta) (c : Cls X.K C) (hm : Meth X.K C m f) (F : FnOk X.prog X.w X.K X.mg X.base CX k f fd ps sp) (hr : Room k X.A) (hb : Binds X.K fd ps []) (hx : ∀ σ, PassesAt CX X σ (E σ)) (ha : PA X (e :: es) t)
    (hs : starEach (e :: es) X.env = (false, eval e X.env) :: starEach es X.env := by rfl) (hp : (backTo pos (starEach es X.env)).any (·.1) = false := by rfl)
    (ht : eval (.Call (.Attribute o m apos) (e :: es) [] pos) X.env = (do
      let v ← eval o X.env
      standAt apos.atName
      let (g, own) ← holding [v] (getMethod v m pl)
      callWith pos g own (backTo pos (starEach (e :: es) X.env)) (backToKw pos (keywordEach [] X.env))) := by rfl) :
    PE X (.Call (.Attribute o m apos) (e :: es) [] pos) (tMethSS C m sp E ta t) := by
  refine ⟨fun pins s σ H Q I h => PySem.W.methodCall_KW (pl := pl) (thn (he.run pins s σ H _ I h) ?_) ht⟩
  rintro u s1 ⟨x, H1, J, rx, a, dx, fs, rfl, ea, l, q⟩
  cases rx
  refine getmeth_ok J ea c hm l (PySem.W.callWith_K (first := [.ref a]) (h₀ := X.base) I.ok.mod.kin hm.kp (thn (ha.run pos pins s1 σ H1 _ J q) ?_) hs hp)
  rintro us s2 ⟨vs, H2, J2, r, q2⟩
  exact ⟨J2.kIn, run_fnS (us := .ref a :: us) (vs := .ref a :: vs) F hr hb (hx σ) J2 (.cons rfl r) q2⟩
theorem pe_methSS0 {pl : Sem Bool} (he : PE X o ta) (c : Cls X.K C) (hm : Meth X.K C m f) (F : FnOk X.prog X.w X.K X.mg X.base CX k f fd ps sp) (hr : Room k X.A) (hb : Binds X.K fd ps []) (hx : ∀ σ, PassesAt CX X σ (E σ))
    (ht : eval (.Call (.Attribute o m apos) [] [] pos) X.env = (do
      let v ← eval o X.env
      standAt apos.atName
      let (g, own) ← holding [v] (getMethod v m pl)
      callWith pos g own (backTo pos (starEach [] X.env)) (backToKw pos (keywordEach [] X.env))) := by rfl) :
    PE X (.Call (.Attribute o m apos) [] [] pos) (tMethSS C m sp E ta tNil) := by
  refine ⟨fun pins s σ H Q I h => PySem.W.methodCall_KW (pl := pl) (thn (he.run pins s σ H _ I h) ?_) ht⟩
  rintro u s1 ⟨x, H1, J, rx, a, dx, fs, rfl, ea, l, q⟩
  cases rx
  exact getmeth_ok J ea c hm l (PySem.W.callWith_K0 (first := [.ref a]) J.kIn hm.kp (run_fnS (us := [.ref a]) (vs := [.ref a]) F hr hb (hx σ) J (.cons rfl .nil) q))
end
/-! ### the heap behind a raise -/
theorem Ext.del {T : List Addr} {M : Addr → Prop} {H H' : Hp} {a : Addr} (e : Ext T M H H') (n : H a = none) (nt : ∀ ps, H' a ≠ some (.tbl ps)) : Ext T M H (L2.del H' a) := by
  refine ⟨fun b o m h nn => ?_, fun P hP hg => ?_, fun b h => ?_⟩
  · rw [del_ne (fun z => by rw [z, n] at h; cases h)]
    exact e.kp b o m h nn
  · obtain ⟨ps, hp, ht⟩ := e.tb P hP hg
    refine ⟨ps, ?_, ht⟩
    rw [del_ne fun z => nt ps (by rw [← z]; exact hp)]
    exact hp
  · by_cases hb : b = a
    · rw [hb]; exact n
    · rw [del_ne hb] at h
      exact e.fr b h
/-- what is told of a raised error: its field, and what is kept -/
def Raised (T : List Addr) (M : Addr → Prop) (C : Addr) (fld : Str) (v : V) (H : Hp) (E : XK) : Prop := ∀ (d : Addr) (fs : List (Str × V)) (H' : Hp), H d = none → H' d = some (.xd fs) → fs.lookup fld = some v → Ext T M H H' → E (.ref C) (some d) H'
theorem Raised.after {T : List Addr} {C : Addr} {fld : Str} {v : V} {H H1 : Hp} {E : XK} (h : Raised T noM C fld v H E) (e : Ext T noM H H1) : Raised T noM C fld v H1 E := fun d fs H' h1 h2 h3 h4 => h d fs H' (e.fr d h1) h2 h3 (e.trans h4)
/-- what an own __init__ promises: the object at its first argument gets a dict with the field -/
def spXInit (K : PySem.W.Frag) (T : List Addr) (C : Addr) (fld : Str) : Sp := fun vs H Q _ => ∃ (a : Addr) (v : V), vs = [.ref a, v] ∧ H a = some (exo a C none) ∧ (∃ n : Int, v = .int n ∧ n.natAbs < 1000000) ∧ ∀ d H', H' a = some (exo a C (some d)) → H' d = some (exd d [(fld, v)]) → H d = none → Ext T (fun b => b = a) H H' → Q .non H'
end GE

set_option Elab.async false
set_option linter.all false
set_option maxRecDepth 100000
set_option maxHeartbeats 4000000
namespace GE
open PySem PySem.Spec PyProof.Rows L2 Mw
theorem fnH_mono {P : Program} {w : World} {K : PySem.W.Frag} {mg : Str → Option Value} {base : Heap} {CX : CXT} {j k : Nat} {f : Addr} {fd : FuncData} {ps : List Str} {sp : Sp} (F : L2H.FnH P w K mg base CX j f fd ps sp) (h : j ≤ k) : L2H.FnH P w K mg base CX k f fd ps sp :=
  ⟨F.len, fun A outer s H args us vs Q E p hr => F.run A outer s H args us vs Q E p (hr.mono h)⟩
theorem pss_no {X : Cx} {st : List Stmt} : PSs X st (fun _ _ _ => False) := ⟨fun _ _ _ _ _ _ h => h.elim⟩
theorem takesN0 {X : Cx} : L2N.Takes X (fun _ _ _ _ => False) := fun _ _ ⟨_, _, _, _, _, _, _, _, _, _, _, _, _, _, _, _, z⟩ => z.elim
/-- a caught error's dict, with its field -/
theorem Caught.mk' {K : PySem.W.Frag} {H : Hp} {D d fI : Addr} {fs : List (Str × V)} {fld : Str} (x : Xc K D fI fld) (h : H d = some (.xd fs)) : Caught K H (.ref D) (some d) D fs := ⟨rfl, x.xc, d, rfl, h⟩
theorem kit_self {K : PySem.W.Frag} {c : Value} : PySem.W.kitOne K c c = some true := by unfold PySem.W.kitOne; rw [if_pos (beq_self_eq_true c)]
theorem kit_none2 {K : PySem.W.Frag} {t c1 c2 : Value} (h1 : PySem.W.kitOne K t c1 = some false) (h2 : PySem.W.kitOne K t c2 = some false) : PySem.W.kitAny K t [c1, c2] = some false :=
  kitAny_cons h1 (fun _ => kitAny_cons h2 (fun _ => rfl) fun z => nomatch z) fun z => nomatch z
/-- what the field of an own error may be -/
inductive FldOk : V → Prop
  | i (n : Nat) (h : n ≤ 100000) : FldOk (.int (n : Nat))
  | s (y : Str) (h : y.length ≤ 100) : FldOk (.str y)
/-- the promise of an own error's __init__ -/
def spXI (K : PySem.W.Frag) (T : List Addr) (C : Addr) (fld : Str) : Sp := fun vs H Q _ => ∃ (a : Addr) (v : V), vs = [.ref a, v] ∧ H a = some (exo a C none) ∧ FldOk v ∧
  ∀ d H', H' a = some (exo a C (some d)) → H' d = some (exd d [(fld, v)]) → H d = none → Ext T (fun b => b = a) H H' → Q .non H'
theorem exo_tbl' {a C : Addr} {d : Option Addr} : ∀ ps, exo a C d ≠ .tbl ps := fun ps => exo_tbl
theorem exd_tb {e : Addr} {fs : List (Str × V)} : ∀ ps, exd e fs ≠ .tbl ps := fun ps z => by
  have y : HO.ext _ = HO.tbl ps := z
  cases y
/-- the end of a raise -/
theorem raised_mk {K : PySem.W.Frag} {T : List Addr} {C : Addr} {fld : Str} {v : V} {H : Hp} {E : XK} (fv : FldOk v) (h : Raised T noM C fld v H E) : ∀ a, H a = none → spXI K T C fld (V.ref a :: ([v] ++ [])) (upd H a (exo a C none))
    (fun r H2 => r = .non ∧ ∃ (d : Addr) (fs : List (Str × V)), H2 a = some (exo a C (some d)) ∧ H2 d = some (exd d fs) ∧ H d = none ∧ E (.ref C) (some d) (upd (L2.del H2 a) d (.xd fs))) (fun _ _ _ => False) := by
  intro a na
  refine ⟨a, v, rfl, upd_same, fv, fun d H' ha hd nd e => ?_⟩
  have hda : d ≠ a := fun z => by rw [z, upd_same] at nd; cases nd
  rw [upd_ne hda] at nd
  refine ⟨rfl, d, _, ha, hd, nd, ?_⟩
  have e1 : Ext T noM H H' := by
    have x0 : Ext T noM H (upd H a (exo a C none)) := Ext.new na
    refine ⟨fun b o _ hb nt => ?_, fun P hP hg => e.tb P hP (x0.tb P hP hg), fun b hb => x0.fr b (e.fr b hb)⟩
    have hba : b ≠ a := fun z => by rw [z, na] at hb; cases hb
    exact e.kp b o hba (by rw [upd_ne hba]; exact hb) nt
  have e2 := e1.del na fun ps z => exo_tbl' ps (Option.some.inj (ha.symm.trans z))
  have ed : L2.del H' a d = some (exd d [(fld, v)]) := by rw [del_ne hda]; exact hd
  exact h d _ _ nd upd_same (by simp [List.lookup]) (e2.mut (.inl nd) ed exd_tb)
/-- the reading of self.fld = v in the __init__ -/
theorem xi_store {K : PySem.W.Frag} {T : List Addr} {C fI a : Addr} {fld : Str} {v : V} {H : Hp} {σ : L2.St} {D : Ends} {to te : TE} (x : Xc K C fI fld) (ha : H a = some (exo a C none)) (h1 : ∀ R : V → Hp → Prop, R v H → te σ H R) (h2 : ∀ R : V → Hp → Prop, R (.ref a) H → to σ H R)
    (k : ∀ d H', H' a = some (exo a C (some d)) → H' d = some (exd d [(fld, v)]) → H d = none → Ext T (fun b => b = a) H H' → D.nx σ H') : tOst K fld to te D σ H := by
  refine h1 _ (h2 _ ⟨a, C, rfl, x.ox, x.no, .inl ⟨ha, fun dx nd ne => ?_⟩⟩)
  refine k dx _ upd_same ?_ nd ?_
  · rw [upd_ne ne]; exact upd_same
  · have e1 : Ext T (fun b => b = a) H (upd H dx (exd dx [(fld, v)])) := Ext.new nd
    exact e1.mut (.inr rfl) (by rw [upd_ne (Ne.symm ne)]; exact ha) exo_tbl'
/-- a text with something written into it -/
theorem sl_1000 {n : Nat} (h : n ≤ 1000) : n ≤ sizeLine := Nat.le_trans h (by decide)
theorem ln_app' (a b : Str) : (a ++ b).length = a.length + b.length := by rw [ln_ch, ln_ch a, ln_ch b, show chs_ (a ++ b) = chs_ a ++ chs_ b from TL.tl_append a b, List.length_append]
theorem fmt_ok {v : V} {H : Hp} {Q : V → Hp → Prop} (f : FldOk v) (k : ∀ y : Str, y.length ≤ 100 → Q (.str y) H) : (∃ y : Str, v = .str y ∧ y.length ≤ sizeLine ∧ Q (.str y) H) ∨ ∃ i : Int, v = .int i ∧ i.natAbs.log2 < 1920 ∧ Q (.str (toString i)) H := by
  cases f with
  | i n h =>
    refine .inr ⟨_, rfl, ?_, k _ ?_⟩
    · rw [Int.natAbs_natCast]
      by_cases h0 : n = 0
      · subst h0; decide
      · exact Nat.lt_of_lt_of_le ((Nat.log2_lt h0).mpr (show n < 2 ^ 17 by omega)) (by decide)
    · have e : (Str.ofString (toString ((n : Nat) : Int))).length = (TL.numL n).length := by rw [ln_ch]; exact congrArg List.length (ch_nm n)
      have := TL.numL_len (n := n) (k := 6) (by decide) (by omega)
      show (Str.ofString (toString ((n : Nat) : Int))).length ≤ 100
      omega
  | s y h => exact .inl ⟨y, rfl, Nat.le_trans h (by decide), k y h⟩
theorem fmt_rd {te : TE} {σ : L2.St} {H : Hp} {Q : V → Hp → Prop} {v : V} (f : FldOk v) (h : ∀ R : V → Hp → Prop, R v H → te σ H R) (k : ∀ y : Str, y.length ≤ 100 → Q (.str y) H) : tFmt te σ H Q := h _ (fmt_ok f k)
end GE

set_option Elab.async false
set_option linter.all false
set_option maxRecDepth 100000
set_option maxHeartbeats 4000000
namespace Mw
open PySem PySem.Spec PyProof.Rows L2 GE
def spReadX (K : PySem.W.Frag) (T : List Addr) (C : Addr) : Sp := fun vs H Q E => ∃ (text : Str), vs = [.str text] ∧ text.length ≤ 90000 ∧ (∀ j, outT text = .inl j → Raised T noM C "line" (.int (j : Nat)) H E) ∧
  ∀ n ws ps, outT text = .inr (some n, ws, ps) → ∀ v H', Rp H' (tskD n ws ps) v → Ext T noM H H' → Q v H'
theorem run_good {L : List Str} {r : RS} (h : runB r0 0 L = .inr r) (hne : L ≠ []) : ∃ n, r.1 = some n := by
  have G := good_run good0 h
  rw [List.nil_append] at G
  cases e : r.1 with
  | none => exact absurd (G.at0 e).1 hne
  | some n => exact ⟨n, rfl⟩
theorem lines_ne (text : Str) : linesT text ≠ [] := by
  obtain ⟨A, b, hs⟩ := split_last text
  unfold linesT
  rw [hs]
  split
  · simp
  · rename_i c
    intro z
    exact c (.inr z)
theorem lines_ln (text : Str) : (linesT text).length ≤ text.length + 1 ∧ ∀ l ∈ linesT text, l.length ≤ text.length := by
  obtain ⟨h1, h2⟩ := split_len (x := text) ch_nl
  unfold linesT
  split
  · exact ⟨h1, h2⟩
  · exact ⟨by rw [List.length_dropLast]; omega, fun l hl => h2 l (List.dropLast_subset _ hl)⟩
theorem str_at {ls : List Str} {i : Nat} {v : V} (h : (ls.map V.str)[i]? = some v) : ∃ l, ls[i]? = some l ∧ v = V.str l := by
  rw [List.getElem?_map] at h
  cases e : ls[i]? with
  | none => rw [e] at h; cases h
  | some c => rw [e] at h; exact ⟨c, rfl, (Option.some.inj h).symm⟩
section
variable {P : Program} {w : World} {K : PySem.W.Frag} {mg : Str → Option Value} {base : Heap} {T : List Addr} {aC aBadText : Addr}
theorem ok_BadText___init__ {f : Addr} {fd : FuncData} (F : Fun K "__init__" "BadText.__init__" sBadText___init__ f fd) {aMoatError : Addr} (gMoatError : mg "MoatError" = some (.ref aMoatError)) (BMoatError : GE.Xb K aMoatError) {fI : Addr} (XBadText : GE.Xc K aBadText fI "line") : FnOk P w K mg base CX0 1 f fd ["self", "line"] (GE.spXI K T aBadText "line") := by
  refine F.ok scBadText___init__ (fun vs H Q E h => ?_) (fun cdv A outer s H vs Q E hr h => ?_)
  · obtain ⟨a, v, rfl, ha, hv, k⟩ := h
    rfl
  · obtain ⟨a, v, rfl, ha, hv, k⟩ := h
    refine ⟨_, (pss_cons (ps_expr (GE.pe_binit BMoatError (by rfl) gMoatError (pa_cons (pv 0) (pa_cons (GE.pe_js (PJ.cons pe_str (PJ.cons (pe_fmt (pv 1)) (PJ.cons pe_str PJ.nil)))) pa_nil))))
      (pss_one (ps_ost (pv 0) (pv 1)))), ?_⟩
    refine ⟨_, rfl, _, rfl, (by simp only [ln_app']; exact sl_1000 (by decide)), ?_⟩
    refine fmt_rd hv (fun R r => ⟨_, rfl, r⟩) fun y hy => ?_
    refine ⟨_, rfl, (by simp only [ln_app']; refine sl_1000 ?_; have : ("line " : Str).length = 5 := rfl; have h0 : Str.empty.length = 0 := rfl; omega), ?_⟩
    refine ⟨_, rfl, (by simp only [ln_app']; refine sl_1000 ?_; have : ("line " : Str).length = 5 := rfl; have h0 : Str.empty.length = 0 := rfl; have h1 : (" cannot stand here" : Str).length = 18 := rfl; omega), ?_⟩
    refine ⟨a, aBadText, _, rfl, by show 1 ≤ 1000; decide, XBadText.ox, ha, ?_⟩
    show tOst K "line" (tVar 0) (tVar 1) _ _ _
    exact xi_store XBadText ha (fun R r => ⟨_, rfl, r⟩) (fun R r => ⟨_, rfl, r⟩) k
theorem okX_read_task {f : Addr} {fd : FuncData} (F : Fun K "read_task" "read_task" sread_task f fd) (m_enumerate : mg "enumerate" = none) (m_tuple : mg "tuple" = none) (m_len : mg "len" = none) {aBadText : Addr} (gBadText : mg "BadText" = some (.ref aBadText)) {fReader___init__ : Addr} {fdReader___init__ : FuncData} (FReader___init__ : Fun K "__init__" "Reader.__init__" sReader___init__ fReader___init__ fdReader___init__) (GReader___init__ : FnOk P w K mg base CX0 4 fReader___init__ fdReader___init__ ["self"] (spRInit K T aC)) (bReader___init__ : Binds K fdReader___init__ ["self"] []) (MReader : Mk K aC fReader___init__) {fBadText___init__ : Addr} {fdBadText___init__ : FuncData} (FBadText___init__ : Fun K "__init__" "BadText.__init__" sBadText___init__ fBadText___init__ fdBadText___init__) (GBadText___init__ : FnOk P w K mg base CX0 4 fBadText___init__ fdBadText___init__ ["self", "line"] (GE.spXI K T aBadText "line")) (bBadText___init__ : Binds K fdBadText___init__ ["self", "line"] []) (XBadText : GE.Xc K aBadText fBadText___init__ "line") {fReader_takes : Addr} {fdReader_takes : FuncData} (FReader_takes : Fun K "takes" "Reader.takes" sReader_takes fReader_takes fdReader_takes) (GReader_takes : FnOk P w K mg base CX0 5 fReader_takes fdReader_takes ["self", "line"] (spRTakes K T aC)) (bReader_takes : Binds K fdReader_takes ["self", "line"] []) (mmReader_takes : Meth K aC "takes" fReader_takes) (fx : RTx K aC) (gReader : mg "Reader" = some (.ref aC)) : FnOk P w K mg base (GE.CXn P w) 6 f fd ["text"] (spReadX K T aBadText) := by
  refine GE.funN F scread_task (fun vs H Q E h => ?_) (fun cdv A outer s H vs Q E hr h => ?_)
  · obtain ⟨text, rfl, hlen, kr, k⟩ := h
    rfl
  · obtain ⟨text, rfl, hlen, kr, k⟩ := h
    refine ⟨_, (pss_cons (ps_set (i := 1) scread_task.nd rfl (Or.inl rfl) (pe_split (pv 0) pe_str))
      (pss_cons (ps_set (i := 2) scread_task.nd rfl (Or.inl rfl) (pe_bm0 PySem.F.plainAttrs_list PySem.F.slot_list_pop PySem.F.type_list_pop mt_pop (pv 1)))
      (Evl.pss_cut (ps_if (PW.pt (pw_or (pt_cmpR op_ne (pv 2) pe_str (nomark _)) (pw_or1 (pt_not (pt_truth (pv 1) (by intro _; rfl)))))) (pss_one (ps_expr (pe_bm PySem.F.plainAttrs_list PySem.F.slot_list_append PySem.F.type_list_append mt_append (pv 1) (pa_cons (pv 2) pa_nil)))) pss_nil)
      (pss_cons (ps_set (i := 3) scread_task.nd rfl (Or.inl rfl) (pe_make0 MReader GReader___init__ hr (by rfl) gReader bReader___init__ .nil pass0))
      (pss_cons (ps_for (passes_of rfl) rfl (GE.pi_enum1 (by rfl) m_enumerate (pa_cons (pv 1) pa_nil)) (pg_tup (by rfl) (pgs_cons (pg_name (i := 4) scread_task.nd rfl (Or.inl rfl)) (pgs_cons (pg_name (i := 5) scread_task.nd rfl (Or.inl rfl)) pgs_nil))) (pss_one (ps_if (pt_not (pt_val (pe_meth (pv 3) fx.cl mmReader_takes GReader_takes hr bReader_takes .nil pass0 (pa_cons (pv 5) pa_nil)))) (pss_one (L2N.ps_raise rfl (L2N.takes_of rfl rfl rfl rfl) (GE.pmkN XBadText GBadText___init__ hr bBadText___init__ pass0 (by rfl) gBadText (pa_cons (pv 4) pa_nil)))) pss_nil)))
      (pss_cons (ps_if (pt_cmpR op_ne (pv 2) pe_str (nomark _)) (pss_one (L2N.ps_raise rfl (L2N.takes_of rfl rfl rfl rfl) (GE.pmkN XBadText GBadText___init__ hr bBadText___init__ pass0 (by rfl) gBadText (pa_cons (pe_callB call_len_seq (by rfl) m_len PySem.boot_len (pa_cons (pv 1) pa_nil)) pa_nil)))) pss_nil)
      (pss_one (ps_ret (pe_tup (pa_cons (pe_tup (pa_cons (pe_fld (pv 3) rfl) (pa_cons (pe_callTy call_tuple_of (by rfl) m_tuple (by decide +kernel) (pa_cons (pe_fld (pv 3) rfl) pa_nil)) pa_nil))) (pa_cons (pe_callTy call_tuple_of (by rfl) m_tuple (by decide +kernel) (pa_cons (pe_fld (pv 3) rfl) pa_nil)) pa_nil))))))))))), ?_⟩
    obtain ⟨A, b, hs⟩ := split_last text
    obtain ⟨hL1, hL2⟩ := lines_ln text
    have hrest : restT text = b := by unfold restT; rw [hs]; simp
    have hAl : A.length ≤ text.length := by
      have := (split_len (x := text) ch_nl).1
      rw [hs, List.length_append, List.length_singleton] at this
      omega
    have big : ∀ z : Nat, z ≤ 100000 → z < sizeLine := fun z hz => Nat.lt_of_le_of_lt hz (by decide)
    refine ⟨_, rfl, ⟨_, rfl⟩, text, "\n", rfl, rfl, by decide, Nat.le_trans (show _ ≤ 100000 by omega) (by decide), fun wl hwl => ?_⟩
    rw [hs, List.map_append, show [b].map V.str = [V.str b] from rfl]
    have e1 : Ext T noM H (upd H wl (.lst (A.map V.str ++ [.str b]))) := Ext.new hwl
    have h1 : (upd H wl (.lst (A.map V.str ++ [.str b]))) wl = some (.lst (A.map V.str ++ [.str b])) := upd_same
    have e2 : Ext T noM H (upd (upd H wl (.lst (A.map V.str ++ [.str b]))) wl (.lst (A.map V.str))) := e1.mut (.inl hwl) h1 ltbl
    refine ⟨_, rfl, .inl ⟨rfl, _, SqL.of h1⟩, wl, _, .str b, rfl, rfl, h1, ?_, ?_⟩
    · rw [List.length_append, List.length_singleton, Nat.add_sub_cancel, List.getElem?_append_right (Nat.le_refl _), Nat.sub_self]; rfl
    rw [List.dropLast_concat]
    have h2 : (upd (upd H wl (.lst (A.map V.str ++ [.str b]))) wl (.lst (A.map V.str))) wl = some (.lst (A.map V.str)) := upd_same
    generalize (upd (upd H wl (.lst (A.map V.str ++ [.str b]))) wl (.lst (A.map V.str))) = H1 at e2 h2 ⊢
    dsimp only [gName]
    refine ⟨fun σ' H' => σ' = [some (.str text), some (.ref wl), some (.str b), none, none, none] ∧ H' wl = some (.lst ((linesT text).map V.str)) ∧ Ext T noM H H', ?_, ?_⟩
    · refine ev_if (ev_or (b := !!(A.map V.str).isEmpty) (fun Q h => ⟨_, rfl, rfl, _, rfl, h⟩) fun _ => fun Q h => ⟨_, rfl, _, .inl ⟨_, SqL.of h2, rfl⟩, h⟩) (fun c => ?_) (fun c => ?_)
      · refine ⟨_, rfl, .inl ⟨rfl, _, SqL.of h2⟩, _, rfl, wl, _, _, rfl, rfl, h2, big _ (by rw [List.length_map]; omega), rfl, ?_, e2.mut (.inl hwl) h2 ltbl⟩
        have hL : linesT text = A ++ [b] := by
          unfold linesT
          rw [hs]
          refine if_pos ?_
          rw [Bool.or_eq_true] at c
          rcases c with c | c
          · left
            rw [List.getLastD_concat]
            intro z
            subst z
            revert c
            decide
          · right
            rw [List.dropLast_concat]
            cases A with
            | nil => rfl
            | cons x r => cases c
        rw [upd_same, hL, List.map_append]; rfl
      · refine ⟨rfl, ?_, e2⟩
        rw [Bool.or_eq_false_iff] at c
        obtain ⟨c1, c2⟩ := c
        have hL : linesT text = A := by
          unfold linesT
          rw [hs]
          rw [if_neg, List.dropLast_concat]
          rintro (z | z)
          · rw [List.getLastD_concat] at z
            have hb : ¬ V.str b = V.str "" := fun y => z (V.str.inj y)
            rw [decide_eq_false hb] at c1
            cases c1
          · rw [List.dropLast_concat] at z
            rw [z] at c2; cases c2
        rw [h2, hL]
    rintro σ' H2 ⟨rfl, h2, e2⟩
    refine fun x dx nx ndx nex => ?_
    have nxd : (upd H2 dx (.own x)) x = none := by rw [upd_ne (by first | exact nex | exact fun z => nex z.symm)]; exact nx
    have e3 : Ext T noM H2 (upd (upd H2 dx (.own x)) x (.ins aC dx [])) := (Ext.new ndx).trans (Ext.new nxd)
    refine ⟨x, dx, rfl, upd_same, fun lw lp H3 R3 nlw nlp e4 => ⟨rfl, ?_⟩⟩
    have hM : ∀ b, RM x lw lp b → H2 b = none := fun b hb => by
      rcases hb with z | z | z
      · rw [z]; exact nx
      · rw [z]; exact e3.fr lw nlw
      · rw [z]; exact e3.fr lp nlp
    have d2 : Ext T noM H2 H3 := e3.drop e4 fun b hb => by rw [hb]; exact nx
    refine ⟨_, rfl, wl, _, rfl, SqL.of (d2.lst (fun z => z) h2), ?_⟩
    refine for_it (n := ((linesT text).map V.str).length) walk_enum1 (fun i σ' H' => ∃ y4 y5 r, σ' = [some (.str text), some (.ref wl), some (.str b), some (.ref x), y4, y5] ∧ runB r0 0 ((linesT text).take i) = .inr r ∧ RdAt K aC H' x lw lp r.1 r.2.1 r.2.2 ∧ Ext T noM H2 H') ⟨none, none, r0, rfl, rfl, R3, d2⟩ (fun i σ' H' _ ⟨_, _, _, _, _, _, e⟩ => SqL.of (e.lst (fun z => z) h2)) ?_ ?_
    · rintro i v σ' H3 H4 hi ⟨y4, y5, r, rfl, hr3, R3, e5⟩ ⟨Tq, x1, x2, rfl, hT, rfl, h1', h2'⟩
      obtain rfl := Option.some.inj h1'
      obtain ⟨l, hl, rfl⟩ := str_at (show ((linesT text).map V.str)[i]? = some x2 from h2')
      have hil := (List.getElem?_eq_some_iff.mp hl).1
      have e6 : Ext T noM H3 (upd H3 Tq (.tup [.int ((i + 1 : Nat) : Int), .str l])) := Ext.new hT
      have R4 := R3.x e6
      obtain ⟨dx4, hob4⟩ := R4.ob
      refine ⟨Tq, _, rfl, SqT.of upd_same, rfl, _, _, rfl, _, _, rfl, rfl, ?_⟩
      refine ⟨_, rfl, x, dx4, _, rfl, hob4, by rfl, _, rfl, x, lw, lp, l, r, rfl, R4, ?_, fun H5 r' er R5 e7 => ?_⟩
      · have := hL2 l (List.mem_of_getElem? hl); omega
      have e8 := (e5.trans e6).drop e7 hM
      cases hq : lineT r l with
      | none =>
        rw [hq] at er
        refine ⟨_, rfl, ?_⟩
        refine iteT ?_
        refine ⟨_, rfl, by show 1 ≤ 1000; decide, raised_mk (.i (i + 1) (by omega)) ((kr (i + 1) ?_).after (e2.trans e8))⟩
        unfold outT
        rw [runB_fail hr3 hl hq]
      | some q' =>
        rw [hq] at er
        have er : r' = q' := er
        subst er
        exact ⟨_, rfl, iteF ⟨_, _, r', rfl, runB_step hr3 hl hq, R5, e8⟩⟩
    · rintro σ' H3 ⟨y4, y5, r, rfl, hr3, R3, e5⟩
      rw [List.length_map, List.take_length] at hr3
      dsimp only
      have h23 := e5.lst (fun z => z) h2
      refine ev_if (fun Q h => ⟨_, rfl, rfl, _, rfl, h⟩) (fun c => ?_) (fun c => ?_)
      · have hb : ¬ b = Str.empty := fun z => by subst z; revert c; decide
        refine ⟨_, rfl, wl, _, rfl, .inl (SqL.of h23), by show 1 ≤ 1000; decide, ?_⟩
        rw [List.length_map]
        refine raised_mk (.i (linesT text).length (by omega)) ((kr _ ?_).after (e2.trans e5))
        unfold outT
        rw [hr3]
        show (if restT text = Str.empty then _ else _) = _
        rw [hrest, if_neg hb]
      · have hb : b = Str.empty := Classical.byContradiction fun z => by
          have hb : ¬ V.str b = V.str "" := fun y => z (V.str.inj y)
          rw [decide_eq_false hb] at c
          cases c
        obtain ⟨n, hn⟩ := run_good hr3 (lines_ne text)
        obtain ⟨pl, ws, ps⟩ := r
        have hn : pl = some n := hn
        subst hn
        have k := k n ws ps (by unfold outT; rw [hr3]; show (if restT text = Str.empty then _ else _) = _; rw [hrest, if_pos hb])
        obtain ⟨dx3, hob3⟩ := R3.ob
        obtain ⟨us, hu, hus⟩ := R3.wy
        obtain ⟨vs, hv, hvs⟩ := R3.pr
        refine ⟨_, rfl, x, aC, dx3, _, _, rfl, hob3, fx.cl, fx.n_places, rfl, _, rfl, x, aC, dx3, _, _, rfl, hob3, fx.cl, fx.n_ways, rfl, lw, us, rfl, .inl ⟨SqL.of hu, fun ta ha => ?_⟩⟩
        have a1 : Ext T noM H3 (upd H3 ta (.tup us)) := Ext.new ha
        have ha1 : (upd H3 ta (.tup us)) ta = some (.tup us) := upd_same
        have R4 := R3.x a1
        generalize (upd H3 ta (.tup us)) = H4 at a1 ha1 R4 ⊢
        refine ⟨by show 2 ≤ sizeLine; decide, fun tb hb => ?_⟩
        have a2 : Ext T noM H4 (upd H4 tb (.tup [.int (n : Nat), .ref ta])) := Ext.new hb
        have hb2 : (upd H4 tb (.tup [.int (n : Nat), .ref ta])) tb = some (.tup [.int (n : Nat), .ref ta]) := upd_same
        have R5 := R4.x a2
        have a12 := a1.trans a2
        rw [show oV (some n, ws, ps).1 = V.int (n : Nat) from rfl]
        generalize (upd H4 tb (.tup [.int (n : Nat), .ref ta])) = H5 at a2 hb2 R5 a12 ⊢
        obtain ⟨dx5, hob5⟩ := R5.ob
        have hv5 := a12.lst (fun z => z) hv
        refine ⟨_, rfl, x, aC, dx5, _, _, rfl, hob5, fx.cl, fx.n_pairs, rfl, lp, vs, rfl, .inl ⟨SqL.of hv5, fun tc hc => ?_⟩⟩
        have a3 : Ext T noM H5 (upd H5 tc (.tup vs)) := Ext.new hc
        have hc3 : (upd H5 tc (.tup vs)) tc = some (.tup vs) := upd_same
        generalize (upd H5 tc (.tup vs)) = H6 at a3 hc3 ⊢
        refine ⟨by show 2 ≤ sizeLine; decide, fun td hd => ?_⟩
        have a4 : Ext T noM H6 (upd H6 td (.tup [.ref tb, .ref tc])) := Ext.new hd
        have a34 := a3.trans a4
        have hus6 := RpL.x (a12.trans a34) hus
        have hvs6 := RpL.x (a12.trans a34) hvs
        exact k _ _ (rp_t upd_same (rpl_cons (rp_t (a34.tup (fun z => z) hb2) (rpl_cons (rp_i _) (rpl_cons (rp_t ((a2.trans a34).tup (fun z => z) ha1) hus6) rpl_nil))) (rpl_cons (rp_t (a4.tup (fun z => z) hc3) hvs6) rpl_nil))) (e2.trans (e5.trans (a12.trans a34)))
end
end Mw

set_option Elab.async false
set_option linter.all false
set_option maxRecDepth 100000
set_option maxHeartbeats 4000000
namespace GE
open PySem PySem.Spec PyProof.Rows L2
theorem fold_len {x : Array Nat} : ∀ (k : Nat) (a : Array Nat), ((List.replicate k x).foldl (· ++ ·) a).size = a.size + k * x.size
  | 0, a => by simp
  | k + 1, a => by
    rw [List.replicate_succ, List.foldl_cons, fold_len k, Array.size_append, Nat.add_mul, Nat.one_mul]
    omega
/-- a text times a number: its length is told -/
def rRepS : V → V → Hp → VK → Prop := fun x y H Q => ∃ (z : Str) (k : Nat), x = .str z ∧ y = .int (k : Nat) ∧ 2 ≤ k ∧ k ≤ 10000 ∧ 1 ≤ z.length ∧ z.length ≤ 1000 ∧ ∀ w : Str, w.length = k * z.length → Q (.str w) H
theorem op_repS {X : Cx} : OpR X (binaryOp .Mult) rRepS := by
  intro pins s σ H x y v u Q I rx ry h
  obtain ⟨z, k, rfl, rfl, h2, hk, h1, hz, q⟩ := h
  obtain ⟨t, rfl⟩ := rx
  obtain ⟨t', rfl⟩ := ry
  have hm : z.length * k ≤ 1000 * 10000 := Nat.mul_le_mul hz hk
  have h63 : (2 : Int) ^ 63 = 9223372036854775808 := by decide
  refine PySem.P.mul_str (by rw [h63]; simp; omega) (fun _ _ => ?_) (fun _ _ => ?_) ?_
  · rw [h63]
    have : (9223372036854775808 - 1 : Int) / (k : Int) ≥ 1000 := by
      rw [ge_iff_le, Int.le_ediv_iff_mul_le (by omega)]
      have : (1000 : Int) * (k : Int) ≤ 1000 * 10000 := by omega
      omega
    omega
  · unfold Builtin.Str.tooLong
    rw [decide_eq_false_iff_not, sizeLine_eq, Int.toNat_natCast]
    omega
  · rw [if_neg (by omega)]
    have e : (((k : Nat) : Int) == 1 || z.length == 0) = false := by
      rw [Bool.or_eq_false_iff]
      constructor
      · simp; omega
      · simp; omega
    rw [e, if_neg Bool.false_ne_true]
    have hlen : ((List.replicate (k : Int).toNat z.cps).foldl (· ++ ·) #[]).size = k * z.cps.size := by
      rw [fold_len, Int.toNat_natCast]
      simp
    have hkz : k * z.cps.size = z.length * k := Nat.mul_comm _ _
    refine ⟨?_, .str _, H, I.tok _, ⟨_, rfl⟩, q _ hlen⟩
    show ((List.replicate (k : Int).toNat z.cps).foldl (· ++ ·) #[]).size ≤ sizeLine
    rw [hlen, sizeLine_eq]
    omega
end GE

set_option Elab.async false
set_option linter.all false
set_option maxRecDepth 100000
set_option maxHeartbeats 4000000
namespace Mw
open PySem PySem.Spec PyProof.Rows L2 GE NumText
def spLNum (T : List Addr) : Sp := fun vs H Q _ => ∃ (a : Str), vs = [.str a] ∧ a.length ≤ 100000 ∧ ∀ H', Ext T noM H H' → Q (oV (numT a 0 99999)) H'
theorem dig_in (c : Nat) : c ∈ ("0123456789" : Str).cps.toList ↔ 48 ≤ c ∧ c ≤ 57 := by
  have e : ("0123456789" : Str).cps.toList = [48, 49, 50, 51, 52, 53, 54, 55, 56, 57] := by rfl
  rw [e]
  simp only [List.mem_cons, List.not_mem_nil, or_false]
  omega
theorem num5 : (TL.numL 99999).length = 5 := by decide +kernel
theorem numT_no {a : Str} (h : ¬ (1 ≤ a.length ∧ a.length ≤ 5) ∨ ¬ AllDigits (chs_ a)) : numT a 0 99999 = none := by
  unfold numT
  refine if_pos ?_
  rw [num5, Bool.or_eq_true, decide_eq_true_eq, Bool.not_eq_true']
  rcases h with h | h
  · by_cases h5 : 5 < a.length
    · exact .inl h5
    · refine .inr ?_
      cases e : isNum a with
      | false => rfl
      | true =>
        have := (isNum_iff.mp e).2
        have h0 : a.length = 0 := by omega
        rw [ln_ch] at h0
        exact absurd (List.eq_nil_of_length_eq_zero h0) this
  · refine .inr ?_
    cases e : isNum a with
    | false => rfl
    | true => exact absurd (isNum_iff.mp e).1 h
theorem numT_yes {a : Str} (h1 : 1 ≤ a.length) (h5 : a.length ≤ 5) (hd : AllDigits (chs_ a)) : (((∃ r, chs_ a = 48 :: r) ∧ a ≠ "0") → numT a 0 99999 = none) ∧ (¬ ((∃ r, chs_ a = 48 :: r) ∧ a ≠ "0") → numT a 0 99999 = some (digitsVal (chs_ a))) ∧ isNum a = true ∧ digitsVal (chs_ a) ≤ 99999 := by
  have hn : chs_ a ≠ [] := fun z => by rw [ln_ch, z] at h1; exact absurd h1 (by decide)
  have hi : isNum a = true := isNum_iff.mpr ⟨hd, hn⟩
  have hv : digitsVal (chs_ a) < 100000 := by
    have := val_lt hd
    rw [← ln_ch] at this
    exact Nat.lt_of_lt_of_le this (Nat.pow_le_pow_right (by decide) h5)
  have e1 : ¬ (decide ((TL.numL 99999).length < a.length) || !isNum a) = true := by
    rw [num5, hi, decide_eq_false (by omega)]; decide
  refine ⟨fun h => ?_, fun h => ?_, hi, by omega⟩
  · unfold numT
    rw [if_neg e1]
    refine if_pos ?_
    have hne : nmS (digitsVal (chs_ a)) ≠ a := fun z => h.2 ((nm_back hd hn).mp z h.1)
    rw [decide_eq_true hne]; rfl
  · have he : nmS (digitsVal (chs_ a)) = a := (nm_back hd hn).mpr fun z => Classical.byContradiction fun y => h ⟨z, y⟩
    unfold numT
    rw [if_neg e1]
    refine if_neg ?_
    rw [decide_eq_false (fun z => z he), decide_eq_false (by omega), decide_eq_false (by omega)]
    decide
section
variable {P : Program} {w : World} {K : PySem.W.Frag} {mg : Str → Option Value} {base : Heap} {T : List Addr} {aC aBadText : Addr}
theorem ok__law_number {f : Addr} {fd : FuncData} (F : Fun K "_law_number" "_law_number" s_law_number f fd) (m_int : mg "int" = none) (m_len : mg "len" = none) : FnOk P w K mg base CX0 1 f fd ["word"] (spLNum T) := by
  refine F.ok sc_law_number (fun vs H Q E h => ?_) (fun cdv A outer s H vs Q E hr h => ?_)
  · obtain ⟨a, rfl, hl, k⟩ := h
    rfl
  · obtain ⟨a, rfl, hl, k⟩ := h
    refine ⟨_, (pss_cons (ps_if (PW.pt (pw_or (pt_not (pt_chain op_le op_le pe_int (pe_callB call_len_str (by rfl) m_len (by decide +kernel) (pa_cons (pv 0) pa_nil)) pe_int)) (pw_or1 (pt_cmpR op_gt (pe_callB call_len_seq (by rfl) m_len PySem.boot_len (pa_cons (pe_lc (own := [("char", 1)]) (g := (gName 1)) rfl sc_law_number.nd (pi_str (pv 0)) (blkOk_by (own := [("char", 1)]) (N := ["word", "char"]) (sc := defScope s_law_number) (by decide +kernel)) (fun _ _ _ _ _ => (pg_name (i := 1) sc_law_number.nd rfl (Or.inl rfl))) (fun _ _ _ _ _ => (pts_one (pt_cmpR op_notIn_sign (pv 1) pe_str (by rfl)))) (fun _ _ _ _ _ => (pv 1))) pa_nil)) pe_int (nomark _))))) (pss_one (ps_ret pe_non)) pss_nil)
      (pss_cons (ps_if (PW.pt (pw_and (pt_cmpR op_eq (pe_ix ix_str (pv 0) pe_int (fun _ _ => rfl)) pe_str (nomark _)) (pw_and1 (pt_cmpR op_ne (pv 0) pe_str (nomark _))))) (pss_one (ps_ret pe_non)) pss_nil)
      (pss_one (ps_ret (pe_callTy call_int_str (by rfl) m_int (by decide +kernel) (pa_cons (pv 0) pa_nil)))))), ?_⟩
    have sz : a.length < sizeLine := Nat.lt_of_le_of_lt hl (by decide)
    refine ev_ifq ?_
    have szl := Nat.le_of_lt sz
    by_cases c1 : 1 ≤ a.length ∧ a.length ≤ 5
    case neg =>
      have hno := k H (Ext.refl _ _ _)
      rw [numT_no (.inl c1)] at hno
      by_cases c2 : 1 ≤ a.length
      · refine ⟨_, rfl, a, rfl, szl, _, _, rfl, rfl, _, rfl, ite2 (fun _ => ?_) (fun d => absurd (decide_eq_true (show (1 : Int) ≤ (a.length : Int) by omega)) d)⟩
        refine ⟨_, _, rfl, rfl, _, rfl, ?_⟩
        rw [decide_eq_false (show ¬ (a.length : Int) ≤ 5 by omega)]
        exact iteT (iteT hno)
      · refine ⟨_, rfl, a, rfl, szl, _, _, rfl, rfl, _, rfl, ite2 (fun d => absurd (of_decide_eq_true d) (show ¬ (1 : Int) ≤ (a.length : Int) by omega)) (fun _ => ?_)⟩
        exact ⟨_, rfl, iteT (iteT hno)⟩
    obtain ⟨c1, c5⟩ := c1
    refine ⟨_, rfl, a, rfl, szl, _, _, rfl, rfl, _, rfl, ite2 (fun _ => ?_) (fun d => absurd (decide_eq_true (show (1 : Int) ≤ (a.length : Int) by omega)) d)⟩
    refine ⟨_, _, rfl, rfl, _, rfl, ?_⟩
    rw [decide_eq_true (show (a.length : Int) ≤ 5 by omega)]
    refine iteF ?_
    have hsz : a.cps.size = a.length := rfl
    refine ⟨_, rfl, a, rfl, fun D hD => ?_⟩
    have e1 : Ext T noM H (upd H D (.lst [])) := Ext.new hD
    refine lc_it (walk_str (z := a)) (fun j H' => Ext T noM H H' ∧ ∃ acc, H' D = some (.lst acc) ∧ acc.length ≤ j ∧ (acc = [] ↔ ∀ c ∈ (chs_ a).take j, 48 ≤ c ∧ c ≤ 57)) ⟨e1, [], upd_same, Nat.le_refl _, ⟨fun _ c hc => by simp at hc, fun _ => rfl⟩⟩ (fun _ _ _ _ => trivial) ?_ ?_
    · rintro j x H1 H2 hj ⟨e, acc, hD1, hal, hac⟩ ⟨rfl, c, hc, rfl⟩
      have hc' : (chs_ a)[j]? = some c := by
        show a.cps.toList[j]? = some c
        rw [Array.getElem?_toList]; exact hc
      have htk : (chs_ a).take (j + 1) = (chs_ a).take j ++ [c] := take_succ' hc'
      refine ⟨rfl, _, rfl, c, "0123456789", rfl, rfl, _, rfl, ?_⟩
      by_cases hin : 48 ≤ c ∧ c ≤ 57
      · rw [decide_eq_true ((dig_in c).mpr hin)]
        refine iteF ⟨e, acc, hD1, by omega, hac.trans ?_⟩
        rw [htk]
        exact ⟨fun h d hd => (List.mem_append.mp hd).elim (h d) fun z => by rw [List.mem_singleton.mp z]; exact hin, fun h d hd => h d (List.mem_append_left _ hd)⟩
      · rw [decide_eq_false (fun z => hin ((dig_in c).mp z))]
        refine iteT ⟨_, rfl, acc, hD1, Nat.lt_of_le_of_lt (show acc.length ≤ 5 by omega) (by decide), e.mut (.inl hD) hD1 ltbl, _, upd_same, by rw [List.length_append, List.length_singleton]; omega, ?_⟩
        rw [htk]
        exact ⟨fun h => by simp at h, fun h => absurd (h c (by simp)) hin⟩
    rintro H1 ⟨e, acc, hD1, hal, hac⟩
    have hall : (chs_ a).take a.cps.size = chs_ a := by
      rw [hsz, ln_ch, List.take_length]
    rw [hall] at hac
    refine ⟨D, acc, rfl, .inl (SqL.of hD1), _, _, rfl, rfl, _, rfl, ?_⟩
    by_cases hd : AllDigits (chs_ a)
    case neg =>
      have hno := k H1 e
      rw [numT_no (.inr hd)] at hno
      have : acc ≠ [] := fun z => hd (hac.mp z)
      have hpos : 0 < acc.length := List.length_pos_iff.mpr this
      rw [decide_eq_true (show (0 : Int) < (acc.length : Int) by omega)]
      exact iteT hno
    have hnil : acc = [] := hac.mpr hd
    subst hnil
    obtain ⟨y1, y2, y3, y4⟩ := numT_yes c1 c5 hd
    have hk := k H1 e
    have hn : chs_ a ≠ [] := (isNum_iff.mp y3).2
    obtain ⟨c, r, hcr⟩ := chs_ne hn
    refine iteF ?_
    unfold tNext
    dsimp only
    unfold tSeq
    have hc0 : a.cps.toList[0]? = some c := by rw [show a.cps.toList = c :: r from hcr]; rfl
    have at0 : atI a.cps.toList ((0 : Nat) : Int) = some c := atI_nat hc0
    have e48 : V.str ⟨#[c]⟩ = V.str "0" ↔ c = 48 := ⟨fun z => by
      have z := congrArg chs_ (V.str.inj z)
      have z2 : [c] = [48] := z
      exact (List.cons.inj z2).1, fun z => by rw [z]; rfl⟩
    refine ev_ifq ?_
    refine ev_andc (fun Q h => ⟨_, rfl, a, 0, c, rfl, rfl, szl, at0, rfl, _, rfl, h⟩) ?_
    have fin : ¬ ((∃ r, chs_ a = 48 :: r) ∧ a ≠ "0") → ∃ v, intText? a = some v ∧ a.length ≤ 640 ∧ Q (V.int v) H1 := fun z => by
      have h := hk
      rw [y2 z] at h
      exact ⟨_, int_of y3 (by omega), by omega, h⟩
    refine ite2 (fun d => ?_) (fun d => ?_)
    · have d := e48.mp (of_decide_eq_true d)
      refine ⟨_, rfl, rfl, _, rfl, ?_⟩
      by_cases h0 : a = "0"
      · subst h0
        refine iteF ?_
        obtain ⟨v, v1, v2, v3⟩ := fin fun z => z.2 rfl
        exact ⟨_, rfl, _, _, rfl, v1, v2, v3⟩
      · have hv : ¬ V.str a = V.str "0" := fun z => h0 (V.str.inj z)
        have h := hk
        rw [y1 ⟨⟨r, by rw [hcr, d]⟩, h0⟩] at h
        rw [decide_eq_false hv]
        exact iteT h
    · have d : ¬ c = 48 := fun z => d (decide_eq_true (e48.mpr z))
      refine iteF ?_
      obtain ⟨v, v1, v2, v3⟩ := fin fun ⟨⟨q, z⟩, _⟩ => d (by rw [hcr] at z; exact (List.cons.inj z).1)
      exact ⟨_, rfl, _, _, rfl, v1, v2, v3⟩
end
end Mw

set_option Elab.async false
set_option linter.all false
set_option maxRecDepth 100000
set_option maxHeartbeats 4000000
namespace Mw
open PySem PySem.Spec PyProof.Rows L2 GE NumText
abbrev nW (words : List Str) (i : Nat) : Option Nat := numT (wd words i) 0 99999
theorem wd_mem {words : List Str} {i : Nat} (h : i + 1 < words.length) : wd words (i + 1) ∈ words.drop 1 := by
  have e : words[i + 1]? = some (wd words (i + 1)) := by
    unfold wd
    rw [List.getD_eq_getElem?_getD, List.getElem?_eq_getElem h]; rfl
  refine List.mem_of_getElem? (i := i) ?_
  rw [List.getElem?_drop, show 1 + i = i + 1 by omega]; exact e
section
variable {r : RS} {line : Str}
theorem line0 {ws : Wl} {ps : List Pr} : lineT (none, ws, ps) line = (plT (Txt.split line " ")).map fun n => ((some n, ws, ps) : RS) := rfl
theorem line1 {n : Nat} {ws : Wl} {ps : List Pr} : lineT (some n, ws, ps) line = if wd (Txt.split line " ") 0 = "way" then (wayT n ws ps (Txt.split line " ")).map fun ws => ((some n, ws, ps) : RS) else (pairT n ps (Txt.split line " ")).map fun ps => ((some n, ws, ps) : RS) := rfl
theorem ends_as {a b : Str} {n : Nat} (hn : n ≤ 12) : endsT a b n = (match numT a 0 99999, numT b 0 99999 with
  | some x, some y => if x < y ∧ y < n then some (x, y) else none
  | _, _ => none) := by
  unfold endsT
  rw [numT_as (w := a) (lo := 0) (hi := n - 1) (by omega), numT_as (w := b) (lo := 0) (hi := n - 1) (by omega)]
  cases numT a 0 99999 with
  | none => rfl
  | some x =>
    cases numT b 0 99999 with
    | none =>
      show (match (if 0 ≤ x ∧ x ≤ n - 1 then some x else none), (none : Option Nat) with
        | some x, some y => if x < y then some (x, y) else none
        | _, _ => none) = none
      split <;> simp_all
    | some y =>
      show (match (if 0 ≤ x ∧ x ≤ n - 1 then some x else none), (if 0 ≤ y ∧ y ≤ n - 1 then some y else none) with
        | some x, some y => if x < y then some (x, y) else none
        | _, _ => none) = if x < y ∧ y < n then some (x, y) else none
      by_cases h : x < y ∧ y < n
      · rw [if_pos h, if_pos (by omega), if_pos (by omega)]
        show (if x < y then some (x, y) else none) = _
        rw [if_pos h.1]
      · rw [if_neg h]
        by_cases h1 : 0 ≤ x ∧ x ≤ n - 1
        · rw [if_pos h1]
          by_cases h2 : 0 ≤ y ∧ y ≤ n - 1
          · rw [if_pos h2]
            show (if x < y then some (x, y) else none) = none
            rw [if_neg]
            intro z
            by_cases hn0 : n = 0
            · omega
            · exact h ⟨z, by omega⟩
          · rw [if_neg h2]
        · rw [if_neg h1]
/-- every other word of a line that is taken is a number -/
theorem st_none (hn : ∀ n, r.1 = some n → n ≤ 12) (h : ∃ x ∈ (Txt.split line " ").drop 1, numT x 0 99999 = none) : lineT r line = none := by
  obtain ⟨pl, ws, ps⟩ := r
  have key : ∀ (i : Nat), ∀ x ∈ (Txt.split line " ").drop 1, (Txt.split line " ").length = i + 1 → ∃ j, j < i ∧ x = wd (Txt.split line " ") (j + 1) := fun i x hx hl => by
    obtain ⟨j, hj⟩ := List.mem_iff_getElem?.mp hx
    rw [List.getElem?_drop] at hj
    have := (List.getElem?_eq_some_iff.mp hj).1
    refine ⟨j, by omega, ?_⟩
    rw [wd_i (show (Txt.split line " ")[j + 1]? = some x by rw [show j + 1 = 1 + j by omega]; exact hj)]
  obtain ⟨x, hx, hno⟩ := h
  cases pl with
  | none =>
    rw [line0]
    unfold plT
    split
    · rename_i c
      obtain ⟨j, hj, rfl⟩ := key 1 x hx c.1
      have : j = 0 := by omega
      subst this
      rw [numT_as (by decide), hno]; rfl
    · rfl
  | some n =>
    have hn := hn n rfl
    rw [line1]
    split
    · unfold wayT
      split
      · rfl
      · rename_i c
        have c1 : (Txt.split line " ").length = 4 := Classical.byContradiction fun z => c (.inl z)
        obtain ⟨j, hj, rfl⟩ := key 3 x hx c1
        rw [ends_as hn, numT_as (w := wd (Txt.split line " ") 3) (by decide)]
        match j, hj with
        | 0, _ => rw [hno]; rfl
        | 1, _ => rw [hno]; cases numT (wd (Txt.split line " ") 1) 0 99999 <;> rfl
        | 2, _ => rw [hno]; cases numT (wd (Txt.split line " ") 1) 0 99999 <;> cases numT (wd (Txt.split line " ") 2) 0 99999 <;> first | rfl | (dsimp only; split <;> first | rfl | (rename_i q; cases q))
    · unfold pairT
      split
      · rfl
      · rename_i c
        have c1 : (Txt.split line " ").length = 3 := Classical.byContradiction fun z => c (.inl z)
        obtain ⟨j, hj, rfl⟩ := key 2 x hx c1
        rw [ends_as hn]
        match j, hj with
        | 0, _ => rw [hno]; rfl
        | 1, _ => rw [hno]; cases numT (wd (Txt.split line " ") 1) 0 99999 <;> rfl
theorem st_pl {n : Nat} (hl : (Txt.split line " ").length = 2) (h0 : wd (Txt.split line " ") 0 = "places") (h1 : numT (wd (Txt.split line " ") 1) 0 99999 = some n) :
    lineT r line = if r.1 = none ∧ 1 ≤ n ∧ n ≤ 12 then some (some n, r.2.1, r.2.2) else none := by
  obtain ⟨pl, ws, ps⟩ := r
  cases pl with
  | none =>
    rw [line0]
    unfold plT
    rw [if_pos ⟨hl, h0⟩, numT_as (by decide), h1]
    show Option.map _ (if 1 ≤ n ∧ n ≤ 12 then some n else none) = _
    by_cases h : 1 ≤ n ∧ n ≤ 12
    · rw [if_pos h, if_pos ⟨rfl, h⟩]; rfl
    · rw [if_neg h, if_neg fun z => h z.2]; rfl
  | some m =>
    rw [line1, if_neg (by rw [h0]; decide), if_neg (fun z => nomatch z.1)]
    unfold pairT
    rw [if_pos (.inl (by omega))]; rfl
theorem st_few (hl : (Txt.split line " ").length ≤ 2) (h0 : ¬ (wd (Txt.split line " ") 0 = "places" ∧ (Txt.split line " ").length = 2)) : lineT r line = none := by
  obtain ⟨pl, ws, ps⟩ := r
  cases pl with
  | none =>
    rw [line0]
    unfold plT
    rw [if_neg fun z => h0 ⟨z.2, z.1⟩]; rfl
  | some m =>
    rw [line1]
    split
    · unfold wayT; rw [if_pos (.inl (by omega))]; rfl
    · unfold pairT; rw [if_pos (.inl (by omega))]; rfl
theorem st_ends {x y : Nat} (hn : ∀ n, r.1 = some n → n ≤ 12) (hl : 3 ≤ (Txt.split line " ").length) (h1 : numT (wd (Txt.split line " ") 1) 0 99999 = some x) (h2 : numT (wd (Txt.split line " ") 2) 0 99999 = some y) (h : ¬ (x < y ∧ y < r.1.getD 0)) : lineT r line = none := by
  obtain ⟨pl, ws, ps⟩ := r
  cases pl with
  | none =>
    rw [line0]
    unfold plT
    rw [if_neg fun z => by omega]; rfl
  | some n =>
    have h : ¬ (x < y ∧ y < n) := h
    have e : endsT (wd (Txt.split line " ") 1) (wd (Txt.split line " ") 2) n = none := by
      rw [ends_as (hn n rfl), h1, h2]
      show (if x < y ∧ y < n then some (x, y) else none) = none
      rw [if_neg h]
    rw [line1]
    split
    · unfold wayT
      split
      · rfl
      · rw [e]; rfl
    · unfold pairT
      split
      · rfl
      · rw [e]; rfl
theorem st_way {n x y c : Nat} (hn : n ≤ 12) (hr : r.1 = some n) (hl : (Txt.split line " ").length = 4) (h0 : wd (Txt.split line " ") 0 = "way") (h1 : numT (wd (Txt.split line " ") 1) 0 99999 = some x) (h2 : numT (wd (Txt.split line " ") 2) 0 99999 = some y) (h3 : numT (wd (Txt.split line " ") 3) 0 99999 = some c) (hxy : x < y) (hy : y < n) :
    lineT r line = if r.2.2 = [] ∧ r.2.1.length < 24 ∧ 1 ≤ c ∧ c ≤ 10000 then some (some n, r.2.1 ++ [(x, y, c)], r.2.2) else none := by
  obtain ⟨pl, ws, ps⟩ := r
  have hr : pl = some n := hr
  subst hr
  rw [line1, if_pos h0]
  unfold wayT
  have e : endsT (wd (Txt.split line " ") 1) (wd (Txt.split line " ") 2) n = some (x, y) := by
    rw [ends_as hn, h1, h2]
    show (if x < y ∧ y < n then some (x, y) else none) = _
    rw [if_pos ⟨hxy, hy⟩]
  rw [e, numT_as (w := wd (Txt.split line " ") 3) (by decide), h3]
  show Option.map _ (if _ then none else match some (x, y), (if 1 ≤ c ∧ c ≤ 10000 then some c else none) with
    | some e, some c => some (ws ++ [(e.1, e.2, c)])
    | _, _ => none) = if ps = [] ∧ ws.length < 24 ∧ 1 ≤ c ∧ c ≤ 10000 then some (some n, ws ++ [(x, y, c)], ps) else none
  by_cases h : ps = [] ∧ ws.length < 24
  · rw [if_neg (by rintro (z | z | z); exact z hl; exact z h.1; omega)]
    by_cases hc : 1 ≤ c ∧ c ≤ 10000
    · rw [if_pos hc, if_pos ⟨h.1, h.2, hc⟩]; rfl
    · rw [if_neg hc, if_neg fun z => hc z.2.2]; rfl
  · rw [if_pos (Classical.byContradiction fun z => h ⟨Classical.byContradiction fun q => z (.inr (.inl q)), Nat.lt_of_not_le fun q => z (.inr (.inr q))⟩), if_neg fun z => h ⟨z.1, z.2.1⟩]; rfl
theorem st_pair {n x y : Nat} (hn : n ≤ 12) (hr : r.1 = some n) (hl : 3 ≤ (Txt.split line " ").length) (h0 : ¬ (wd (Txt.split line " ") 0 = "way" ∧ (Txt.split line " ").length = 4)) (h1 : numT (wd (Txt.split line " ") 1) 0 99999 = some x) (h2 : numT (wd (Txt.split line " ") 2) 0 99999 = some y) (hxy : x < y) (hy : y < n) :
    lineT r line = if wd (Txt.split line " ") 0 = "pair" ∧ (Txt.split line " ").length = 3 ∧ r.2.2.length < 6 ∧ (x, y) ∉ r.2.2 then some (some n, r.2.1, r.2.2 ++ [(x, y)]) else none := by
  obtain ⟨pl, ws, ps⟩ := r
  have hr : pl = some n := hr
  subst hr
  rw [line1]
  by_cases hw : wd (Txt.split line " ") 0 = "way"
  · rw [if_pos hw, if_neg (by rw [hw]; intro z; exact absurd z.1 (by decide))]
    unfold wayT
    rw [if_pos (.inl fun z => h0 ⟨hw, z⟩)]; rfl
  · rw [if_neg hw]
    unfold pairT
    have e : endsT (wd (Txt.split line " ") 1) (wd (Txt.split line " ") 2) n = some (x, y) := by
      rw [ends_as hn, h1, h2]
      show (if x < y ∧ y < n then some (x, y) else none) = _
      rw [if_pos ⟨hxy, hy⟩]
    rw [e]
    show Option.map _ (if _ then none else if (x, y) ∈ ps then none else some (ps ++ [(x, y)])) = if wd (Txt.split line " ") 0 = "pair" ∧ (Txt.split line " ").length = 3 ∧ ps.length < 6 ∧ (x, y) ∉ ps then some (some n, ws, ps ++ [(x, y)]) else none
    by_cases h : (Txt.split line " ").length = 3 ∧ wd (Txt.split line " ") 0 = "pair" ∧ ps.length < 6
    · rw [if_neg (by rintro (z | z | z); exact z h.1; exact z h.2.1; omega)]
      by_cases hin : (x, y) ∈ ps
      · rw [if_pos hin, if_neg fun z => z.2.2.2 hin]; rfl
      · rw [if_neg hin, if_pos ⟨h.2.1, h.1, h.2.2, hin⟩]; rfl
    · rw [if_pos (Classical.byContradiction fun z => h ⟨Classical.byContradiction fun q => z (.inl q), Classical.byContradiction fun q => z (.inr (.inl q)), Nat.lt_of_not_le fun q => z (.inr (.inr q))⟩), if_neg fun z => h ⟨z.2.1, z.1, z.2.2.1⟩]; rfl
end
end Mw

set_option Elab.async false
set_option linter.all false
set_option maxRecDepth 100000
set_option maxHeartbeats 4000000
namespace Mw
open PySem PySem.Spec PyProof.Rows L2 GE NumText
theorem cut_from (xs : List V) (j : Nat) : cutV xs (some (j : Int)) none = xs.drop j := by
  unfold cutV
  rw [HT.sIx_nat]
  show List.take (xs.length - min j xs.length) (xs.drop (min j xs.length)) = _
  by_cases h : j ≤ xs.length
  · rw [Nat.min_eq_left h, List.take_of_length_le (by rw [List.length_drop]; exact Nat.le_refl _)]
  · rw [Nat.min_eq_right (by omega), List.drop_of_length_le (by omega : xs.length ≤ j)]; simp

def stK (r : RS) (lp : Addr) : List (L2.Key × V) := [(.inr "places", .int ((r.1.getD 0 : Nat) : Int)), (.inr "ways", .int ((r.2.1.length : Nat) : Int)), (.inr "pairs", .ref lp)]
/-- the law's state at d, its pairs at lp -/
structure StAt (H : Hp) (d lp : Addr) (r : RS) : Prop where
  dk : H d = some (.dK (stK r lp))
  pr : ∃ us, H lp = some (.lst us) ∧ us.length = r.2.2.length ∧ ∀ (i : Nat) (q : Pr), r.2.2[i]? = some q → ∃ a, us[i]? = some (.ref a) ∧ a ≠ lp ∧ H a = some (.lst [.int (q.1 : Nat), .int (q.2 : Nat)])
def StM (d lp : Addr) : Addr → Prop := fun b => b = d ∨ b = lp
theorem StAt.x {T : List Addr} {H H' : Hp} {d lp : Addr} {r : RS} (h : StAt H d lp r) (e : Ext T noM H H') : StAt H' d lp r := by
  obtain ⟨h1, us, h2, h3, h4⟩ := h
  refine ⟨e.kp _ _ (fun z => z) h1 (fun ps z => nomatch z), us, e.lst (fun z => z) h2, h3, fun i q hq => ?_⟩
  obtain ⟨a, g1, g2, g3⟩ := h4 i q hq
  exact ⟨a, g1, g2, e.lst (fun z => z) g3⟩
theorem StAt.ne {H : Hp} {d lp : Addr} {r : RS} (h : StAt H d lp r) : d ≠ lp := fun z => by
  obtain ⟨h1, us, h2, _⟩ := h
  rw [z, h2] at h1; cases h1
theorem StAt.put {T : List Addr} {H : Hp} {d lp : Addr} {r r' : RS} (h : StAt H d lp r) (hp : r'.2.2 = r.2.2) : StAt (upd H d (.dK (stK r' lp))) d lp r' ∧ Ext T (StM d lp) H (upd H d (.dK (stK r' lp))) := by
  have hn := h.ne
  obtain ⟨h1, us, h2, h3, h4⟩ := h
  refine ⟨⟨upd_same, us, by rw [upd_ne hn.symm]; exact h2, by rw [hp]; exact h3, fun i q hq => ?_⟩, (Ext.refl T _ H).mut (.inr (.inl rfl)) h1 fun ps z => nomatch z⟩
  rw [hp] at hq
  obtain ⟨a, g1, g2, g3⟩ := h4 i q hq
  have : a ≠ d := fun z => by rw [z, h1] at g3; cases g3
  exact ⟨a, g1, g2, by rw [upd_ne this]; exact g3⟩
theorem StAt.add {T : List Addr} {H : Hp} {d lp b : Addr} {us : List V} {r : RS} {x y : Nat} (h : StAt H d lp r) (hu : H lp = some (.lst us)) (hb : H b = some (.lst [.int (x : Nat), .int (y : Nat)])) (hbl : b ≠ lp) :
    StAt (upd H lp (.lst (us ++ [.ref b]))) d lp (r.1, r.2.1, r.2.2 ++ [(x, y)]) ∧ Ext T (StM d lp) H (upd H lp (.lst (us ++ [.ref b]))) := by
  have hn := h.ne
  obtain ⟨h1, us', h2, h3, h4⟩ := h
  rw [hu] at h2
  cases h2
  refine ⟨⟨by rw [upd_ne hn]; exact h1, _, upd_same, by show (us ++ [V.ref b]).length = (r.2.2 ++ [(x, y)]).length; rw [List.length_append, List.length_append, h3]; rfl, fun i q hq => ?_⟩, (Ext.refl T _ H).mut (.inr (.inr rfl)) hu ltbl⟩
  have hq : (r.2.2 ++ [(x, y)])[i]? = some q := hq
  by_cases hi : i < r.2.2.length
  · rw [List.getElem?_append_left hi] at hq
    obtain ⟨a, g1, g2, g3⟩ := h4 i q hq
    exact ⟨a, by rw [List.getElem?_append_left (by omega)]; exact g1, g2, by rw [upd_ne g2]; exact g3⟩
  · have hi2 := (List.getElem?_eq_some_iff.mp hq).1
    rw [List.length_append, List.length_singleton] at hi2
    have : i = r.2.2.length := by omega
    subst this
    rw [List.getElem?_append_right (Nat.le_refl _), Nat.sub_self] at hq
    have hq := Option.some.inj hq
    subst hq
    exact ⟨b, by rw [List.getElem?_append_right (by omega), h3, Nat.sub_self]; rfl, hbl, by rw [upd_ne hbl]; exact hb⟩
theorem StAt.not {H : Hp} {d lp : Addr} {r : RS} (h : StAt H d lp r) : ∀ b vs, StM d lp b → H b ≠ some (.tup vs) := fun b vs e z => by
  obtain ⟨h1, us, h2, _⟩ := h
  rcases e with e | e
  · rw [e, h1] at z; cases z
  · rw [e, h2] at z; cases z
structure RsOk (r : RS) : Prop where
  n12 : ∀ n, r.1 = some n → 1 ≤ n ∧ n ≤ 12
  w24 : r.2.1.length ≤ 24
  p6 : r.2.2.length ≤ 6
def spStands (T : List Addr) : Sp := fun vs H Q _ => ∃ (d lp wl : Addr) (line : Str) (r : RS), vs = [.ref d, .ref wl] ∧ StAt H d lp r ∧ RsOk r ∧ H wl = some (.lst ((Txt.split line " ").map V.str)) ∧ wl ≠ lp ∧ line.length ≤ 90000 ∧
  ∀ H' (r' : RS), r' = (lineT r line).getD r → StAt H' d lp r' → Ext T (StM d lp) H H' → Q (.bl (lineT r line).isSome) H'
def oP : Option Nat → PyData
  | some n => .int ((n : Nat) : Int)
  | none => .none
theorem dp_oV {K : PySem.W.Frag} {H : Hp} : ∀ (o : Option Nat), Dp K H (oV o) (oP o)
  | some n => .int _
  | none => .non
theorem dp_oVs {K : PySem.W.Frag} {H : Hp} : ∀ (l : List (Option Nat)), DpAll K H (l.map oV) (l.map oP)
  | [] => .nil
  | o :: l => .cons (dp_oV o) (dp_oVs l)
theorem sh_oP : ∀ (o : Option Nat), SeqAt.shaped (oP o) = true
  | some n => rfl
  | none => rfl
theorem oP_all : ∀ l : List (Option Nat), PyData.canLayAll0 (l.map oP) = true ∧ PyData.depthAll (l.map oP) ≤ 1
  | [] => ⟨rfl, Nat.zero_le _⟩
  | o :: l => by
    obtain ⟨h1, h2⟩ := oP_all l
    cases o with
    | none =>
      refine ⟨?_, ?_⟩
      · show (true && PyData.canLayAll0 (l.map oP)) = true
        rw [h1]; rfl
      · show max _ (PyData.depthAll (l.map oP)) ≤ 1
        have : PyData.depth PyData.none ≤ 1 := by decide
        exact Nat.max_le.mpr ⟨this, h2⟩
    | some n =>
      refine ⟨?_, ?_⟩
      · show (true && PyData.canLayAll0 (l.map oP)) = true
        rw [h1]; rfl
      · show max _ (PyData.depthAll (l.map oP)) ≤ 1
        have : PyData.depth (PyData.int ((n : Nat) : Int)) ≤ 1 := by simp [PyData.depth]
        exact Nat.max_le.mpr ⟨this, h2⟩
theorem sh_oPs (l : List (Option Nat)) : SeqAt.shaped (.list (l.map oP)) = true := by
  obtain ⟨h1, h2⟩ := oP_all l
  show (PyData.canLayAll0 (l.map oP) && decide (PyData.depthAll (l.map oP) + 1 ≤ 64)) = true
  rw [h1, Bool.true_and, decide_eq_true_eq]
  omega
theorem any_none (l : List (Option Nat)) : ((l.map oP).any fun z => PyData.eqv z .none) = decide (none ∈ l) := by
  rw [Bool.eq_iff_iff, List.any_eq_true, decide_eq_true_eq]
  constructor
  · rintro ⟨z, hz, e⟩
    obtain ⟨o, ho, rfl⟩ := List.mem_map.mp hz
    cases o with
    | none => exact ho
    | some n => cases e
  · intro h
    exact ⟨_, List.mem_map.mpr ⟨none, h, rfl⟩, rfl⟩
def prL2 (q : Pr) : PyData := .list [.int ((q.1 : Nat) : Int), .int ((q.2 : Nat) : Int)]
theorem eqv_prL (p q : Pr) : PyData.eqv (prL2 p) (prL2 q) = decide (p = q) := by
  obtain ⟨a, b⟩ := p
  obtain ⟨c, d⟩ := q
  by_cases h1 : a = c <;> by_cases h2 : b = d <;> simp [prL2, PyData.eqv, PyData.eqvAll, h1, h2] <;> omega
theorem any_prL (q : Pr) (ps : List Pr) : ((ps.map prL2).any fun z => PyData.eqv z (prL2 q)) = decide (q ∈ ps) := by
  rw [Bool.eq_iff_iff, List.any_eq_true, decide_eq_true_eq]
  constructor
  · rintro ⟨z, hz, e⟩
    obtain ⟨p, hp, rfl⟩ := List.mem_map.mp hz
    rw [eqv_prL, decide_eq_true_eq] at e
    rw [← e]; exact hp
  · intro h
    exact ⟨prL2 q, List.mem_map.mpr ⟨q, h, rfl⟩, by rw [eqv_prL, decide_eq_true rfl]⟩
theorem sh_prL (q : Pr) : SeqAt.shaped (prL2 q) = true := rfl
theorem prL_all : ∀ ps : List Pr, PyData.canLayAll0 (ps.map prL2) = true ∧ PyData.depthAll (ps.map prL2) ≤ 3
  | [] => ⟨rfl, Nat.zero_le _⟩
  | p :: ps => by
    obtain ⟨h1, h2⟩ := prL_all ps
    refine ⟨?_, ?_⟩
    · show (true && PyData.canLayAll0 (ps.map prL2)) = true
      rw [h1]; rfl
    · show max _ (PyData.depthAll (ps.map prL2)) ≤ 3
      have : PyData.depth (prL2 p) ≤ 3 := by
        show _ ≤ 3
        simp [prL2, PyData.depth, PyData.depthAll]
      exact Nat.max_le.mpr ⟨this, h2⟩
theorem sh_prLs (ps : List Pr) : SeqAt.shaped (.list (ps.map prL2)) = true := by
  obtain ⟨h1, h2⟩ := prL_all ps
  show (PyData.canLayAll0 (ps.map prL2) && decide (PyData.depthAll (ps.map prL2) + 1 ≤ 64)) = true
  rw [h1, Bool.true_and, decide_eq_true_eq]
  omega
theorem dp_prLs {K : PySem.W.Frag} {H : Hp} : ∀ {ps : List Pr} {us : List V}, us.length = ps.length → (∀ (i : Nat) (q : Pr), ps[i]? = some q → ∃ a, us[i]? = some (.ref a) ∧ H a = some (.lst [.int (q.1 : Nat), .int (q.2 : Nat)])) → DpAll K H us (ps.map prL2)
  | [], us, hl, _ => by rw [List.eq_nil_of_length_eq_zero hl]; exact .nil
  | p :: ps, [], hl, _ => by cases hl
  | p :: ps, u :: us, hl, h => by
    obtain ⟨a, e, ha⟩ := h 0 p rfl
    have e : u = .ref a := Option.some.inj e
    subst e
    exact .cons (.lst (SqL.of ha) (.cons (.int _) (.cons (.int _) .nil))) (dp_prLs (Nat.succ.inj hl) fun i q hq => h (i + 1) q hq)
theorem ev_chain {r r' : R2} {ta tb tc : TE} {σ : L2.St} {H : Hp} {x y z : V} {b1 b2 : Bool} (h1 : ∀ Q : V → Hp → Prop, Q x H → ta σ H Q) (h2 : ∀ Q : V → Hp → Prop, Q y H → tb σ H Q) (h3 : ∀ Q : V → Hp → Prop, Q z H → tc σ H Q)
    (g1 : ∀ Q : V → Hp → Prop, Q (.bl b1) H → r x y H Q) (g2 : ∀ Q : V → Hp → Prop, Q (.bl b2) H → r' y z H Q) : Ev (tTest (tChain r r' ta tb tc)) σ H (b1 && b2) := fun Q q => h1 _ (h2 _ (g1 _ ⟨b1, rfl, by
  cases b1 with
  | true => rw [if_pos rfl]; exact h3 _ (g2 _ ⟨_, rfl, q⟩)
  | false => rw [if_neg Bool.false_ne_true]; exact ⟨_, rfl, q⟩⟩))
/-- the numbers of a line that has no other words -/
theorem nums_of {words : List Str} (h : ¬ none ∈ (words.drop 1).map fun x => numT x 0 99999) {i : Nat} (hi : i + 1 < words.length) : ∃ n, numT (wd words (i + 1)) 0 99999 = some n ∧ ((words.drop 1).map fun x => oV (numT x 0 99999))[i]? = some (.int ((n : Nat) : Int)) := by
  have hm := wd_mem hi
  cases e : numT (wd words (i + 1)) 0 99999 with
  | none => exact absurd (List.mem_map.mpr ⟨_, hm, e⟩) h
  | some n =>
    refine ⟨n, rfl, ?_⟩
    have e2 : words[i + 1]? = some (wd words (i + 1)) := by
      unfold wd
      rw [List.getD_eq_getElem?_getD, List.getElem?_eq_getElem hi]; rfl
    rw [List.getElem?_map, List.getElem?_drop, show 1 + i = i + 1 by omega, e2]
    show some (oV (numT (wd words (i + 1)) 0 99999)) = _
    rw [e]; rfl
section
variable {P : Program} {w : World} {K : PySem.W.Frag} {mg : Str → Option Value} {base : Heap} {T : List Addr} {aC aBadText : Addr}
theorem ok__law_stands {f : Addr} {fd : FuncData} (F : Fun K "_law_stands" "_law_stands" s_law_stands f fd) (m_len : mg "len" = none) {f_law_number : Addr} {fd_law_number : FuncData} (F_law_number : Fun K "_law_number" "_law_number" s_law_number f_law_number fd_law_number) (G_law_number : FnOk P w K mg base CX0 1 f_law_number fd_law_number ["word"] (spLNum T)) (b_law_number : Binds K fd_law_number ["word"] []) (g_law_number : mg "_law_number" = some (.ref f_law_number)) : FnOk P w K mg base CX0 2 f fd ["state", "words"] (spStands T) := by
  refine F.ok sc_law_stands (fun vs H Q E h => ?_) (fun cdv A outer s H vs Q E hr h => ?_)
  · obtain ⟨d, lp, wl, line, r, rfl, S, RO, hw, hwl, hl, k⟩ := h
    rfl
  · obtain ⟨d, lp, wl, line, r, rfl, S, RO, hw, hwl, hl, k⟩ := h
    refine ⟨_, (pss_cons (ps_setLc (i := 2) (own := [("word", 3)]) (g := (gName 3)) (tt := tYes) rfl sc_law_stands.nd rfl rfl (sw_true rfl rfl rfl (by decide +kernel)) (pi_list (pe_slice sl_list (pv 1) (po_some pe_int) po_none)) (blkOk_by (own := [("word", 3)]) (N := ["state", "words", "numbers", "word", "pairs"]) (sc := defScope s_law_stands) (by decide +kernel)) (fun _ _ _ _ _ => (pg_name (i := 3) sc_law_stands.nd rfl (Or.inl rfl))) (fun _ _ _ _ _ => pts_nil) (fun _ _ _ _ _ => (pe_call G_law_number hr (by rfl) g_law_number F_law_number.kp b_law_number .nil pass0 (pa_cons (pv 3) pa_nil))))
      (pss_cons (ps_if (pt_cmpR (op_inD (by have := hr.un; show (A.deeper _).units + 65 < _; omega)) pe_non (pv 2) (by rfl)) (pss_one (ps_ret pe_bl)) pss_nil)
      (Evl.pss_cut (ps_if (PW.pt (pw_and (pt_cmpR op_eq (pe_ix ix_list (pv 1) pe_int (fun _ _ => rfl)) pe_str (nomark _)) (pw_and1 (pt_cmpR op_eq (pe_callB call_len_seq (by rfl) m_len PySem.boot_len (pa_cons (pv 2) pa_nil)) pe_int (nomark _))))) (pss_cons (ps_if (PW.pt (pw_or (pt_cmpR op_gt (pe_dget (by have := hr.un; show (A.deeper _).units + 1 < _; omega) (pv 0) pe_str (fun _ _ => rfl)) pe_int (nomark _)) (pw_or1 (pt_not (pt_chain op_le op_le pe_int (pe_ix ix_list (pv 2) pe_int (fun _ _ => rfl)) pe_int))))) (pss_one (ps_ret pe_bl)) pss_nil)
      (pss_cons (ps_asg (pe_ix ix_list (pv 2) pe_int (fun _ _ => rfl)) (pg_sub (pv 0) pe_str (set_dict (by have := hr.un; show (A.deeper _).units + 1 < _; omega))))
      (pss_one (ps_ret pe_bl)))) pss_nil)
      (pss_cons (ps_if (PW.pt (pw_or (pt_cmpR op_lt (pe_callB call_len_seq (by rfl) m_len PySem.boot_len (pa_cons (pv 2) pa_nil)) pe_int (nomark _)) (pw_or1 (pt_not (pt_chain op_lt op_lt (pe_ix ix_list (pv 2) pe_int (fun _ _ => rfl)) (pe_ix ix_list (pv 2) pe_int (fun _ _ => rfl)) (pe_dget (by have := hr.un; show (A.deeper _).units + 1 < _; omega) (pv 0) pe_str (fun _ _ => rfl))))))) (pss_one (ps_ret pe_bl)) pss_nil)
      (pss_cons (ps_set (i := 4) sc_law_stands.nd rfl (Or.inl rfl) (pe_dget (by have := hr.un; show (A.deeper _).units + 1 < _; omega) (pv 0) pe_str (fun _ _ => rfl)))
      (Evl.pss_cut (ps_if (PW.pt (pw_and (pt_cmpR op_eq (pe_ix ix_list (pv 1) pe_int (fun _ _ => rfl)) pe_str (nomark _)) (pw_and1 (pt_cmpR op_eq (pe_callB call_len_seq (by rfl) m_len PySem.boot_len (pa_cons (pv 2) pa_nil)) pe_int (nomark _))))) (pss_cons (ps_if (PW.pt (pw_or (pt_cmpR op_gt (pe_callB call_len_seq (by rfl) m_len PySem.boot_len (pa_cons (pv 4) pa_nil)) pe_int (nomark _)) (pw_or (pt_cmpR op_eq (pe_dget (by have := hr.un; show (A.deeper _).units + 1 < _; omega) (pv 0) pe_str (fun _ _ => rfl)) pe_int (nomark _)) (pw_or1 (pt_not (pt_chain op_le op_le pe_int (pe_ix ix_list (pv 2) pe_int (fun _ _ => rfl)) pe_int)))))) (pss_one (ps_ret pe_bl)) pss_nil)
      (pss_cons (ps_asg (pe_op op_add (pe_dget (by have := hr.un; show (A.deeper _).units + 1 < _; omega) (pv 0) pe_str (fun _ _ => rfl)) pe_int) (pg_sub (pv 0) pe_str (set_dict (by have := hr.un; show (A.deeper _).units + 1 < _; omega))))
      (pss_one (ps_ret pe_bl)))) pss_nil)
      (pss_cons (ps_if (PW.pt (pw_or (pt_cmpR op_ne (pe_ix ix_list (pv 1) pe_int (fun _ _ => rfl)) pe_str (nomark _)) (pw_or (pt_cmpR op_ne (pe_callB call_len_seq (by rfl) m_len PySem.boot_len (pa_cons (pv 2) pa_nil)) pe_int (nomark _)) (pw_or (pt_cmpR op_eq (pe_callB call_len_seq (by rfl) m_len PySem.boot_len (pa_cons (pv 4) pa_nil)) pe_int (nomark _)) (pw_or1 (pt_cmpR (op_inD (by have := hr.un; show (A.deeper _).units + 65 < _; omega)) (pv 2) (pv 4) (by rfl))))))) (pss_one (ps_ret pe_bl)) pss_nil)
      (pss_cons (ps_expr (pe_bm PySem.F.plainAttrs_list PySem.F.slot_list_append PySem.F.type_list_append mt_append (pv 4) (pa_cons (pv 2) pa_nil)))
      (pss_one (ps_ret pe_bl)))))))))), ?_⟩
    have WO := words_ok (line := line) (by omega)
    have hcnt : (Txt.split line " ").length ≤ 90001 := by have := (split_len (x := line) ch_sp).1; omega
    have hch : ∀ y ∈ Txt.split line " ", y.length ≤ 90000 := fun y hy => by have := (split_len (x := line) ch_sp).2 y hy; omega
    have hn1 := WO.n1
    have no : ∀ H', Ext T noM H H' → lineT r line = none → Q (.bl false) H' := fun H' e h => by
      have := k H' r (by rw [h]; rfl) (S.x e) e.weak
      rw [h] at this; exact this
    have hmap : ∀ j, ((Txt.split line " ").map V.str)[j]? = ((Txt.split line " ")[j]?).map V.str := fun j => List.getElem?_map ..
    have n12 : ∀ n, r.1 = some n → n ≤ 12 := fun n h => (RO.n12 n h).2
    have stn := st_none (r := r) (line := line) n12
    have stp := fun n => st_pl (r := r) (line := line) (n := n)
    have stf := st_few (r := r) (line := line)
    have ste := fun x y => st_ends (r := r) (line := line) (x := x) (y := y) n12
    have stw := fun n x y c => st_way (r := r) (line := line) (n := n) (x := x) (y := y) (c := c)
    have str := fun n x y => st_pair (r := r) (line := line) (n := n) (x := x) (y := y)
    generalize Txt.split line " " = words at hw WO hcnt hch hn1 hmap stn stp stf ste stw str
    refine ⟨_, rfl, 1, rfl, wl, _, rfl, SqL.of hw, fun sl hsl => ?_⟩
    rw [show cutV (words.map V.str) (some 1) none = (words.drop 1).map V.str from by rw [List.map_drop]; exact cut_from _ 1]
    have e0 : Ext T noM H (upd H sl (.lst ((words.drop 1).map V.str))) := Ext.new hsl
    have hs0 : (upd H sl (.lst ((words.drop 1).map V.str))) sl = some (.lst ((words.drop 1).map V.str)) := upd_same
    generalize (upd H sl (.lst ((words.drop 1).map V.str))) = H0 at e0 hs0 ⊢
    have hdl : (words.drop 1).length = words.length - 1 := List.length_drop ..
    refine ⟨sl, rfl, ⟨_, SqL.of hs0⟩, fun D hD => ?_⟩
    refine lc_it (walk_list (K := K) (a := sl) (xs := (words.drop 1).map V.str)) (fun j H' => Ext T noM H0 H' ∧ H' D = some (.lst (((words.drop 1).take j).map fun x => oV (numT x 0 99999)))) ⟨Ext.new hD, upd_same⟩ (fun j H' _ p => SqL.of (p.1.lst (fun z => z) hs0)) ?_ ?_
    · rintro j x H1 H2 hj ⟨e, hD1⟩ ⟨rfl, hx⟩
      obtain ⟨y, hy, rfl⟩ := str_at hx
      refine ⟨rfl, tYesI ?_⟩
      refine ⟨_, rfl, y, rfl, Nat.le_trans (hch y (List.mem_of_mem_drop (List.mem_of_getElem? hy))) (by decide), fun H3 e3 => ?_⟩
      have hD3 := e3.lst (fun z => z) hD1
      refine ⟨_, hD3, ?_, (e.trans e3).mut (.inl hD) hD3 ltbl, ?_⟩
      · rw [List.length_map, List.length_take, hdl]; exact Nat.lt_of_le_of_lt (show _ ≤ 100000 by omega) (by decide)
      · rw [upd_same, take_succ' hy, List.map_append]; rfl
    rintro H1 ⟨e, hD1⟩
    rw [List.length_map, List.take_length] at hD1
    have e01 := e0.trans e
    dsimp only [gName]
    have hD2 : H1 D = some (.lst (((words.drop 1).map fun x => numT x 0 99999).map oV)) := by rw [List.map_map]; exact hD1
    refine ev_if (fun Q h => ⟨_, rfl, .none, ((words.drop 1).map fun x => numT x 0 99999).map oP, .non, .lst (SqL.of hD2) (dp_oVs _), rfl, sh_oPs _, _, rfl, h⟩) (fun c => ?_) (fun c => ?_)
    · have c : (((words.drop 1).map fun x => numT x 0 99999).map oP).any (fun z => PyData.eqv z .none) = true := c
      rw [any_none, decide_eq_true_eq] at c
      obtain ⟨x, hx, hno⟩ := List.mem_map.mp c
      exact no H1 e01 (stn ⟨x, hx, hno⟩)
    have c : (((words.drop 1).map fun x => numT x 0 99999).map oP).any (fun z => PyData.eqv z .none) = false := c
    rw [any_none, decide_eq_false_iff_not] at c
    have nums := fun i (hi : i + 1 < words.length) => nums_of c hi
    have hnl : ((words.drop 1).map fun x => oV (numT x 0 99999)).length = words.length - 1 := by rw [List.length_map, hdl]
    have hw1 := e01.lst (fun z => z) hw
    have w0 : (words.map V.str)[0]? = some (.str (wd words 0)) := wd_get (by omega)
    have S1 := S.x e01
    have hu : (A.deeper (envOfC "_law_stands" (defScope s_law_stands) s.heap.objs.size f cdv)).units + 1 < cLine := by have := hr.un; show (A.deeper _).units + 1 < _; omega
    have gP : DGet H1 d (.str "places") (some (.int ((r.1.getD 0 : Nat) : Int))) := DGet.k (k := .inr "places") S1.dk
    have gW : DGet H1 d (.str "ways") (some (.int ((r.2.1.length : Nat) : Int))) := DGet.k (k := .inr "ways") S1.dk
    have gL : DGet H1 d (.str "pairs") (some (.ref lp)) := DGet.k (k := .inr "pairs") S1.dk
    generalize hvs : ((words.drop 1).map fun x => oV (numT x 0 99999)) = vs at hD1 hnl nums
    try unfold tNext
    try dsimp only
    try unfold tSeq
    have eL : ∀ j : Nat, decide (V.int ((vs.length : Nat) : Int) = V.int ((j : Nat) : Int)) = decide (words.length = j + 1) := fun j => by rw [decide_eq_decide, vint_inj, hnl]; omega
    have ePl : ∀ z : Str, decide (V.str (wd words 0) = V.str z) = decide (wd words 0 = z) := fun z => by
      rw [decide_eq_decide]; exact ⟨fun z => V.str.inj z, fun z => congrArg V.str z⟩
    have lenR : ∀ {Q : V → Hp → Prop}, Q (.int ((vs.length : Nat) : Int)) H1 → ∃ p ys, [V.ref D] = [V.ref p] ∧ (SqL K H1 p ys ∨ SqT K H1 p ys) ∧ Q (.int (ys.length : Nat)) H1 := fun h => ⟨D, _, rfl, .inl (SqL.of hD1), h⟩
    refine ⟨fun σ' H' => H1 = H' ∧ σ' = [some (.ref d), some (.ref wl), some (.ref D), none, none] ∧ ¬ (wd words 0 = "places" ∧ words.length = 2), ?_, ?_⟩
    · refine ev_if (ev_and (fun Q h => ⟨_, rfl, wl, _, _, _, rfl, rfl, SqL.of hw1, at_of (j := 0) rfl w0, rfl, _, rfl, h⟩) fun _ => fun Q h => ⟨_, rfl, D, _, rfl, .inl (SqL.of hD1), rfl, _, rfl, h⟩) (fun q => ?_) (fun q => ?_)
      · rw [ePl, show (1 : Int) = ((1 : Nat) : Int) from rfl, eL, Bool.and_eq_true, decide_eq_true_eq, decide_eq_true_eq] at q
        obtain ⟨q1, q2⟩ := q
        obtain ⟨n, hn, hv⟩ := nums 0 (by omega)
        have hk := stp n q2 q1 hn
        have v0 : ∀ {Q : V → Hp → Prop}, Q (.int ((n : Nat) : Int)) H1 → ∃ v, V.ref D = v ∧ True := fun _ => ⟨_, rfl, trivial⟩
        refine ev_if (ev_or (fun Q h => ⟨_, rfl, d, _, rfl, gP, _, _, rfl, rfl, _, rfl, h⟩) fun _ => ev_not (ev_chain (x := .int 1) (y := .int ((n : Nat) : Int)) (z := .int 12) (fun Q h => h) (fun Q h => ⟨_, rfl, D, _, _, _, rfl, rfl, SqL.of hD1, at_of (j := 0) rfl hv, h⟩) (fun Q h => h) (fun Q h => ⟨_, _, rfl, rfl, h⟩) (fun Q h => ⟨_, _, rfl, rfl, h⟩))) (fun z => ?_) (fun z => ?_)
        · refine no H1 e01 ?_
          rw [hk]
          refine if_neg ?_
          rintro ⟨a1, a2, a3⟩
          rw [a1, Bool.or_eq_true, decide_eq_true_eq, Bool.not_eq_true', Bool.and_eq_false_iff, decide_eq_false_iff_not, decide_eq_false_iff_not] at z
          rcases z with z | z | z
          · exact absurd z (by decide)
          · omega
          · omega
        · rw [Bool.or_eq_false_iff, decide_eq_false_iff_not, Bool.not_eq_false', Bool.and_eq_true, decide_eq_true_eq, decide_eq_true_eq] at z
          obtain ⟨z1, z2, z3⟩ := z
          have hr0 : r.1 = none := by
            cases e : r.1 with
            | none => rfl
            | some m =>
              rw [e] at z1
              have := (RO.n12 m e).1
              exact absurd (show ((m : Nat) : Int) > 0 by omega) z1
          rw [if_pos ⟨hr0, by omega, by omega⟩] at hk
          obtain ⟨S2, x2⟩ := S1.put (T := T) (r' := (some n, r.2.1, r.2.2)) rfl
          have hk2 := k _ (some n, r.2.1, r.2.2) (by rw [hk]; rfl) S2 (e01.weak.trans x2)
          rw [hk] at hk2
          refine ⟨_, rfl, D, _, _, _, rfl, rfl, SqL.of hD1, at_of (j := 0) rfl hv, _, rfl, d, _, rfl, DPut.k (k := .inr "places") S1.dk (by show 3 < sizeLine; decide), ?_⟩
          exact hk2
      · rw [ePl, show (1 : Int) = ((1 : Nat) : Int) from rfl, eL, Bool.and_eq_false_iff, decide_eq_false_iff_not, decide_eq_false_iff_not] at q
        exact ⟨rfl, rfl, fun z => q.elim (fun y => y z.1) fun y => y z.2⟩
    rintro σ' H' ⟨rfl, rfl, hnp⟩
    have lt3 : ∀ {a b : Nat}, decide (((a : Nat) : Int) < ((b : Nat) : Int)) = decide (a < b) := fun {a b} => by rw [decide_eq_decide]; omega
    have hfew : decide (((vs.length : Nat) : Int) < 2) = decide (words.length < 3) := by rw [decide_eq_decide, hnl]; omega
    by_cases h3 : 3 ≤ words.length
    case neg =>
      refine ev_if (b := true) (fun Q h => ⟨_, rfl, D, _, rfl, .inl (SqL.of hD1), _, _, rfl, rfl, _, rfl, ?_⟩) (fun _ => no H1 e01 (stf (by omega) hnp)) (fun z => nomatch z)
      rw [hfew, decide_eq_true (by omega)]
      exact iteT h
    obtain ⟨x, hx, hvx⟩ := nums 0 (by omega)
    obtain ⟨y, hy, hvy⟩ := nums 1 (by omega)
    have g0 : ∀ Q : V → Hp → Prop, Q (.int ((x : Nat) : Int)) H1 → ∃ p xs i v, V.ref D = .ref p ∧ V.int 0 = .int i ∧ SqL K H1 p xs ∧ atI xs i = some v ∧ Q v H1 := fun Q h => ⟨D, _, _, _, rfl, rfl, SqL.of hD1, at_of (j := 0) rfl hvx, h⟩
    refine ev_if (ev_or (fun Q h => ⟨_, rfl, D, _, rfl, .inl (SqL.of hD1), _, _, rfl, rfl, _, rfl, h⟩) fun _ => ev_not (ev_chain (x := .int ((x : Nat) : Int)) (y := .int ((y : Nat) : Int)) (z := .int ((r.1.getD 0 : Nat) : Int)) (fun Q h => ⟨_, rfl, D, _, _, _, rfl, rfl, SqL.of hD1, at_of (j := 0) rfl hvx, h⟩) (fun Q h => ⟨_, rfl, D, _, _, _, rfl, rfl, SqL.of hD1, at_of (j := 1) rfl hvy, h⟩) (fun Q h => ⟨_, rfl, d, _, rfl, gP, h⟩) (fun Q h => ⟨_, _, rfl, rfl, h⟩) (fun Q h => ⟨_, _, rfl, rfl, h⟩))) (fun z => ?_) (fun z => ?_)
    · refine no H1 e01 (ste x y h3 hx hy fun q => ?_)
      rw [hfew, decide_eq_false (by omega), Bool.false_or, lt3, lt3, decide_eq_true q.1, decide_eq_true q.2] at z
      cases z
    rw [Bool.or_eq_false_iff, Bool.not_eq_false', Bool.and_eq_true, lt3, lt3, decide_eq_true_eq, decide_eq_true_eq] at z
    obtain ⟨_, hxy, hyn⟩ := z
    obtain ⟨n, hn⟩ : ∃ n, r.1 = some n := by
      cases e : r.1 with
      | none => rw [e] at hyn; exact absurd hyn (Nat.not_lt_zero _)
      | some n => exact ⟨n, rfl⟩
    rw [hn] at hyn
    have hyn : y < n := hyn
    have hn12 := n12 n hn
    obtain ⟨us, hu1, hul, hus⟩ := S1.pr
    refine ⟨_, rfl, d, _, rfl, gL, ?_⟩
    have w24 := RO.w24
    have p6 := RO.p6
    refine ⟨fun σ' H' => H1 = H' ∧ σ' = [some (.ref d), some (.ref wl), some (.ref D), none, some (.ref lp)] ∧ ¬ (wd words 0 = "way" ∧ words.length = 4), ?_, ?_⟩
    · refine ev_if (ev_and (fun Q h => ⟨_, rfl, wl, _, _, _, rfl, rfl, SqL.of hw1, at_of (j := 0) rfl w0, rfl, _, rfl, h⟩) fun _ => fun Q h => ⟨_, rfl, D, _, rfl, .inl (SqL.of hD1), rfl, _, rfl, h⟩) (fun q => ?_) (fun q => ?_)
      · rw [ePl, show (3 : Int) = ((3 : Nat) : Int) from rfl, eL, Bool.and_eq_true, decide_eq_true_eq, decide_eq_true_eq] at q
        obtain ⟨q1, q2⟩ := q
        obtain ⟨c0, hc, hvc⟩ := nums 2 (by omega)
        have hk := stw n x y c0 hn12 hn q2 q1 hx hy hc hxy hyn
        refine ev_if (ev_or (fun Q h => ⟨_, rfl, lp, _, rfl, .inl (SqL.of hu1), _, _, rfl, rfl, _, rfl, h⟩) fun _ => ev_or (fun Q h => ⟨_, rfl, d, _, rfl, gW, rfl, _, rfl, h⟩) fun _ => ev_not (ev_chain (x := .int 1) (y := .int ((c0 : Nat) : Int)) (z := .int 10000) (fun Q h => h) (fun Q h => ⟨_, rfl, D, _, _, _, rfl, rfl, SqL.of hD1, at_of (j := 2) rfl hvc, h⟩) (fun Q h => h) (fun Q h => ⟨_, _, rfl, rfl, h⟩) (fun Q h => ⟨_, _, rfl, rfl, h⟩))) (fun z => ?_) (fun z => ?_)
        · refine no H1 e01 ?_
          rw [hk]
          refine if_neg ?_
          rintro ⟨a1, a2, a3⟩
          rw [Bool.or_eq_true, Bool.or_eq_true, decide_eq_true_eq, decide_eq_true_eq, Bool.not_eq_true', Bool.and_eq_false_iff, decide_eq_false_iff_not, decide_eq_false_iff_not] at z
          rcases z with z | z | z | z
          · rw [hul, a1] at z; exact absurd z (by decide)
          · have := vint_inj.mp (show V.int ((r.2.1.length : Nat) : Int) = V.int ((24 : Nat) : Int) from z); omega
          · omega
          · omega
        · rw [Bool.or_eq_false_iff, Bool.or_eq_false_iff, decide_eq_false_iff_not, decide_eq_false_iff_not, Bool.not_eq_false', Bool.and_eq_true, decide_eq_true_eq, decide_eq_true_eq] at z
          obtain ⟨z1, z2, z3, z4⟩ := z
          have hp0 : r.2.2 = [] := List.eq_nil_of_length_eq_zero (by omega)
          have hw24 : r.2.1.length < 24 := by
            have : ¬ r.2.1.length = 24 := fun q => z2 (by rw [q]; rfl)
            omega
          rw [if_pos ⟨hp0, hw24, by omega, by omega⟩] at hk
          obtain ⟨S2, x2⟩ := S1.put (T := T) (r' := (some n, r.2.1 ++ [(x, y, c0)], r.2.2)) rfl
          have hk2 := k _ (some n, r.2.1 ++ [(x, y, c0)], r.2.2) (by rw [hk]; rfl) S2 (e01.weak.trans x2)
          rw [hk] at hk2
          refine ⟨_, rfl, d, _, rfl, gW, _, _, rfl, rfl, _, rfl, d, _, rfl, DPut.k (k := .inr "ways") S1.dk (by show 3 < sizeLine; decide), ?_⟩
          have es : putK (stK r lp) (.inr "ways") (V.int (((r.2.1.length : Nat) : Int) + 1)) = stK (some n, r.2.1 ++ [(x, y, c0)], r.2.2) lp := by
            have e1 : (((r.2.1 ++ [(x, y, c0)]).length : Nat) : Int) = ((r.2.1.length : Nat) : Int) + 1 := by rw [List.length_append, List.length_singleton]; omega
            show [_, _, _] = [_, _, _]
            rw [e1, hn]; rfl
          rw [es]
          exact hk2
      · rw [ePl, show (3 : Int) = ((3 : Nat) : Int) from rfl, eL, Bool.and_eq_false_iff, decide_eq_false_iff_not, decide_eq_false_iff_not] at q
        exact ⟨rfl, rfl, fun z => q.elim (fun y => y z.1) fun y => y z.2⟩
    rintro σ' H' ⟨rfl, rfl, hnw⟩
    have hk := str n x y hn12 hn h3 hnw hx hy hxy hyn
    have hDv : words.length = 3 → H1 D = some (.lst [.int ((x : Nat) : Int), .int ((y : Nat) : Int)]) := fun z => by
      have hl2 : vs.length = 2 := by omega
      match vs, hl2, hvx, hvy with
      | [a, b], _, hvx, hvy =>
        rw [hD1, show a = _ from Option.some.inj hvx, show b = _ from Option.some.inj hvy]
    have hDlp : D ≠ lp := fun z => by
      obtain ⟨us0, h0, _⟩ := S.pr
      rw [z, e0.lst (fun z => z) h0] at hD; cases hD
    have eNe : ∀ j : Nat, decide (¬ V.int ((vs.length : Nat) : Int) = V.int ((j : Nat) : Int)) = !decide (words.length = j + 1) := fun j => by rw [← eL, decide_not]
    have h6 : decide (V.int ((us.length : Nat) : Int) = V.int 6) = decide (r.2.2.length = 6) := by rw [decide_eq_decide, show (6 : Int) = ((6 : Nat) : Int) from rfl, vint_inj, hul]
    by_cases h3' : words.length = 3
    case neg =>
      refine ev_if (ev_or (b := true) (fun Q h => ⟨_, rfl, wl, _, _, _, rfl, rfl, SqL.of hw1, at_of (j := 0) rfl w0, rfl, _, rfl, h⟩) fun _ => fun Q h => ⟨_, rfl, D, _, rfl, .inl (SqL.of hD1), rfl, _, rfl, ?_⟩) (fun _ => no H1 e01 (hk.trans (if_neg fun z => h3' z.2.1))) (fun z => by rw [Bool.or_true] at z; cases z)
      have : ¬ V.int ((vs.length : Nat) : Int) = V.int 2 := fun z => h3' (by have := vint_inj.mp (show V.int ((vs.length : Nat) : Int) = V.int ((2 : Nat) : Int) from z); omega)
      first
        | (rw [decide_eq_true this]; exact iteT h)
        | (rw [decide_eq_false this]; exact iteT h)
    have hD3 := hDv h3'
    refine ev_if (ev_or (fun Q h => ⟨_, rfl, wl, _, _, _, rfl, rfl, SqL.of hw1, at_of (j := 0) rfl w0, rfl, _, rfl, h⟩) fun _ => ev_or (fun Q h => ⟨_, rfl, D, _, rfl, .inl (SqL.of hD1), rfl, _, rfl, h⟩) fun _ => ev_or (fun Q h => ⟨_, rfl, lp, _, rfl, .inl (SqL.of hu1), rfl, _, rfl, h⟩) fun _ => fun Q h => ⟨_, rfl, _, rfl, prL2 (x, y), r.2.2.map prL2, .lst (SqL.of hD3) (.cons (.int _) (.cons (.int _) .nil)), .lst (SqL.of hu1) (dp_prLs hul fun i q hq => by obtain ⟨a, g1, g2, g3⟩ := hus i q hq; exact ⟨a, g1, g3⟩), sh_prL _, sh_prLs _, _, rfl, h⟩) (fun z => ?_) (fun z => ?_)
    · refine no H1 e01 (hk.trans (if_neg ?_))
      rintro ⟨a1, a2, a3, a4⟩
      have z : (decide (¬ V.str (wd words 0) = V.str "pair") || (decide (¬ V.int ((vs.length : Nat) : Int) = V.int ((2 : Nat) : Int)) || (decide (V.int ((us.length : Nat) : Int) = V.int 6) || (r.2.2.map prL2).any fun z => PyData.eqv z (prL2 (x, y))))) = true := by
        first
          | exact z
          | (simpa using z)
      rw [eNe, h6, any_prL, decide_not, ePl, decide_eq_true a1, decide_eq_true a2, decide_eq_false (by omega), decide_eq_false a4] at z
      cases z
    · have z : (decide (¬ V.str (wd words 0) = V.str "pair") || (decide (¬ V.int ((vs.length : Nat) : Int) = V.int ((2 : Nat) : Int)) || (decide (V.int ((us.length : Nat) : Int) = V.int 6) || (r.2.2.map prL2).any fun z => PyData.eqv z (prL2 (x, y))))) = false := by
        first
          | exact z
          | (simpa using z)
      rw [eNe, h6, any_prL, decide_not, ePl, Bool.or_eq_false_iff, Bool.or_eq_false_iff, Bool.or_eq_false_iff, Bool.not_eq_false', decide_eq_true_eq, decide_eq_false_iff_not, decide_eq_false_iff_not] at z
      obtain ⟨z1, _, z3, z4⟩ := z
      have hp6 : r.2.2.length < 6 := by omega
      rw [if_pos ⟨z1, h3', hp6, z4⟩] at hk
      obtain ⟨S2, x2⟩ := S1.add (T := T) hu1 hD3 hDlp
      have hk2 := k _ (some n, r.2.1, r.2.2 ++ [(x, y)]) (by rw [hk]; rfl) (by rw [hn] at S2; exact S2) (e01.weak.trans x2)
      rw [hk] at hk2
      refine ⟨_, rfl, .inl ⟨rfl, _, SqL.of hu1⟩, _, rfl, lp, us, _, rfl, rfl, hu1, small1000 (by omega), ?_⟩
      exact hk2
end
end Mw

set_option Elab.async false
set_option linter.all false
set_option maxRecDepth 100000
set_option maxHeartbeats 4000000
namespace Mw
open PySem PySem.Spec PyProof.Rows L2 GE NumText
theorem good_rs {L : List Str} {r : RS} (G : Good L r) : RsOk r := by
  cases e : r.1 with
  | none =>
    obtain ⟨_, h2, h3⟩ := G.at0 e
    exact ⟨(fun n z => by rw [e] at z; cases z), (by rw [h2]; exact Nat.zero_le _), (by rw [h3]; exact Nat.zero_le _)⟩
  | some n =>
    obtain ⟨_, h1, h2, h3, _, _, h6, _⟩ := G.at1 n e
    exact ⟨(fun m z => by rw [e] at z; rw [← Option.some.inj z]; exact ⟨h1, h2⟩), h3, h6⟩
def dueV : Sum Nat RS → V
  | .inl j => .int ((j : Nat) : Int)
  | .inr _ => .non
def spWrong (T : List Addr) : Sp := fun vs H Q _ => ∃ (text : Str), vs = [.str text] ∧ text.length ≤ 90000 ∧ ∀ H', Ext T noM H H' → Q (dueV (outT text)) H'
/-- the lines that the law walks -/
def linesW (text : Str) : List Str := if restT text = Str.empty then (Txt.split text "\n").dropLast else Txt.split text "\n"
theorem linesW_eq {text : Str} (h : linesW text ≠ []) : linesW text = linesT text := by
  obtain ⟨A, b, hs⟩ := split_last text
  have hr : restT text = b := by unfold restT; rw [hs]; simp
  unfold linesW linesT at *
  rw [hr] at h ⊢
  rw [hs] at h ⊢
  rw [List.dropLast_concat, List.getLastD_concat] at *
  by_cases hb : b = Str.empty
  · rw [if_pos hb] at h ⊢
    rw [if_neg (by rintro (z | z); exact z hb; exact h z)]
  · rw [if_neg hb, if_pos (.inl hb)]
theorem linesW_nil {text : Str} (h : linesW text = []) : outT text = .inl 1 := by
  obtain ⟨A, b, hs⟩ := split_last text
  have hr : restT text = b := by unfold restT; rw [hs]; simp
  have hb : b = Str.empty := by
    unfold linesW at h
    rw [hr, hs] at h
    by_cases hb : b = Str.empty
    · exact hb
    · rw [if_neg hb] at h; simp at h
  have hA : A = [] := by
    unfold linesW at h
    rw [hr, if_pos hb, hs, List.dropLast_concat] at h
    exact h
  subst hb hA
  have hL : linesT text = [Str.empty] := by unfold linesT; rw [hs]; simp
  unfold outT
  rw [hL]
  have e : runB r0 0 [Str.empty] = .inl 1 := by
    show (match lineT r0 Str.empty with
      | none => Sum.inl 1
      | some r' => runB r' 1 []) = _
    rw [line_nil]
  rw [e]
section
variable {P : Program} {w : World} {K : PySem.W.Frag} {mg : Str → Option Value} {base : Heap} {T : List Addr} {aC aBadText : Addr}
theorem ok__law_wrong {f : Addr} {fd : FuncData} (F : Fun K "_law_wrong" "_law_wrong" s_law_wrong f fd) (m_range : mg "range" = none) (m_len : mg "len" = none) (m_max : mg "max" = none) {f_law_stands : Addr} {fd_law_stands : FuncData} (F_law_stands : Fun K "_law_stands" "_law_stands" s_law_stands f_law_stands fd_law_stands) (G_law_stands : FnOk P w K mg base CX0 2 f_law_stands fd_law_stands ["state", "words"] (spStands T)) (b_law_stands : Binds K fd_law_stands ["state", "words"] []) (g_law_stands : mg "_law_stands" = some (.ref f_law_stands)) : FnOk P w K mg base CX0 3 f fd ["text"] (spWrong T) := by
  refine F.ok sc_law_wrong (fun vs H Q E h => ?_) (fun cdv A outer s H vs Q E hr h => ?_)
  · obtain ⟨text, rfl, hlen, k⟩ := h
    rfl
  · obtain ⟨text, rfl, hlen, k⟩ := h
    refine ⟨_, (pss_cons (ps_set (i := 1) sc_law_wrong.nd rfl (Or.inl rfl) (pe_split (pv 0) pe_str))
      (pss_cons (ps_set (i := 2) sc_law_wrong.nd rfl (Or.inl rfl) (pe_ix ix_list (pv 1) (pe_op op_sub (pe_callB call_len_seq (by rfl) m_len PySem.boot_len (pa_cons (pv 1) pa_nil)) pe_int) (fun _ _ => rfl)))
      (Evl.pss_cut (ps_if (pt_cmpR op_eq (pv 2) pe_str (nomark _)) (pss_one (ps_set (i := 1) sc_law_wrong.nd rfl (Or.inl rfl) (pe_slice sl_list (pv 1) po_none (po_some (pe_op op_sub (pe_callB call_len_seq (by rfl) m_len PySem.boot_len (pa_cons (pv 1) pa_nil)) pe_int))))) pss_nil)
      (pss_cons (ps_set (i := 3) sc_law_wrong.nd rfl (Or.inl rfl) (pe_disp (pps_cons pe_str pe_int (pps_cons pe_str pe_int (pps_cons pe_str (pe_lst pa_nil) pps_nil))) rfl rfl (by simp) (by decide)))
      (pss_cons (ps_for PassesOwn.never rfl (pi_range1 (by rfl) m_range (pa_cons (pe_callB call_len_seq (by rfl) m_len PySem.boot_len (pa_cons (pv 1) pa_nil)) pa_nil)) (pg_name (i := 4) sc_law_wrong.nd rfl (Or.inl rfl)) (pss_one (ps_if (pt_not (pt_val (pe_call G_law_stands hr (by rfl) g_law_stands F_law_stands.kp b_law_stands .nil pass0 (pa_cons (pv 3) (pa_cons (pe_split (pe_ix ix_list (pv 1) (pv 4) (fun _ _ => rfl)) pe_str) pa_nil))))) (pss_one (ps_ret (pe_op op_add (pv 4) pe_int))) pss_nil)))
      (pss_cons (ps_if (PW.pt (pw_or (pt_cmpR op_eq (pe_callB call_len_seq (by rfl) m_len PySem.boot_len (pa_cons (pv 1) pa_nil)) pe_int (nomark _)) (pw_or1 (pt_cmpR op_ne (pv 2) pe_str (nomark _))))) (pss_one (ps_ret (pe_callB (call_max2 rfl) (by rfl) m_max (by decide +kernel) (pa_cons pe_int (pa_cons (pe_callB call_len_seq (by rfl) m_len PySem.boot_len (pa_cons (pv 1) pa_nil)) pa_nil))))) pss_nil)
      (pss_one (ps_ret pe_non)))))))), ?_⟩
    obtain ⟨A, b, hs⟩ := split_last text
    obtain ⟨hL1, hL2⟩ := lines_ln text
    have hrest : restT text = b := by unfold restT; rw [hs]; simp
    have hAl : A.length ≤ text.length := by
      have := (split_len (x := text) ch_nl).1
      rw [hs, List.length_append, List.length_singleton] at this
      omega
    have big : ∀ z : Nat, z ≤ 100000 → z < sizeLine := fun z hz => Nat.lt_of_le_of_lt hz (by decide)
    refine ⟨_, rfl, ⟨_, rfl⟩, text, "\n", rfl, rfl, by decide, Nat.le_trans (show _ ≤ 100000 by omega) (by decide), fun wl hwl => ?_⟩
    have e1 : Ext T noM H (upd H wl (.lst ((Txt.split text "\n").map V.str))) := Ext.new hwl
    have h1 : (upd H wl (.lst ((Txt.split text "\n").map V.str))) wl = some (.lst ((Txt.split text "\n").map V.str)) := upd_same
    generalize (upd H wl (.lst ((Txt.split text "\n").map V.str))) = H1 at e1 h1 ⊢
    have hsl : ((Txt.split text "\n").map V.str).length = A.length + 1 := by rw [hs, List.length_map, List.length_append, List.length_singleton]
    have hlast : ((Txt.split text "\n").map V.str)[A.length]? = some (.str b) := by
      rw [hs, List.map_append, List.getElem?_append_right (by rw [List.length_map]; exact Nat.le_refl _), List.length_map, Nat.sub_self]; rfl
    have hi1 : (((Txt.split text "\n").map V.str).length : Int) - 1 = ((A.length : Nat) : Int) := by rw [hsl]; omega
    refine ⟨_, rfl, _, rfl, wl, _, rfl, .inl (SqL.of h1), _, _, rfl, rfl, wl, _, _, _, rfl, rfl, SqL.of h1, at_of (j := A.length) hi1 hlast, ?_⟩
    dsimp only [gName]
    refine ⟨fun σ' H' => ∃ l2, σ' = [some (.str text), some (.ref l2), some (.str b), none, none] ∧ H' l2 = some (.lst ((linesW text).map V.str)) ∧ Ext T noM H H', ?_, ?_⟩
    · refine ev_if (fun Q h => ⟨_, rfl, rfl, _, rfl, h⟩) (fun c => ?_) (fun c => ?_)
      · have hb : b = Str.empty := V.str.inj (of_decide_eq_true c)
        refine ⟨_, rfl, _, rfl, wl, _, rfl, .inl (SqL.of h1), _, _, rfl, rfl, ((A.length : Nat) : Int), by rw [← hi1], wl, _, rfl, SqL.of h1, fun l2 hl2 => ⟨l2, rfl, ?_, e1.trans (Ext.new hl2)⟩⟩
        have hW : linesW text = A := by unfold linesW; rw [hrest, if_pos hb, hs, List.dropLast_concat]
        rw [upd_same, cutTo, hW, hs, List.map_append, List.take_append_of_le_length (by rw [List.length_map]; exact Nat.le_refl _), List.take_of_length_le (by rw [List.length_map]; exact Nat.le_refl _)]
      · have hb : ¬ b = Str.empty := fun z => by rw [decide_eq_true (show V.str b = V.str "" from congrArg V.str z)] at c; cases c
        have hW : linesW text = Txt.split text "\n" := by unfold linesW; rw [hrest, if_neg hb]
        exact ⟨wl, rfl, by rw [hW]; exact h1, e1⟩
    rintro σ' H2 ⟨l2, rfl, h2, e2⟩
    have hWl : (linesW text).length ≤ 90001 := by
      by_cases z : linesW text = []
      · rw [z]; exact Nat.zero_le _
      · rw [linesW_eq z]; omega
    refine fun d hd => ?_
    have e3 : Ext T noM H2 (upd H2 d (.dK [])) := Ext.new hd
    have hd3 : (upd H2 d (.dK [])) d = some (.dK []) := upd_same
    generalize (upd H2 d (.dK [])) = H3 at e3 hd3 ⊢
    refine ⟨by show 0 ≤ sizeLine; decide, fun lp hlp => ?_⟩
    have e4 : Ext T noM H3 (upd H3 lp (.lst [])) := Ext.new hlp
    have hdl : d ≠ lp := fun z => by rw [← z, hd3] at hlp; cases hlp
    have hd4 : (upd H3 lp (.lst [])) d = some (.dK []) := by rw [upd_ne hdl]; exact hd3
    have hlp4 : (upd H3 lp (.lst [])) lp = some (.lst []) := upd_same
    have hlp2 : H2 lp = none := e3.fr lp hlp
    generalize (upd H3 lp (.lst [])) = H4 at e4 hd4 hlp4 ⊢
    refine ⟨hd4, stK r0 lp, rfl, by show 3 ≤ 15; decide, ?_⟩
    have S5 : StAt (upd H4 d (.dK (stK r0 lp))) d lp r0 := ⟨upd_same, [], by rw [upd_ne hdl.symm]; exact hlp4, rfl, fun i q hq => nomatch hq⟩
    have e5 : Ext T noM H2 (upd H4 d (.dK (stK r0 lp))) := (e3.trans e4).mut (.inl hd) hd4 fun ps z => nomatch z
    show tSeq _ _ _ _ (upd H4 d (.dK (stK r0 lp)))
    generalize (upd H4 d (.dK (stK r0 lp))) = H5 at S5 e5 ⊢
    have h25 := e5.lst (fun z => z) h2
    have hM : ∀ b, StM d lp b → H2 b = none := fun b hb => hb.elim (fun z => by rw [z]; exact hd) fun z => by rw [z]; exact hlp2
    refine ⟨_, rfl, l2, _, rfl, .inl (SqL.of h25), _, rfl, by rw [List.length_map]; omega, by rw [List.length_map]; omega, ?_⟩
    refine for_range (lo := 0) (n := ((((linesW text).map V.str).length : Nat) : Int).toNat) (fun i σ' H' => ∃ y r, σ' = [some (.str text), some (.ref l2), some (.str b), some (.ref d), y] ∧ runB r0 0 ((linesW text).take i) = .inr r ∧ StAt H' d lp r ∧ Ext T noM H2 H') ⟨none, r0, rfl, rfl, S5, e5⟩ ?_ ?_
    · rintro i σ' H6 hi ⟨y, r, rfl, hr, S6, e6⟩
      rw [List.length_map] at hi
      have hiw : i < (linesW text).length := by omega
      have hWT : linesW text = linesT text := linesW_eq fun z => by rw [z] at hiw; exact absurd hiw (Nat.not_lt_zero _)
      obtain ⟨l, hl⟩ : ∃ l, (linesW text)[i]? = some l := ⟨_, List.getElem?_eq_getElem hiw⟩
      have hll : l.length ≤ 90000 := by have := hL2 l (by rw [← hWT]; exact List.mem_of_getElem? hl); omega
      have hz : (0 : Int) + (i : Int) = (i : Int) := Int.zero_add _
      rw [hz]
      have h26 := e6.lst (fun z => z) h2
      have RO := good_rs (by have G := good_run good0 hr; exact G)
      refine ⟨_, rfl, _, rfl, _, rfl, l2, _, _, _, rfl, rfl, SqL.of h26, at_of (j := i) rfl (by rw [List.getElem?_map, hl]; rfl), ⟨_, rfl⟩, l, " ", rfl, rfl, by decide, Nat.le_trans (show _ ≤ 100000 by omega) (by decide), fun w2 hw2 => ?_⟩
      have e7 : Ext T noM H6 (upd H6 w2 (.lst ((Txt.split l " ").map V.str))) := Ext.new hw2
      have hw7 : (upd H6 w2 (.lst ((Txt.split l " ").map V.str))) w2 = some (.lst ((Txt.split l " ").map V.str)) := upd_same
      have hwlp : w2 ≠ lp := fun z => by
        obtain ⟨us, q, _⟩ := S6.pr
        rw [z, q] at hw2; cases hw2
      have S7 := S6.x e7
      generalize (upd H6 w2 (.lst ((Txt.split l " ").map V.str))) = H7 at e7 hw7 S7 ⊢
      refine ⟨d, lp, w2, l, r, rfl, S7, RO, hw7, hwlp, hll, fun H8 r' er S8 e8 => ⟨_, rfl, ?_⟩⟩
      have e9 := (e6.trans e7).drop e8 hM
      cases hq : lineT r l with
      | none =>
        refine iteT ?_
        refine ⟨_, rfl, _, _, rfl, rfl, ?_⟩
        have hk := k H8 (e2.trans e9)
        have : outT text = .inl (i + 1) := by
          unfold outT
          rw [← hWT, runB_fail hr hl hq]
        rw [this] at hk
        exact hk
      | some q' =>
        rw [hq] at er
        have er : r' = q' := er
        subst er
        exact iteF ⟨_, r', rfl, runB_step hr hl hq, S8, e9⟩
    rintro σ' H6 ⟨y, r, rfl, hr, S6, e6⟩
    rw [List.length_map, Int.toNat_natCast, List.take_length] at hr
    have hk := k H6 (e2.trans e6)
    have h26 := e6.lst (fun z => z) h2
    have hmx : ((((linesW text).map V.str).length : Nat) : Int) = (((linesW text).length : Nat) : Int) := by rw [List.length_map]
    dsimp only
    unfold tSeq
    refine ev_if (ev_or (fun Q h => ⟨_, rfl, l2, _, rfl, .inl (SqL.of h26), rfl, _, rfl, h⟩) fun _ => fun Q h => ⟨_, rfl, rfl, _, rfl, h⟩) (fun c => ?_) (fun c => ?_)
    · refine ⟨_, rfl, l2, _, rfl, .inl (SqL.of h26), _, _, rfl, ?_⟩
      rw [hmx]
      by_cases z : linesW text = []
      · rw [linesW_nil z] at hk
        rw [z]
        exact hk
      · have hWT := linesW_eq z
        have hb : ¬ b = Str.empty := fun hb => by
          rw [hmx] at c
          have hne : ¬ V.int (((linesW text).length : Nat) : Int) = V.int 0 := fun q => z (List.eq_nil_of_length_eq_zero (vint_inj.mp (show V.int (((linesW text).length : Nat) : Int) = V.int ((0 : Nat) : Int) from q)))
          rw [decide_eq_false hne, hb] at c
          revert c
          decide
        have : outT text = .inl (linesW text).length := by
          unfold outT
          rw [← hWT, hr]
          show (if restT text = Str.empty then _ else _) = _
          rw [hrest, if_neg hb]
        rw [this] at hk
        have hpos : 0 < (linesW text).length := List.length_pos_iff.mpr z
        have e : (if (((linesW text).length : Nat) : Int) > 1 then (((linesW text).length : Nat) : Int) else 1) = (((linesW text).length : Nat) : Int) := by split <;> omega
        rw [e]
        exact hk
    · rw [Bool.or_eq_false_iff] at c
      obtain ⟨c1, c2⟩ := c
      have hb : b = Str.empty := Classical.byContradiction fun z => by
        have hb : ¬ V.str b = V.str "" := fun y => z (V.str.inj y)
        rw [decide_eq_false hb] at c2
        cases c2
      have z : linesW text ≠ [] := fun z => by rw [hmx, z] at c1; cases c1
      have : outT text = .inr r := by
        unfold outT
        rw [← linesW_eq z, hr]
        show (if restT text = Str.empty then _ else _) = _
        rw [hrest, if_pos hb]
      rw [this] at hk
      exact hk
end
end Mw

set_option Elab.async false
set_option linter.all false
set_option maxRecDepth 100000
set_option maxHeartbeats 4000000
namespace Mw
open PySem PySem.Spec PyProof.Rows L2 GE NumText
def tot (l : List Str) : Nat := (l.map (·.length)).sum
theorem tot_app (a b : List Str) : tot (a ++ b) = tot a + tot b := by unfold tot; rw [List.map_append, List.sum_append]
theorem tot_td (l : List Str) : ∀ (i j : Nat), i ≤ j → tot (l.take i) + tot (l.drop j) ≤ tot l := fun i j h => by
  have e : tot (l.take i) + tot (l.drop i) = tot l := by rw [← tot_app, List.take_append_drop]
  have e2 : tot ((l.drop i).take (j - i)) + tot ((l.drop i).drop (j - i)) = tot (l.drop i) := by rw [← tot_app, List.take_append_drop]
  rw [List.drop_drop, show i + (j - i) = j by omega] at e2
  omega
theorem tot_mem {l : List Str} {x : Str} (h : x ∈ l) : x.length ≤ tot l := by
  induction l with
  | nil => cases h
  | cons a l ih =>
    have e : tot (a :: l) = a.length + tot l := rfl
    rcases List.mem_cons.mp h with z | z
    · rw [z, e]; omega
    · have := ih z; omega
theorem tot_le {l : List Str} {b : Nat} (h : ∀ x ∈ l, x.length ≤ b) : tot l ≤ l.length * b := lens_le h
theorem tot_set : ∀ (l : List Str) (i : Nat) (y : Str), tot (l.set i y) ≤ tot l + y.length
  | [], i, y => Nat.zero_le _
  | a :: l, 0, y => by
    show y.length + tot l ≤ a.length + tot l + y.length
    omega
  | a :: l, i + 1, y => by
    have ih := tot_set l i y
    show a.length + tot (l.set i y) ≤ a.length + tot l + y.length
    omega
structure Lim (N B S : Nat) (L : List Str) : Prop where
  n : L.length ≤ N
  b : ∀ l ∈ L, l.length ≤ B
  t : tot L ≤ S
theorem Lim.mid {N B S : Nat} {L mid : List Str} {i j : Nat} {B' M : Nat} (h : Lim N B S L) (hij : i ≤ j) (h1 : mid.length ≤ 26) (h2 : ∀ l ∈ mid, l.length ≤ B') (h3 : tot mid ≤ M) (hB : B ≤ B') : Lim (N + 26) B' (S + M) (L.take i ++ mid ++ L.drop j) := by
  refine ⟨?_, fun l hl => ?_, ?_⟩
  · have := h.n
    rw [List.length_append, List.length_append, List.length_take, List.length_drop]; omega
  · rcases List.mem_append.mp hl with z | z
    · rcases List.mem_append.mp z with z | z
      · have := h.b l (List.mem_of_mem_take z); omega
      · exact h2 l z
    · have := h.b l (List.mem_of_mem_drop z); omega
  · have := tot_td L i j hij
    have := h.t
    rw [tot_app, tot_app]; omega
theorem joinL_len (s : List Nat) : ∀ (l : List (List Nat)), (TL.joinL s l).length ≤ (l.map List.length).sum + l.length * s.length
  | [] => Nat.zero_le _
  | [p] => by
    show p.length ≤ _
    simp
  | p :: q :: r => by
    have ih := joinL_len s (q :: r)
    show (p ++ (s ++ TL.joinL s (q :: r))).length ≤ _
    rw [List.length_append, List.length_append, List.map_cons, List.sum_cons, List.length_cons, Nat.add_mul, Nat.one_mul]
    omega
theorem join_ln (ls : List Str) : (Txt.join " " ls).length ≤ tot ls + ls.length := by
  have e : chs_ (Txt.join " " ls) = TL.joinL [32] (ls.map chs_) := by
    rw [TL.join_eq]
    exact TL.tl_join " " ls
  rw [ln_ch, e]
  refine Nat.le_trans (joinL_len _ _) ?_
  rw [List.map_map, List.length_map]
  have : (ls.map (List.length ∘ chs_)).sum = tot ls := by
    unfold tot
    congr 1
  rw [this]
  exact Nat.le_of_eq (by rw [show [32].length = 1 from rfl, Nat.mul_one])
def PStr (b : Nat) (vs : List V) : Prop := ∀ v ∈ vs, ∃ y : Str, v = .str y ∧ y.length ≤ b
theorem PStr.app {b : Nat} {vs us : List V} (h : PStr b vs) (g : PStr b us) : PStr b (vs ++ us) := fun v hv => (List.mem_append.mp hv).elim (h v) (g v)
theorem PStr.mono {b c : Nat} {vs : List V} (h : PStr b vs) (hb : b ≤ c) : PStr c vs := fun v hv => let ⟨y, e, l⟩ := h v hv; ⟨y, e, Nat.le_trans l hb⟩
theorem PStr.nil {b : Nat} : PStr b [] := fun v hv => nomatch hv
theorem PStr.cons {b : Nat} {y : Str} {vs : List V} (h : y.length ≤ b) (g : PStr b vs) : PStr b (.str y :: vs) := fun v hv => (List.mem_cons.mp hv).elim (fun e => ⟨y, e, h⟩) (g v)
/-- t makes a list with this property, and draws perhaps -/
def GivesP (T : List Addr) (p s : Addr) (t : TE) (σ : L2.St) (H : Hp) (Pr : List V → Prop) : Prop := ∀ Q : V → Hp → Prop, (∀ a xs H', Pr xs → H' a = some (.lst xs) → a ≠ p → PoolAt H' p s → Ext T (atP p) H H' → Q (.ref a) H') → t σ H Q
theorem GivesP.cat {T : List Addr} {p s : Addr} {tA tB : TE} {σ : L2.St} {H : Hp} {A B : List V → Prop} (gA : GivesP T p s tA σ H A) (gB : ∀ H', PoolAt H' p s → Ext T (atP p) H H' → GivesP T p s tB σ H' B) (hA : ∀ xs, A xs → xs.length ≤ 10000) (hB : ∀ xs, B xs → xs.length ≤ 10000) :
    GivesP T p s (tOp rCat tA tB) σ H (fun zs => ∃ xs ys, A xs ∧ B ys ∧ zs = xs ++ ys) := fun Q h => gA _ fun a xs H1 ax ha hap hP1 e1 => gB H1 hP1 e1 _ fun b ys H2 bx hb hbp hP2 e2 => by
  refine ⟨a, b, xs, ys, rfl, rfl, e2.lst hap ha, hb, Nat.le_trans (Nat.add_le_add (hA _ ax) (hB _ bx)) (by decide), fun q hq => ?_⟩
  exact h q _ _ ⟨xs, ys, ax, bx, rfl⟩ upd_same (hP2.ne hq).1 (hP2.keep (T := T) (Ext.new hq)) ((e1.trans e2).trans (Ext.new hq))
theorem GivesP.imp {T : List Addr} {p s : Addr} {t : TE} {σ : L2.St} {H : Hp} {A B : List V → Prop} (g : GivesP T p s t σ H A) (h : ∀ xs, A xs → B xs) : GivesP T p s t σ H B := fun Q k => g Q fun a xs H' ax => k a xs H' (h xs ax)
theorem GivesP.new {T : List Addr} {p s : Addr} {t : TE} {σ : L2.St} {H : Hp} {A : List V → Prop} {xs : List V} (hP : PoolAt H p s) (hA : A xs) (h : ∀ Q : V → Hp → Prop, (∀ a, H a = none → Q (.ref a) (upd H a (.lst xs))) → t σ H Q) : GivesP T p s t σ H A := fun Q k =>
  h Q fun a ha => k a xs _ hA upd_same (hP.ne ha).1 (hP.keep (T := T) (Ext.new ha)) (Ext.new ha)
theorem GivesP.var {T : List Addr} {p s : Addr} {i : Nat} {a : Addr} {σ : L2.St} {H : Hp} {A : List V → Prop} {xs : List V} (hP : PoolAt H p s) (hA : A xs) (ha : H a = some (.lst xs)) (hap : a ≠ p) (hs : σ[i]? = some (some (.ref a))) : GivesP T p s (tVar i) σ H A := fun Q k => ⟨_, hs, k a xs H hA ha hap hP (Ext.refl _ _ _)⟩
def SPr (B : Nat) (xs : List V) : Prop := PStr (3 * B + 5000) xs ∧ xs.length ≤ 100
theorem SPr.app {B : Nat} {xs ys : List V} (h : SPr B xs) (g : PStr (3 * B + 5000) ys) (hl : ys.length ≤ 20) (hx : xs.length ≤ 80) : SPr B (xs ++ ys) := ⟨h.1.app g, by rw [List.length_append]; omega⟩
def MidOk (B : Nat) (xs : List V) : Prop := ∃ mid : List Str, xs = mid.map V.str ∧ mid.length ≤ 26 ∧ (∀ l ∈ mid, l.length ≤ 4 * B + 5001) ∧ tot mid ≤ 4 * B + 5301
theorem MidOk.one {B : Nat} {y : Str} (h : y.length ≤ 4 * B + 5001) : MidOk B [.str y] := ⟨[y], rfl, by show 1 ≤ 26; decide, fun l hl => by rw [List.mem_singleton.mp hl]; exact h, by show y.length + 0 ≤ _; omega⟩
theorem MidOk.small {B : Nat} {mid : List Str} (h : mid.length ≤ 26) (g : ∀ l ∈ mid, l.length ≤ 100) : MidOk B (mid.map V.str) := ⟨mid, rfl, h, fun l hl => Nat.le_trans (g l hl) (by omega), by have h1 := tot_le g; have h2 : mid.length * 100 ≤ 26 * 100 := Nat.mul_le_mul_right _ h; omega⟩
theorem MidOk.len {B : Nat} {xs : List V} (h : MidOk B xs) : xs.length ≤ 10000 := by
  obtain ⟨mid, rfl, h, _⟩ := h
  rw [List.length_map]; omega
def spSpoilt (T : List Addr) : Sp := fun vs H Q _ => ∃ (p s la : Addr) (L : List Str) (B S : Nat), vs = [.ref p, .ref la] ∧ PoolAt H p s ∧ H la = some (.lst (L.map V.str)) ∧ la ≠ p ∧ 1 ≤ L.length ∧ Lim 60 B S L ∧ B ≤ 6000 ∧ S ≤ 10000 ∧
  ∀ lb L' H', H' lb = some (.lst (L'.map V.str)) → lb ≠ p → Lim (L.length + 26) (4 * B + 5001) (S + (4 * B + 5301)) L' → PoolAt H' p s → Ext T (atP p) H H' → Q (.ref lb) H'
section
variable {P : Program} {w : World} {K : PySem.W.Frag} {mg : Str → Option Value} {base : Heap} {T : List Addr} {aC aBadText : Addr}
theorem ok__law_spoilt {f : Addr} {fd : FuncData} (F : Fun K "_law_spoilt" "_law_spoilt" s_law_spoilt f fd) (m_len : mg "len" = none) (m_str : mg "str" = none) (m_range : mg "range" = none) {f_law_draw : Addr} {fd_law_draw : FuncData} (F_law_draw : Fun K "_law_draw" "_law_draw" s_law_draw f_law_draw fd_law_draw) (G_law_draw : FnOk P w K mg base CX0 2 f_law_draw fd_law_draw ["pool", "many"] (spDraw T)) (b_law_draw : Binds K fd_law_draw ["pool", "many"] []) (g_law_draw : mg "_law_draw" = some (.ref f_law_draw)) {f_law_pick : Addr} {fd_law_pick : FuncData} (F_law_pick : Fun K "_law_pick" "_law_pick" s_law_pick f_law_pick fd_law_pick) (G_law_pick : FnOk P w K mg base CX0 2 f_law_pick fd_law_pick ["pool", "rows"] (spPick T)) (b_law_pick : Binds K fd_law_pick ["pool", "rows"] []) (g_law_pick : mg "_law_pick" = some (.ref f_law_pick)) : FnOk P w K mg base CX0 3 f fd ["pool", "lines"] (spSpoilt T) := by
  refine F.ok sc_law_spoilt (fun vs H Q E h => ?_) (fun cdv A outer s H vs Q E hr h => ?_)
  · obtain ⟨p, s, la, L, B, S, rfl, hP, hla, hlp, n1, LM, hB, hS, k⟩ := h
    rfl
  · obtain ⟨p, s, la, L, B, S, rfl, hP, hla, hlp, n1, LM, hB, hS, k⟩ := h
    refine ⟨_, (pss_cons (ps_set (i := 2) sc_law_spoilt.nd rfl (Or.inl rfl) (pe_call G_law_draw hr (by rfl) g_law_draw F_law_draw.kp b_law_draw .nil pass0 (pa_cons (pv 0) (pa_cons (pe_callB call_len_seq (by rfl) m_len PySem.boot_len (pa_cons (pv 1) pa_nil)) pa_nil))))
      (pss_cons (ps_set (i := 3) sc_law_spoilt.nd rfl (Or.inl rfl) (pe_call G_law_draw hr (by rfl) g_law_draw F_law_draw.kp b_law_draw .nil pass0 (pa_cons (pv 0) (pa_cons pe_int pa_nil))))
      (pss_cons (ps_if (pt_cmpR op_eq (pv 3) pe_int (nomark _)) (pss_one (ps_ret (pe_op op_cat (pe_slice sl_list (pv 1) po_none (po_some (pv 2))) (pe_slice sl_list (pv 1) (po_some (pe_op op_add (pv 2) pe_int)) po_none)))) pss_nil)
      (pss_cons (ps_if (pt_cmpR op_eq (pv 3) pe_int (nomark _)) (pss_one (ps_ret (pe_op op_cat (pe_op op_cat (pe_slice sl_list (pv 1) po_none (po_some (pv 2))) (pe_lst (pa_cons (pe_ix ix_list (pv 1) (pv 2) (fun _ _ => rfl)) pa_nil))) (pe_slice sl_list (pv 1) (po_some (pv 2)) po_none)))) pss_nil)
      (pss_cons (ps_if (pt_cmpR op_eq (pv 3) pe_int (nomark _)) (pss_one (ps_ret (pe_op op_cat (pe_op op_cat (pe_slice sl_list (pv 1) po_none (po_some (pv 2))) (pe_lst (pa_cons (pe_call G_law_pick hr (by rfl) g_law_pick F_law_pick.kp b_law_pick .nil pass0 (pa_cons (pv 0) (pa_cons (pv 1) pa_nil))) pa_nil))) (pe_slice sl_list (pv 1) (po_some (pe_op op_add (pv 2) pe_int)) po_none)))) pss_nil)
      (pss_cons (ps_if (pt_cmpR op_eq (pv 3) pe_int (nomark _)) (pss_one (ps_ret (pe_op op_cat (pe_op op_cat (pe_slice sl_list (pv 1) po_none (po_some pe_int)) (pe_lc (own := [("k", 4)]) (g := (gName 4)) (tt := tYes) rfl sc_law_spoilt.nd (pi_range1 (by rfl) m_range (pa_cons (pe_call G_law_draw hr (by rfl) g_law_draw F_law_draw.kp b_law_draw .nil pass0 (pa_cons (pv 0) (pa_cons pe_int pa_nil))) pa_nil)) (blkOk_by (own := [("k", 4)]) (N := ["pool", "lines", "at", "pick", "k", "found", "a", "words", "here", "strange", "signs", "line", "sign", "changed"]) (sc := defScope s_law_spoilt) (by decide +kernel)) (fun _ _ _ _ _ => (pg_name (i := 4) sc_law_spoilt.nd rfl (Or.inl rfl))) (fun _ _ _ _ _ => pts_nil) (fun _ _ _ _ _ => (pe_op op_add_str pe_str (pe_callTy call_str_int (by rfl) m_str (by decide +kernel) (pa_cons (pe_op op_add pe_int (pv 4)) pa_nil)))))) (pe_slice sl_list (pv 1) (po_some pe_int) po_none)))) pss_nil)
      (Evl.pss_cut (ps_if (PW.pt (pw_and (pt_cmpR op_eq (pv 3) pe_int (nomark _)) (pw_and1 (pt_cmpR op_eq (pe_call G_law_draw hr (by rfl) g_law_draw F_law_draw.kp b_law_draw .nil pass0 (pa_cons (pv 0) (pa_cons pe_int pa_nil))) pe_int (nomark _))))) (pss_one (ps_ret (pe_op op_cat (pe_op op_cat (pe_slice sl_list (pv 1) po_none (po_some (pv 2))) (pe_lst (pa_cons (pe_call G_law_pick hr (by rfl) g_law_pick F_law_pick.kp b_law_pick .nil pass0 (pa_cons (pv 0) (pa_cons (pe_lst (pa_cons pe_str (pa_cons pe_str (pa_cons pe_str (pa_cons pe_str (pa_cons pe_str pa_nil)))))) pa_nil))) pa_nil))) (pe_slice sl_list (pv 1) (po_some (pv 2)) po_none)))) pss_nil)
      (pss_cons (ps_if (pt_cmpR op_eq (pv 3) pe_int (nomark _)) (pss_cons (ps_setLc (i := 5) (own := [("a", 6)]) (g := (gName 6)) (tt := tYes) rfl sc_law_spoilt.nd rfl rfl (sw_true rfl rfl rfl (by decide +kernel)) (pi_range1 (by rfl) m_range (pa_cons (pe_call G_law_draw hr (by rfl) g_law_draw F_law_draw.kp b_law_draw .nil pass0 (pa_cons (pv 0) (pa_cons pe_int pa_nil))) pa_nil)) (blkOk_by (own := [("a", 6)]) (N := ["pool", "lines", "at", "pick", "k", "found", "a", "words", "here", "strange", "signs", "line", "sign", "changed"]) (sc := defScope s_law_spoilt) (by decide +kernel)) (fun _ _ _ _ _ => (pg_name (i := 6) sc_law_spoilt.nd rfl (Or.inl rfl))) (fun _ _ _ _ _ => pts_nil) (fun _ _ _ _ _ => (pe_op op_add_str (pe_op op_add_str (pe_op op_add_str pe_str (pe_callTy call_str_int (by rfl) m_str (by decide +kernel) (pa_cons (pv 6) pa_nil))) pe_str) (pe_callTy call_str_int (by rfl) m_str (by decide +kernel) (pa_cons (pe_op op_add (pv 6) pe_int) pa_nil)))))
      (pss_one (ps_ret (pe_op op_cat (pv 1) (pv 5))))) pss_nil)
      (pss_cons (ps_set (i := 7) sc_law_spoilt.nd rfl (Or.inl rfl) (pe_split (pe_ix ix_list (pv 1) (pv 2) (fun _ _ => rfl)) pe_str))
      (pss_cons (ps_set (i := 8) sc_law_spoilt.nd rfl (Or.inl rfl) (pe_call G_law_draw hr (by rfl) g_law_draw F_law_draw.kp b_law_draw .nil pass0 (pa_cons (pv 0) (pa_cons (pe_callB call_len_seq (by rfl) m_len PySem.boot_len (pa_cons (pv 7) pa_nil)) pa_nil))))
      (pss_cons (ps_set (i := 9) sc_law_spoilt.nd rfl (Or.inl rfl) (pe_lst (pa_cons pe_str (pa_cons pe_str (pa_cons pe_str (pa_cons pe_str (pa_cons pe_str (pa_cons pe_str (pa_cons pe_str (pa_cons pe_str (pa_cons pe_str (pa_cons pe_str (pa_cons pe_str (pa_cons pe_str pa_nil))))))))))))))
      (pss_cons (ps_set (i := 9) sc_law_spoilt.nd rfl (Or.inl rfl) (pe_op op_cat (pv 9) (pe_lst (pa_cons pe_str (pa_cons pe_str (pa_cons pe_str (pa_cons pe_str (pa_cons pe_str (pa_cons pe_str (pa_cons pe_str (pa_cons pe_str pa_nil)))))))))))
      (pss_cons (ps_set (i := 9) sc_law_spoilt.nd rfl (Or.inl rfl) (pe_op op_cat (pv 9) (pe_lst (pa_cons pe_str (pa_cons pe_str (pa_cons (pe_op GE.op_repS pe_str pe_int) (pa_cons (pe_op op_add_str pe_str (pe_ix ix_list (pv 7) (pv 8) (fun _ _ => rfl))) pa_nil)))))))
      (pss_cons (ps_set (i := 9) sc_law_spoilt.nd rfl (Or.inl rfl) (pe_op op_cat (pv 9) (pe_lst (pa_cons (pe_op op_add_str (pe_ix ix_list (pv 7) (pv 8) (fun _ _ => rfl)) pe_str) (pa_cons (pe_slice sl_str (pe_ix ix_list (pv 7) (pv 8) (fun _ _ => rfl)) po_none (po_some (pe_un un_neg pe_int))) (pa_cons (pe_op op_add_str (pe_op op_add_str (pe_slice sl_str (pe_ix ix_list (pv 7) (pv 8) (fun _ _ => rfl)) po_none (po_some pe_int)) pe_str) (pe_slice sl_str (pe_ix ix_list (pv 7) (pv 8) (fun _ _ => rfl)) (po_some pe_int) po_none)) (pa_cons (pe_slice sl_str (pe_ix ix_list (pv 7) (pv 8) (fun _ _ => rfl)) (po_some pe_int) po_none) pa_nil)))))))
      (pss_cons (ps_set (i := 9) sc_law_spoilt.nd rfl (Or.inl rfl) (pe_op op_cat (pv 9) (pe_lst (pa_cons (pe_op op_add_str (pe_ix ix_str pe_str (pe_call G_law_draw hr (by rfl) g_law_draw F_law_draw.kp b_law_draw .nil pass0 (pa_cons (pv 0) (pa_cons pe_int pa_nil))) (fun _ _ => rfl)) (pe_slice sl_str (pe_ix ix_list (pv 7) (pv 8) (fun _ _ => rfl)) (po_some pe_int) po_none)) (pa_cons (pe_upper (pe_ix ix_list (pv 7) (pv 8) (fun _ _ => rfl))) pa_nil)))))
      (pss_cons (ps_set (i := 10) sc_law_spoilt.nd rfl (Or.inl rfl) pe_str)
      (pss_cons (ps_if (pt_cmpR op_eq (pv 3) pe_int (nomark _)) (pss_cons (ps_set (i := 11) sc_law_spoilt.nd rfl (Or.inl rfl) (pe_ix ix_list (pv 1) (pv 2) (fun _ _ => rfl)))
      (pss_cons (ps_set (i := 8) sc_law_spoilt.nd rfl (Or.inl rfl) (pe_call G_law_draw hr (by rfl) g_law_draw F_law_draw.kp b_law_draw .nil pass0 (pa_cons (pv 0) (pa_cons (pe_op op_add (pe_callB call_len_str (by rfl) m_len (by decide +kernel) (pa_cons (pv 11) pa_nil)) pe_int) pa_nil))))
      (pss_cons (ps_set (i := 12) sc_law_spoilt.nd rfl (Or.inl rfl) (pe_ix ix_str (pv 10) (pe_call G_law_draw hr (by rfl) g_law_draw F_law_draw.kp b_law_draw .nil pass0 (pa_cons (pv 0) (pa_cons (pe_callB call_len_str (by rfl) m_len (by decide +kernel) (pa_cons (pv 10) pa_nil)) pa_nil))) (fun _ _ => rfl)))
      (pss_cons (ps_set (i := 13) sc_law_spoilt.nd rfl (Or.inl rfl) (pe_op op_add_str (pe_op op_add_str (pe_slice sl_str (pv 11) po_none (po_some (pv 8))) (pv 12)) (pe_slice sl_str (pv 11) (po_some (pe_op op_add (pv 8) (pe_call G_law_draw hr (by rfl) g_law_draw F_law_draw.kp b_law_draw .nil pass0 (pa_cons (pv 0) (pa_cons pe_int pa_nil))))) po_none)))
      (pss_one (ps_ret (pe_op op_cat (pe_op op_cat (pe_slice sl_list (pv 1) po_none (po_some (pv 2))) (pe_lst (pa_cons (pv 13) pa_nil))) (pe_slice sl_list (pv 1) (po_some (pe_op op_add (pv 2) pe_int)) po_none)))))))) pss_nil)
      (Evl.pss_cut (ps_if (pt_cmpR op_eq (pv 3) pe_int (nomark _)) (pss_one (ps_set (i := 7) sc_law_spoilt.nd rfl (Or.inl rfl) (pe_op op_cat (pe_slice sl_list (pv 7) po_none (po_some (pv 8))) (pe_slice sl_list (pv 7) (po_some (pe_op op_add (pv 8) pe_int)) po_none)))) (pss_one (ps_if (pt_cmpR op_eq (pv 3) pe_int (nomark _)) (pss_one (ps_set (i := 7) sc_law_spoilt.nd rfl (Or.inl rfl) (pe_op op_cat (pe_op op_cat (pe_slice sl_list (pv 7) po_none (po_some (pv 8))) (pe_lst (pa_cons (pe_ix ix_list (pv 7) (pv 8) (fun _ _ => rfl)) pa_nil))) (pe_slice sl_list (pv 7) (po_some (pv 8)) po_none)))) (pss_one (ps_asg (pe_call G_law_pick hr (by rfl) g_law_pick F_law_pick.kp b_law_pick .nil pass0 (pa_cons (pv 0) (pa_cons (pv 9) pa_nil))) (pg_sub (pv 7) (pv 8) set_list))))))
      (pss_one (ps_ret (pe_op op_cat (pe_op op_cat (pe_slice sl_list (pv 1) po_none (po_some (pv 2))) (pe_lst (pa_cons (pe_join pe_str (pv 7)) pa_nil))) (pe_slice sl_list (pv 1) (po_some (pe_op op_add (pv 2) pe_int)) po_none)))))))))))))))))))))), ?_⟩
    have n60 := LM.n
    have hll : (L.map V.str).length = L.length := List.length_map ..
    have fin : ∀ (lb : Addr) (mid : List Str) (i j : Nat) (H' : Hp), H' lb = some (.lst ((L.take i).map V.str ++ mid.map V.str ++ (L.drop j).map V.str)) → lb ≠ p → i ≤ j → mid.length ≤ 26 → (∀ l ∈ mid, l.length ≤ 4 * B + 5001) → tot mid ≤ 4 * B + 5301 → PoolAt H' p s → Ext T (atP p) H H' → Q (.ref lb) H' := fun lb mid i j H' h1 h2 h3 h4 h5 h6 h7 h8 => k lb (L.take i ++ mid ++ L.drop j) H' (by rw [List.map_append, List.map_append]; exact h1) h2 ((show Lim L.length B S L from ⟨Nat.le_refl _, LM.b, LM.t⟩).mid h3 h4 h5 h6 (by omega)) h7 h8
    refine ⟨_, rfl, _, rfl, la, _, rfl, .inl (SqL.of hla), p, s, _, rfl, hP, by omega, by omega, fun r H1 r0 r1 hP1 e1 => ?_⟩
    obtain ⟨at_, rfl⟩ := nat_of r0
    have hat : at_ < L.length := by omega
    have hla1 := e1.lst hlp hla
    dsimp only [gName]
    refine ⟨_, rfl, p, s, 9, rfl, hP1, by decide, by decide, fun r H2 r0 r1 hP2 e2 => ?_⟩
    obtain ⟨pick, rfl⟩ := nat_of r0
    have hla2 := e2.lst hlp hla1
    have e12 := e1.trans e2
    dsimp only [gName]
    have tk : ∀ (H' : Hp), PoolAt H' p s → H' la = some (.lst (L.map V.str)) → True := fun _ _ _ => trivial
    have lt : ∀ i : Nat, ((L.take i).map V.str).length ≤ 10000 := fun i => by rw [List.length_map, List.length_take]; omega
    have ld : ∀ i : Nat, ((L.drop i).map V.str).length ≤ 10000 := fun i => by rw [List.length_map, List.length_drop]; omega
    have i1 : ∀ i : Nat, ((i : Nat) : Int) + 1 = ((i + 1 : Nat) : Int) := fun i => by omega
    have hlat : ∃ l, L[at_]? = some l := ⟨_, List.getElem?_eq_getElem hat⟩
    obtain ⟨lin, hlin⟩ := hlat
    have hlm := List.mem_of_getElem? hlin
    have hlB := LM.b lin hlm
    have hlv : (L.map V.str)[at_]? = some (.str lin) := by rw [List.getElem?_map, hlin]; rfl
    have no : ∀ (a : Nat) {Q : Hp → Prop}, True := fun _ _ => trivial
    refine ev_if (fun Q h => ⟨_, rfl, rfl, _, rfl, h⟩) (fun c0 => ?_) (fun c0 => ?_)
    · refine (GivesP.cat (T := T) (p := p) (s := s) (A := fun xs => xs = (L.take at_).map V.str) (B := fun xs => xs = (L.drop (at_ + 1)).map V.str) ?_ ?_ (fun xs h => h ▸ lt _) (fun xs h => h ▸ ld _)) _ ?_
      · exact GivesP.new (xs := (L.map V.str).take at_) hP2 List.map_take.symm fun Q h => ⟨_, rfl, _, rfl, _, rfl, la, _, rfl, SqL.of (hla2), fun q hq => by rw [show cutV (L.map V.str) none (some ((at_ : Nat) : Int)) = (L.map V.str).take at_ from cutTo _ _]; exact h q hq⟩
      · intro H3 hP3 e3
        exact GivesP.new (xs := (L.map V.str).drop (at_ + 1)) hP3 List.map_drop.symm fun Q h => ⟨_, rfl, _, rfl, _, _, rfl, rfl, _, rfl, la, _, rfl, SqL.of (e3.lst hlp hla2), fun q hq => by rw [i1, cut_from]; exact h q hq⟩
      · rintro lb xs H3 ⟨_, _, rfl, rfl, rfl⟩ h3 hne hP3 e3
        exact fin lb [] at_ (at_ + 1) H3 (by rw [List.map_nil, List.append_nil]; exact h3) hne (by omega) (Nat.zero_le _) (fun l hl => nomatch hl) (Nat.zero_le _) hP3 (e12.trans e3)
    try unfold tNext
    try dsimp only
    try unfold tSeq
    refine ev_if (fun Q h => ⟨_, rfl, rfl, _, rfl, h⟩) (fun c1 => ?_) (fun c1 => ?_)
    · refine (GivesP.cat (T := T) (p := p) (s := s) (A := fun zs => ∃ xs ys, xs = (L.take at_).map V.str ∧ MidOk B ys ∧ zs = xs ++ ys) (B := fun xs => xs = (L.drop (at_)).map V.str) (GivesP.cat (A := fun xs => xs = (L.take at_).map V.str) (B := MidOk B) ?_ ?_ (fun xs h => h ▸ lt _) (fun xs h => h.len)) ?_ (fun zs ⟨xs, ys, h1, h2, h3⟩ => by rw [h3, h1, List.length_append, List.length_map, List.length_take]; obtain ⟨mid, rfl, m1, _⟩ := h2; rw [List.length_map]; omega) (fun xs h => h ▸ ld _)) _ ?_
      · exact GivesP.new (xs := (L.map V.str).take at_) hP2 List.map_take.symm fun Q h => ⟨_, rfl, _, rfl, _, rfl, la, _, rfl, SqL.of (hla2), fun q hq => by rw [show cutV (L.map V.str) none (some ((at_ : Nat) : Int)) = (L.map V.str).take at_ from cutTo _ _]; exact h q hq⟩
      · intro H3 hP3 e3
        exact GivesP.new (xs := [.str lin]) hP3 (MidOk.one (by omega)) fun Q h => ⟨_, rfl, _, rfl, la, _, _, _, rfl, rfl, SqL.of (e3.lst hlp hla2), at_of (j := at_) rfl hlv, by show 1 ≤ sizeLine; decide, fun q hq => h q hq⟩
      · intro H3 hP3 e3
        exact GivesP.new (xs := (L.map V.str).drop at_) hP3 List.map_drop.symm fun Q h => ⟨_, rfl, _, rfl, _, rfl, la, _, rfl, SqL.of (e3.lst hlp hla2), fun q hq => by rw [show cutV (L.map V.str) (some ((at_ : Nat) : Int)) none = (L.map V.str).drop at_ from cut_from _ _]; exact h q hq⟩
      · rintro lb xs H9 ⟨_, _, ⟨_, _, rfl, ⟨mid, rfl, m1, m2, m3⟩, rfl⟩, rfl, rfl⟩ h9 hne hP9 e9
        exact fin lb mid at_ at_ H9 h9 hne (by omega) m1 m2 m3 hP9 (e12.trans e9)
    try unfold tNext
    try dsimp only
    try unfold tSeq
    refine ev_if (fun Q h => ⟨_, rfl, rfl, _, rfl, h⟩) (fun c2 => ?_) (fun c2 => ?_)
    · refine (GivesP.cat (T := T) (p := p) (s := s) (A := fun zs => ∃ xs ys, xs = (L.take at_).map V.str ∧ MidOk B ys ∧ zs = xs ++ ys) (B := fun xs => xs = (L.drop (at_ + 1)).map V.str) (GivesP.cat (A := fun xs => xs = (L.take at_).map V.str) (B := MidOk B) ?_ ?_ (fun xs h => h ▸ lt _) (fun xs h => h.len)) ?_ (fun zs ⟨xs, ys, h1, h2, h3⟩ => by rw [h3, h1, List.length_append, List.length_map, List.length_take]; obtain ⟨mid, rfl, m1, _⟩ := h2; rw [List.length_map]; omega) (fun xs h => h ▸ ld _)) _ ?_
      · exact GivesP.new (xs := (L.map V.str).take at_) hP2 List.map_take.symm fun Q h => ⟨_, rfl, _, rfl, _, rfl, la, _, rfl, SqL.of (hla2), fun q hq => by rw [show cutV (L.map V.str) none (some ((at_ : Nat) : Int)) = (L.map V.str).take at_ from cutTo _ _]; exact h q hq⟩
      · intro H3 hP3 e3
        refine fun Q h => ⟨_, rfl, _, rfl, p, s, la, _, rfl, hP3, e3.lst hlp hla2, hlp, by omega, by omega, fun v H4 hv hP4 e4 => ?_⟩
        obtain ⟨y, hy, rfl⟩ := List.mem_map.mp hv
        refine ⟨by show 1 ≤ sizeLine; decide, fun q hq => ?_⟩
        exact h q [.str y] _ (MidOk.one (by have := LM.b y hy; omega)) upd_same (hP4.ne hq).1 (hP4.keep (T := T) (Ext.new hq)) (e4.trans (Ext.new hq))
      · intro H3 hP3 e3
        exact GivesP.new (xs := (L.map V.str).drop (at_ + 1)) hP3 List.map_drop.symm fun Q h => ⟨_, rfl, _, rfl, _, _, rfl, rfl, _, rfl, la, _, rfl, SqL.of (e3.lst hlp hla2), fun q hq => by rw [i1, cut_from]; exact h q hq⟩
      · rintro lb xs H9 ⟨_, _, ⟨_, _, rfl, ⟨mid, rfl, m1, m2, m3⟩, rfl⟩, rfl, rfl⟩ h9 hne hP9 e9
        exact fin lb mid at_ (at_ + 1) H9 h9 hne (by omega) m1 m2 m3 hP9 (e12.trans e9)
    try unfold tNext
    try dsimp only
    try unfold tSeq
    refine ev_if (fun Q h => ⟨_, rfl, rfl, _, rfl, h⟩) (fun c3 => ?_) (fun c3 => ?_)
    · refine (GivesP.cat (T := T) (p := p) (s := s) (A := fun zs => ∃ xs ys, xs = (L.take 1).map V.str ∧ MidOk B ys ∧ zs = xs ++ ys) (B := fun xs => xs = (L.drop (1)).map V.str) (GivesP.cat (A := fun xs => xs = (L.take 1).map V.str) (B := MidOk B) ?_ ?_ (fun xs h => h ▸ lt _) (fun xs h => h.len)) ?_ (fun zs ⟨xs, ys, h1, h2, h3⟩ => by rw [h3, h1, List.length_append, List.length_map, List.length_take]; obtain ⟨mid, rfl, m1, _⟩ := h2; rw [List.length_map]; omega) (fun xs h => h ▸ ld _)) _ ?_
      · exact GivesP.new (xs := (L.map V.str).take 1) hP2 List.map_take.symm fun Q h => ⟨_, rfl, 1, rfl, la, _, rfl, SqL.of (hla2), fun q hq => by rw [show cutV (L.map V.str) none (some 1) = (L.map V.str).take 1 from cutTo _ _]; exact h q hq⟩
      · intro H3 hP3 e3
        refine fun Q h => ⟨_, rfl, p, s, 27, rfl, hP3, by decide, by decide, fun r H4 r0 r1 hP4 e4 => ?_⟩
        refine ⟨r, rfl, by omega, by omega, fun D hD => ?_⟩
        have e5 : Ext T noM H4 (upd H4 D (.lst [])) := Ext.new hD
        refine lc_range (lo := 0) (n := r.toNat) (fun j H' => ∃ acc : List Str, Ext T noM H4 H' ∧ H' D = some (.lst (acc.map V.str)) ∧ acc.length = j ∧ ∀ l ∈ acc, l.length ≤ 100) ⟨[], e5, upd_same, rfl, fun l hl => nomatch hl⟩ ?_ ?_
        · rintro j H5 hj ⟨acc, e6, hD6, ha1, ha2⟩
          refine ⟨rfl, tYesI ?_⟩
          have hlog : ((1 : Int) + (0 + (j : Int))).natAbs.log2 < 1920 := by
            rw [show (1 : Int) + (0 + (j : Int)) = ((j + 1 : Nat) : Int) by omega]; exact nlog (by omega)
          have hln : (Str.ofString (toString ((1 : Int) + (0 + (j : Int))))).length ≤ 5 := by
            rw [show (1 : Int) + (0 + (j : Int)) = ((j + 1 : Nat) : Int) by omega]; exact ln_num (by omega)
          have hw : ("way 0 1 " : Str).length = 8 := rfl
          refine ⟨_, rfl, _, _, rfl, rfl, _, rfl, hlog, _, _, rfl, rfl, sz100 (by omega), _, hD6, ?_, acc ++ [("way 0 1 " : Str) ++ Str.ofString (toString ((1 : Int) + (0 + (j : Int))))], e6.mut (.inl hD) hD6 ltbl, ?_, ?_, ?_⟩
          · rw [List.length_map]; exact small1000 (by omega)
          · rw [upd_same, List.map_append]; rfl
          · rw [List.length_append, ha1]; rfl
          · intro l hl
            rcases List.mem_append.mp hl with z | z
            · exact ha2 l z
            · rw [List.mem_singleton.mp z, ln_app]; omega
        rintro H5 ⟨acc, e6, hD6, ha1, ha2⟩
        exact h D _ _ (MidOk.small (by omega) ha2) hD6 (hP4.ne hD).1 (hP4.keep e6) (e4.trans e6.weak)
      · intro H3 hP3 e3
        exact GivesP.new (xs := (L.map V.str).drop 1) hP3 List.map_drop.symm fun Q h => ⟨_, rfl, 1, rfl, la, _, rfl, SqL.of (e3.lst hlp hla2), fun q hq => by rw [show cutV (L.map V.str) (some 1) none = (L.map V.str).drop 1 from cut_from _ _]; exact h q hq⟩
      · rintro lb xs H9 ⟨_, _, ⟨_, _, rfl, ⟨mid, rfl, m1, m2, m3⟩, rfl⟩, rfl, rfl⟩ h9 hne hP9 e9
        exact fin lb mid 1 1 H9 h9 hne (by omega) m1 m2 m3 hP9 (e12.trans e9)
    try unfold tNext
    try dsimp only
    try unfold tSeq
    refine ⟨fun σ' H' => σ' = [some (.ref p), some (.ref la), some (.int (at_ : Nat)), some (.int (pick : Nat)), none, none, none, none, none, none, none, none, none, none] ∧ PoolAt H' p s ∧ Ext T (atP p) H H', ?_, ?_⟩
    · refine ev_ifq ?_
      refine ev_andc (fun Q h => ⟨_, rfl, rfl, _, rfl, h⟩) ?_
      refine ite2 (fun c8 => ?_) (fun c8 => ?_)
      · refine ⟨_, rfl, p, s, 2, rfl, hP2, by decide, by decide, fun r H20 r0 r1 hP20 e20 => ⟨rfl, _, rfl, ?_⟩⟩
        have hla20 := e20.lst hlp hla2
        refine ite2 (fun d8 => ?_) (fun d8 => ⟨rfl, hP20, e12.trans e20⟩)
        refine (GivesP.cat (T := T) (p := p) (s := s) (A := fun zs => ∃ xs ys, xs = (L.take at_).map V.str ∧ MidOk B ys ∧ zs = xs ++ ys) (B := fun xs => xs = (L.drop (at_)).map V.str) (GivesP.cat (A := fun xs => xs = (L.take at_).map V.str) (B := MidOk B) ?_ ?_ (fun xs h => h ▸ lt _) (fun xs h => h.len)) ?_ (fun zs ⟨xs, ys, h1, h2, h3⟩ => by rw [h3, h1, List.length_append, List.length_map, List.length_take]; obtain ⟨mid, rfl, m1, _⟩ := h2; rw [List.length_map]; omega) (fun xs h => h ▸ ld _)) _ ?_
        · exact GivesP.new (xs := (L.map V.str).take at_) hP20 List.map_take.symm fun Q h => ⟨_, rfl, _, rfl, _, rfl, la, _, rfl, SqL.of (hla20), fun q hq => by rw [show cutV (L.map V.str) none (some ((at_ : Nat) : Int)) = (L.map V.str).take at_ from cutTo _ _]; exact h q hq⟩
        · intro H3 hP3 e3
          refine fun Q h => ⟨_, rfl, by show 5 ≤ sizeLine; decide, fun l1 hl1 => ?_⟩
          have x1 : Ext T noM H3 (upd H3 l1 (.lst [.str "", .str " ", .str "  ", .str "#", .str "# way 0 1 2"])) := Ext.new hl1
          refine ⟨p, s, l1, _, rfl, hP3.keep x1, upd_same, (hP3.ne hl1).1, by decide, by decide, fun v H4 hv hP4 e4 => ?_⟩
          obtain ⟨y, rfl, hy⟩ := (PStr.cons (by decide) (PStr.cons (by decide) (PStr.cons (by decide) (PStr.cons (by decide) (PStr.cons (by decide) PStr.nil)))) : PStr 100 [V.str "", .str " ", .str "  ", .str "#", .str "# way 0 1 2"]) v hv
          refine ⟨by show 1 ≤ sizeLine; decide, fun q hq => ?_⟩
          exact h q [.str y] _ (MidOk.one (by omega)) upd_same (hP4.ne hq).1 (hP4.keep (T := T) (Ext.new hq)) ((x1.weak.trans e4).trans (Ext.new hq))
        · intro H3 hP3 e3
          exact GivesP.new (xs := (L.map V.str).drop at_) hP3 List.map_drop.symm fun Q h => ⟨_, rfl, _, rfl, _, rfl, la, _, rfl, SqL.of (e3.lst hlp hla20), fun q hq => by rw [show cutV (L.map V.str) (some ((at_ : Nat) : Int)) none = (L.map V.str).drop at_ from cut_from _ _]; exact h q hq⟩
        · rintro lb xs H9 ⟨_, _, ⟨_, _, rfl, ⟨mid, rfl, m1, m2, m3⟩, rfl⟩, rfl, rfl⟩ h9 hne hP9 e9
          exact fin lb mid at_ at_ H9 h9 hne (by omega) m1 m2 m3 hP9 ((e12.trans e20).trans e9)
      · exact iteF ⟨rfl, hP2, e12⟩
    clear hla1 hla2 hP2 e12 hP1
    rintro σ' H2 ⟨rfl, hP2, e12⟩
    have hla2 := e12.lst hlp hla
    refine ev_if (fun Q h => ⟨_, rfl, rfl, _, rfl, h⟩) (fun c4 => ?_) (fun c4 => ?_)
    · refine ⟨_, rfl, p, s, 9, rfl, hP2, by decide, by decide, fun r H4 r0 r1 hP4 e4 => ?_⟩
      refine ⟨r, rfl, by omega, by omega, fun D hD => ?_⟩
      have e5 : Ext T noM H4 (upd H4 D (.lst [])) := Ext.new hD
      refine lc_range (lo := 0) (n := r.toNat) (fun j H' => ∃ acc : List Str, Ext T noM H4 H' ∧ H' D = some (.lst (acc.map V.str)) ∧ acc.length = j ∧ ∀ l ∈ acc, l.length ≤ 100) ⟨[], e5, upd_same, rfl, fun l hl => nomatch hl⟩ ?_ ?_
      · rintro j H5 hj ⟨acc, e6, hD6, ha1, ha2⟩
        refine ⟨rfl, tYesI ?_⟩
        have hl1 : (0 + (j : Int)).natAbs.log2 < 1920 := by rw [show (0 + (j : Int)) = ((j : Nat) : Int) by omega]; exact nlog (by omega)
        have hl2 : ((0 + (j : Int)) + 1).natAbs.log2 < 1920 := by rw [show ((0 + (j : Int)) + 1) = ((j + 1 : Nat) : Int) by omega]; exact nlog (by omega)
        have hn1' : (Str.ofString (toString (0 + (j : Int)))).length ≤ 5 := by rw [show (0 + (j : Int)) = ((j : Nat) : Int) by omega]; exact ln_num (by omega)
        have hn2 : (Str.ofString (toString ((0 + (j : Int)) + 1))).length ≤ 5 := by rw [show ((0 + (j : Int)) + 1) = ((j + 1 : Nat) : Int) by omega]; exact ln_num (by omega)
        have hw : ("pair " : Str).length = 5 := rfl
        have hs : (" " : Str).length = 1 := rfl
        refine ⟨_, rfl, _, rfl, hl1, _, _, rfl, rfl, sz100 (by omega), ?_⟩
        refine ⟨_, _, rfl, rfl, sz100 (by rw [ln_app]; omega), ?_⟩
        refine ⟨_, rfl, _, _, rfl, rfl, _, rfl, hl2, _, _, rfl, rfl, sz100 (by rw [ln_app, ln_app]; omega), _, hD6, ?_, acc ++ [("pair " : Str) ++ Str.ofString (toString (0 + (j : Int))) ++ (" " : Str) ++ Str.ofString (toString ((0 + (j : Int)) + 1))], e6.mut (.inl hD) hD6 ltbl, ?_, ?_, ?_⟩
        · rw [List.length_map]; exact small1000 (by omega)
        · rw [upd_same, List.map_append]; rfl
        · rw [List.length_append, ha1]; rfl
        · intro l hl
          rcases List.mem_append.mp hl with z | z
          · exact ha2 l z
          · rw [List.mem_singleton.mp z, ln_app, ln_app, ln_app]; omega
      rintro H5 ⟨acc, e6, hD6, ha1, ha2⟩
      have hla5 := e6.lst (fun z => z) (e4.lst hlp hla2)
      obtain ⟨mid, hm0, m1, m2, m3⟩ := MidOk.small (B := B) (mid := acc) (by omega) ha2
      refine ⟨_, rfl, _, rfl, la, D, _, _, rfl, rfl, hla5, hD6, ?_, fun q hq => ?_⟩
      · rw [List.length_map, List.length_map]; exact Nat.le_of_lt (small1000 (by omega))
      rw [hm0]
      refine fin q mid L.length L.length _ ?_ (((hP4.keep e6).ne hq).1) (Nat.le_refl _) m1 m2 m3 ((hP4.keep e6).keep (T := T) (Ext.new hq)) (((e12.trans e4).trans e6.weak).trans (Ext.new hq))
      rw [upd_same, List.take_length, List.drop_length, List.map_nil, List.append_nil]
    try unfold tNext
    try dsimp only
    try unfold tSeq
    refine ⟨_, rfl, _, rfl, la, _, _, _, rfl, rfl, SqL.of hla2, at_of (j := at_) rfl hlv, ⟨_, rfl⟩, lin, " ", rfl, rfl, by decide, Nat.le_trans (show _ ≤ 100000 by omega) (by decide), fun wl hwl => ?_⟩
    have hsw := PyProof.Rows.split_weight lin " " (by decide)
    have hwne := split_ne (x := lin) ch_sp (by decide)
    have hw1 : ∀ x ∈ Txt.split lin " ", x.length ≤ B := fun x hx => by have := (split_len (x := lin) ch_sp).2 x hx; omega
    have hwt : tot (Txt.split lin " ") + (Txt.split lin " ").length ≤ B + 1 := by have : tot (Txt.split lin " ") + (Txt.split lin " ").length ≤ lin.length + 1 := hsw; omega
    generalize Txt.split lin " " = W at hwne hw1 hwt hwl ⊢
    clear hsw
    have hWp : 0 < W.length := List.length_pos_iff.mpr hwne
    have x1 : Ext T noM H2 (upd H2 wl (.lst (W.map V.str))) := Ext.new hwl
    have hwl3 : (upd H2 wl (.lst (W.map V.str))) wl = some (.lst (W.map V.str)) := upd_same
    have hwlp := (hP2.ne hwl).1
    have hwls := (hP2.ne hwl).2
    have hwll : wl ≠ la := fun z => by rw [z, hla2] at hwl; cases hwl
    have hP3 := hP2.keep x1
    have hla3 := x1.lst (fun z => z) hla2
    have e13 := e12.trans (x1.weak (M := atP p))
    generalize (upd H2 wl (.lst (W.map V.str))) = H3 at x1 hwl3 hP3 hla3 e13 ⊢
    have hwml : (W.map V.str).length = W.length := List.length_map ..
    dsimp only [gName]
    refine ⟨_, rfl, _, rfl, wl, _, rfl, .inl (SqL.of hwl3), p, s, _, rfl, hP3, by omega, by omega, fun r H4 r0 r1 hP4 e4 => ?_⟩
    obtain ⟨here, rfl⟩ := nat_of r0
    have hhe : here < W.length := by omega
    obtain ⟨wo, hwo⟩ : ∃ wo, W[here]? = some wo := ⟨_, List.getElem?_eq_getElem hhe⟩
    have hwov : (W.map V.str)[here]? = some (.str wo) := by rw [List.getElem?_map, hwo]; rfl
    have hwom := List.mem_of_getElem? hwo
    have hwoB := hw1 wo hwom
    have hwl4 := e4.lst hwlp hwl3
    have hla4 := e4.lst hlp hla3
    have e14 := e13.trans e4
    clear hla2 hla3 hwl3 hP2 hP3 e13
    dsimp only [gName]
    -- the strange words
    have big : ∀ z : Nat, z ≤ 100000 → z ≤ sizeLine := fun z hz => Nat.le_trans hz (by decide)
    have cP : ∀ {b c : Nat} {y : Str} {vs : List V}, y.length ≤ b → b ≤ c → PStr c vs → PStr c (.str y :: vs) := fun h1 h2 h3 => PStr.cons (Nat.le_trans h1 h2) h3
    have ix : ∀ {H' : Hp} {Q : V → Hp → Prop}, H' wl = some (.lst (W.map V.str)) → Q (.str wo) H' → ∃ p xs i v, V.ref wl = .ref p ∧ V.int ((here : Nat) : Int) = .int i ∧ SqL K H' p xs ∧ atI xs i = some v ∧ Q v H' := fun h1 h2 => ⟨wl, _, _, _, rfl, rfl, SqL.of h1, at_of (j := here) rfl hwov, h2⟩
    refine ⟨by show 12 ≤ sizeLine; decide, fun s1 hs1 => ?_⟩
    have A1 : PStr (3 * B + 5000) [V.str "", .str "0", .str "00", .str "+1", .str "1_0", .str "-1", .str "12", .str "13", .str "10000", .str "10001", .str "99999", .str "100000"] := (PStr.cons (by decide) (PStr.cons (by decide) (PStr.cons (by decide) (PStr.cons (by decide) (PStr.cons (by decide) (PStr.cons (by decide) (PStr.cons (by decide) (PStr.cons (by decide) (PStr.cons (by decide) (PStr.cons (by decide) (PStr.cons (by decide) (PStr.cons (by decide) PStr.nil))))))))))) : PStr 6 _).mono (by omega)
    have x5 : Ext T noM H4 (upd H4 s1 (.lst [.str "", .str "0", .str "00", .str "+1", .str "1_0", .str "-1", .str "12", .str "13", .str "10000", .str "10001", .str "99999", .str "100000"])) := Ext.new hs1
    refine (GivesP.cat (T := T) (p := p) (s := s) (A := fun xs => SPr B xs ∧ xs.length ≤ 12) (B := fun xs => PStr (3 * B + 5000) xs ∧ xs.length ≤ 8) (GivesP.var (hP4.keep x5) ⟨⟨A1, by show 12 ≤ 100; decide⟩, by show 12 ≤ 12; decide⟩ upd_same (hP4.ne hs1).1 rfl) ?_ (fun xs h => by omega) (fun xs h => by omega)) _ ?_
    · intro H5 hP5 e5
      exact GivesP.new (xs := [.str "way", .str "pair", .str "places", .str "a", .str "1.0", .str "Way", .str "1", .str "2"]) hP5 ⟨(PStr.cons (by decide) (PStr.cons (by decide) (PStr.cons (by decide) (PStr.cons (by decide) (PStr.cons (by decide) (PStr.cons (by decide) (PStr.cons (by decide) (PStr.cons (by decide) PStr.nil))))))) : PStr 6 _).mono (by omega), by show 8 ≤ 8; decide⟩ fun Q h => ⟨by show 8 ≤ sizeLine; decide, fun q hq => h q hq⟩
    rintro s2 _ H5 ⟨xs2, ys2, ⟨a1, a2⟩, ⟨b1, b2⟩, rfl⟩ hs2 hs2p hP5 e5
    have q2 : SPr B (xs2 ++ ys2) := a1.app b1 (by omega) (by omega)
    have l2 : (xs2 ++ ys2).length ≤ 20 := by rw [List.length_append]; omega
    generalize xs2 ++ ys2 = z2 at hs2 q2 l2
    have e15 := e14.trans (x5.weak.trans e5)
    have hwl5 := (x5.weak (M := atP p)).trans e5 |>.lst hwlp hwl4
    clear a1 a2 b1 b2 hs1 x5 e5
    dsimp only [gName]
    refine (GivesP.cat (T := T) (p := p) (s := s) (A := fun xs => SPr B xs ∧ xs.length ≤ 20) (B := fun xs => PStr (3 * B + 5000) xs ∧ xs.length ≤ 4) (GivesP.var hP5 ⟨q2, l2⟩ hs2 hs2p rfl) ?_ (fun xs h => by omega) (fun xs h => by omega)) _ ?_
    · intro H6 hP6 e6 Q h
      refine ⟨"1", 5000, rfl, rfl, by decide, by decide, by decide, by decide, fun y hy => ?_⟩
      have hy5 : y.length = 5000 := hy
      have h0 : ("0" : Str).length = 1 := rfl
      refine ⟨_, rfl, _, rfl, wl, _, _, _, rfl, rfl, SqL.of (e6.lst hwlp hwl5), at_of (j := here) rfl hwov, _, _, rfl, rfl, big _ (by omega), by show 4 ≤ sizeLine; decide, fun q hq => ?_⟩
      exact h q _ _ ⟨PStr.cons (Nat.le_trans (show ("01" : Str).length ≤ 6 by decide) (by omega)) (PStr.cons (Nat.le_trans (show ("007" : Str).length ≤ 6 by decide) (by omega)) (PStr.cons (by omega) (PStr.cons (by rw [ln_app]; omega) PStr.nil))), by show 4 ≤ 4; decide⟩ upd_same (hP6.ne hq).1 (hP6.keep (T := T) (Ext.new hq)) (Ext.new hq)
    rintro s3 _ H6 ⟨xs3, ys3, ⟨a1, a2⟩, ⟨b1, b2⟩, rfl⟩ hs3 hs3p hP6 e6
    have q3 : SPr B (xs3 ++ ys3) := a1.app b1 (by omega) (by omega)
    have l3 : (xs3 ++ ys3).length ≤ 24 := by rw [List.length_append]; omega
    generalize xs3 ++ ys3 = z3 at hs3 q3 l3
    have e16 := e15.trans e6
    have hwl6 := e6.lst hwlp hwl5
    clear a1 a2 b1 b2 hs2 e6
    dsimp only [gName]
    have cl : ∀ lo hi, (cutS wo lo hi).length ≤ B := fun lo hi => Nat.le_trans (cutS_length wo lo hi) hwoB
    refine (GivesP.cat (T := T) (p := p) (s := s) (A := fun xs => SPr B xs ∧ xs.length ≤ 24) (B := fun xs => PStr (3 * B + 5000) xs ∧ xs.length ≤ 4) (GivesP.var hP6 ⟨q3, l3⟩ hs3 hs3p rfl) ?_ (fun xs h => by omega) (fun xs h => by omega)) _ ?_
    · intro H7 hP7 e7 Q h
      have hw7 := e7.lst hwlp hwl6
      have hs1 : ("s" : Str).length = 1 := rfl
      have hx1 : ("x" : Str).length = 1 := rfl
      have c1 := cl none (some 1)
      have c2 := cl (some 1) none
      refine ⟨_, rfl, _, rfl, wl, _, _, _, rfl, rfl, SqL.of hw7, at_of (j := here) rfl hwov, _, _, rfl, rfl, big _ (by omega), ?_⟩
      refine ⟨_, rfl, _, rfl, wl, _, _, _, rfl, rfl, SqL.of hw7, at_of (j := here) rfl hwov, _, rfl, _, rfl, _, rfl, big _ (by omega), ?_⟩
      refine ⟨_, rfl, _, rfl, wl, _, _, _, rfl, rfl, SqL.of hw7, at_of (j := here) rfl hwov, 1, rfl, _, rfl, big _ (by omega), _, _, rfl, rfl, big _ (by omega), ?_⟩
      refine ⟨_, rfl, _, rfl, wl, _, _, _, rfl, rfl, SqL.of hw7, at_of (j := here) rfl hwov, 1, rfl, _, rfl, big _ (by omega), _, _, rfl, rfl, big _ (by rw [ln_app]; omega), ?_⟩
      refine ⟨_, rfl, _, rfl, wl, _, _, _, rfl, rfl, SqL.of hw7, at_of (j := here) rfl hwov, 1, rfl, _, rfl, big _ (by omega), by show 4 ≤ sizeLine; decide, fun q hq => ?_⟩
      exact h q _ _ ⟨PStr.cons (by rw [ln_app]; omega) (PStr.cons (Nat.le_trans (cl _ _) (by omega)) (PStr.cons (by rw [ln_app, ln_app]; omega) (PStr.cons (by omega) PStr.nil))), by show 4 ≤ 4; decide⟩ upd_same (hP7.ne hq).1 (hP7.keep (T := T) (Ext.new hq)) (Ext.new hq)
    rintro s4 _ H7 ⟨xs4, ys4, ⟨a1, a2⟩, ⟨b1, b2⟩, rfl⟩ hs4 hs4p hP7 e7
    have q4 : SPr B (xs4 ++ ys4) := a1.app b1 (by omega) (by omega)
    have l4 : (xs4 ++ ys4).length ≤ 28 := by rw [List.length_append]; omega
    generalize xs4 ++ ys4 = z4 at hs4 q4 l4
    have e17 := e16.trans e7
    have hwl7 := e7.lst hwlp hwl6
    clear a1 a2 b1 b2 hs3 e7
    dsimp only [gName]
    refine (GivesP.cat (T := T) (p := p) (s := s) (A := fun xs => SPr B xs ∧ xs.length ≤ 28) (B := fun xs => PStr (3 * B + 5000) xs ∧ xs.length = 2) (GivesP.var hP7 ⟨q4, l4⟩ hs4 hs4p rfl) ?_ (fun xs h => by omega) (fun xs h => by omega)) _ ?_
    · intro H8 hP8 e8 Q h
      have hw8 := e8.lst hwlp hwl7
      have c2 := cl (some 1) none
      have hal : ("abcdefghijklmnopqrstuvwxyz" : Str).cps.toList.length = 26 := by decide +kernel
      refine ⟨_, rfl, p, s, 26, rfl, hP8, by decide, by decide, fun r H80 r0 r1 hP80 e80 => ?_⟩
      have hw7 := e80.lst hwlp hw8
      obtain ⟨ri, rfl⟩ := nat_of r0
      obtain ⟨ch, hch⟩ : ∃ ch, ("abcdefghijklmnopqrstuvwxyz" : Str).cps.toList[ri]? = some ch := ⟨_, List.getElem?_eq_getElem (by rw [hal]; omega)⟩
      have h1 : (⟨#[ch]⟩ : Str).length = 1 := rfl
      refine ⟨_, _, ch, rfl, rfl, by decide, atI_nat hch, ?_⟩
      refine ⟨_, rfl, _, rfl, wl, _, _, _, rfl, rfl, SqL.of hw7, at_of (j := here) rfl hwov, 1, rfl, _, rfl, big _ (by omega), _, _, rfl, rfl, big _ (by omega), ?_⟩
      have hup := PyProof.Rows.len_upper wo
      refine ⟨_, rfl, _, rfl, wl, _, _, _, rfl, rfl, SqL.of hw7, at_of (j := here) rfl hwov, ⟨_, rfl⟩, wo, rfl, rfl, Nat.le_trans hwoB (by omega), by show 2 ≤ sizeLine; decide, fun q hq => ?_⟩
      exact h q _ _ ⟨PStr.cons (by rw [ln_app]; omega) (PStr.cons (by omega) PStr.nil), rfl⟩ upd_same (hP80.ne hq).1 (hP80.keep (T := T) (Ext.new hq)) (e80.trans (Ext.new hq))
    rintro s5 _ H8 ⟨xs5, ys5, ⟨a1, a2⟩, ⟨b1, b2⟩, rfl⟩ hs5 hs5p hP8 e8
    have q5 : SPr B (xs5 ++ ys5) := a1.app b1 (by omega) (by omega)
    have l5 : (xs5 ++ ys5).length ≤ 30 := by rw [List.length_append]; omega
    have z5n : 0 < (xs5 ++ ys5).length := by rw [List.length_append]; omega
    generalize xs5 ++ ys5 = z5 at hs5 q5 l5 z5n
    have e18 := e17.trans e8
    have hwl8 := e8.lst hwlp hwl7
    have hla8 := e18.lst hlp hla
    clear a1 a2 b1 b2 hs4 e8 hwl7 hwl6 hwl5 hwl4 hla4 q2 q3 q4 l2 l3 l4
    dsimp only [gName]
    unfold tAsg tC
    dsimp only [gName]
    -- one sign
    refine ev_if (fun Q h => ⟨_, rfl, rfl, _, rfl, h⟩) (fun c7 => ?_) (fun c7 => ?_)
    · refine ⟨_, rfl, _, rfl, la, _, _, _, rfl, rfl, SqL.of hla8, at_of (j := at_) rfl hlv, ?_⟩
      dsimp only [gName]
      refine ⟨_, rfl, _, rfl, lin, rfl, big _ (by omega), _, _, rfl, rfl, p, s, _, rfl, hP8, by omega, by omega, fun r H9 r0 r1 hP9 e9 => ?_⟩
      obtain ⟨he2, rfl⟩ := nat_of r0
      try dsimp only [gName]
      have hsl : (" !\"#$&'()*+,-./0123456789:;<=>?@ABCDEFGHIJKLMNOPQRSTUVWXYZ[\\]^_`abcdefghijklmnopqrstuvwxyz{|}~" : Str).cps.toList.length = 94 := by decide +kernel
      refine ⟨_, rfl, _, rfl, _, rfl, _, rfl, by decide, p, s, _, rfl, hP9, by decide, by decide, fun r H10 r0 r1 hP10 e10 => ?_⟩
      obtain ⟨ri, rfl⟩ := nat_of r0
      have hri : ri < 94 := by
        have e94 : ((" !\"#$&'()*+,-./0123456789:;<=>?@ABCDEFGHIJKLMNOPQRSTUVWXYZ[\\]^_`abcdefghijklmnopqrstuvwxyz{|}~" : Str).length : Int) = 94 := by decide +kernel
        rw [e94] at r1; omega
      obtain ⟨ch, hch⟩ : ∃ ch, (" !\"#$&'()*+,-./0123456789:;<=>?@ABCDEFGHIJKLMNOPQRSTUVWXYZ[\\]^_`abcdefghijklmnopqrstuvwxyz{|}~" : Str).cps.toList[ri]? = some ch := ⟨_, List.getElem?_eq_getElem (by rw [hsl]; exact hri)⟩
      have h1 : (⟨#[ch]⟩ : Str).length = 1 := rfl
      refine ⟨_, _, ch, rfl, rfl, by decide, atI_nat hch, ?_⟩
      have cl' : ∀ lo hi, (cutS lin lo hi).length ≤ B := fun lo hi => Nat.le_trans (cutS_length lin lo hi) hlB
      have d1 := cl' none (some ((he2 : Nat) : Int))
      refine ⟨_, rfl, _, rfl, _, rfl, _, rfl, big _ (by omega), _, rfl, _, _, rfl, rfl, big _ (by omega), ?_⟩
      refine ⟨_, rfl, _, rfl, _, rfl, p, s, 2, rfl, hP10, by decide, by decide, fun r H11 r0 r1 hP11 e11 => ?_⟩
      have d2 := cl' (some (((he2 : Nat) : Int) + r)) none
      refine ⟨_, _, rfl, rfl, _, rfl, _, rfl, big _ (by omega), _, _, rfl, rfl, big _ (by rw [ln_app]; omega), ?_⟩
      try dsimp only [gName]
      have hcl : (cutS lin none (some ((he2 : Nat) : Int)) ++ (⟨#[ch]⟩ : Str) ++ cutS lin (some (((he2 : Nat) : Int) + r)) none).length ≤ 4 * B + 5001 := by rw [ln_app, ln_app]; omega
      generalize cutS lin none (some ((he2 : Nat) : Int)) ++ (⟨#[ch]⟩ : Str) ++ cutS lin (some (((he2 : Nat) : Int) + r)) none = chg at hcl ⊢
      have e811 := (e9.trans e10).trans e11
      have hla11 := e811.lst hlp hla8
      refine (GivesP.cat (T := T) (p := p) (s := s) (A := fun zs => ∃ xs ys, xs = (L.take at_).map V.str ∧ MidOk B ys ∧ zs = xs ++ ys) (B := fun xs => xs = (L.drop (at_ + 1)).map V.str) (GivesP.cat (A := fun xs => xs = (L.take at_).map V.str) (B := MidOk B) ?_ ?_ (fun xs h => h ▸ lt _) (fun xs h => h.len)) ?_ (fun zs ⟨xs, ys, h1, h2, h3⟩ => by rw [h3, h1, List.length_append, List.length_map, List.length_take]; obtain ⟨mid, rfl, m1, _⟩ := h2; rw [List.length_map]; omega) (fun xs h => h ▸ ld _)) _ ?_
      · exact GivesP.new (xs := (L.map V.str).take at_) hP11 List.map_take.symm fun Q h => ⟨_, rfl, _, rfl, _, rfl, la, _, rfl, SqL.of (hla11), fun q hq => by rw [show cutV (L.map V.str) none (some ((at_ : Nat) : Int)) = (L.map V.str).take at_ from cutTo _ _]; exact h q hq⟩
      · intro H3 hP3 e3
        exact GivesP.new (xs := [.str chg]) hP3 (MidOk.one hcl) fun Q h => ⟨_, rfl, by show 1 ≤ sizeLine; decide, fun q hq => h q hq⟩
      · intro H3 hP3 e3
        exact GivesP.new (xs := (L.map V.str).drop (at_ + 1)) hP3 List.map_drop.symm fun Q h => ⟨_, rfl, _, rfl, _, _, rfl, rfl, _, rfl, la, _, rfl, SqL.of (e3.lst hlp hla11), fun q hq => by rw [i1, cut_from]; exact h q hq⟩
      · rintro lb xs H9 ⟨_, _, ⟨_, _, rfl, ⟨mid, rfl, m1, m2, m3⟩, rfl⟩, rfl, rfl⟩ h9 hne hP9 e9
        exact fin lb mid at_ (at_ + 1) H9 h9 hne (by omega) m1 m2 m3 hP9 ((e18.trans e811).trans e9)
    try unfold tNext
    try dsimp only
    try unfold tSeq
    have hwlN : H wl = none := e12.fr wl hwl
    have wlt : ∀ i : Nat, ((W.take i).map V.str).length ≤ 10000 := fun i => by rw [List.length_map, List.length_take]; omega
    have wld : ∀ i : Nat, ((W.drop i).map V.str).length ≤ 10000 := fun i => by rw [List.length_map, List.length_drop]; omega
    have wt1 := tot_td W here (here + 1) (by omega)
    have wt2 := tot_td W here here (Nat.le_refl _)
    refine ⟨fun σ' H' => ∃ w2 W2 y8 y9 y10 y11 y12 y13, σ' = [some (.ref p), some (.ref la), some (.int (at_ : Nat)), some (.int (pick : Nat)), none, none, none, some (.ref w2), y8, y9, y10, y11, y12, y13] ∧ H' w2 = some (.lst (W2.map V.str)) ∧ w2 ≠ p ∧ tot W2 + W2.length ≤ 4 * B + 5001 ∧ W2.length ≤ 10000 ∧ PoolAt H' p s ∧ Ext T (atP p) H H', ?_, ?_⟩
    · refine ev_if (fun Q h => ⟨_, rfl, rfl, _, rfl, h⟩) (fun c5 => ?_) (fun c5 => ?_)
      · refine (GivesP.cat (T := T) (p := p) (s := s) (A := fun xs => xs = (W.take here).map V.str) (B := fun xs => xs = (W.drop (here + 1)).map V.str) ?_ ?_ (fun xs h => h ▸ wlt _) (fun xs h => h ▸ wld _)) _ ?_
        · exact GivesP.new (xs := (W.map V.str).take here) hP8 List.map_take.symm fun Q h => ⟨_, rfl, _, rfl, _, rfl, wl, _, rfl, SqL.of (hwl8), fun q hq => by rw [show cutV (W.map V.str) none (some ((here : Nat) : Int)) = (W.map V.str).take here from cutTo _ _]; exact h q hq⟩
        · intro H9 hP9 e9
          exact GivesP.new (xs := (W.map V.str).drop (here + 1)) hP9 List.map_drop.symm fun Q h => ⟨_, rfl, _, rfl, _, _, rfl, rfl, _, rfl, wl, _, rfl, SqL.of (e9.lst hwlp hwl8), fun q hq => by rw [i1, cut_from]; exact h q hq⟩
        · rintro w2 xs H9 ⟨_, _, rfl, rfl, rfl⟩ h9 hne hP9 e9
          refine ⟨w2, W.take here ++ W.drop (here + 1), _, _, _, _, _, _, rfl, by rw [List.map_append]; exact h9, hne, ?_, ?_, hP9, e18.trans e9⟩
          · rw [tot_app, List.length_append, List.length_take, List.length_drop]; omega
          · rw [List.length_append, List.length_take, List.length_drop]; omega
      · refine ev_if (fun Q h => ⟨_, rfl, rfl, _, rfl, h⟩) (fun c6 => ?_) (fun c6 => ?_)
        · refine (GivesP.cat (T := T) (p := p) (s := s) (A := fun zs => ∃ xs ys, xs = (W.take here).map V.str ∧ ys = [V.str wo] ∧ zs = xs ++ ys) (B := fun xs => xs = (W.drop here).map V.str) (GivesP.cat (A := fun xs => xs = (W.take here).map V.str) (B := fun ys => ys = [V.str wo]) ?_ ?_ (fun xs h => h ▸ wlt _) (fun xs h => h ▸ (by show 1 ≤ 10000; decide))) ?_ (fun zs ⟨xs, ys, h1, h2, h3⟩ => by rw [h3, h1, h2, List.length_append, List.length_map, List.length_take]; show _ + 1 ≤ _; omega) (fun xs h => h ▸ wld _)) _ ?_
          · exact GivesP.new (xs := (W.map V.str).take here) hP8 List.map_take.symm fun Q h => ⟨_, rfl, _, rfl, _, rfl, wl, _, rfl, SqL.of (hwl8), fun q hq => by rw [show cutV (W.map V.str) none (some ((here : Nat) : Int)) = (W.map V.str).take here from cutTo _ _]; exact h q hq⟩
          · intro H9 hP9 e9
            exact GivesP.new (xs := [.str wo]) hP9 rfl fun Q h => ⟨_, rfl, _, rfl, wl, _, _, _, rfl, rfl, SqL.of (e9.lst hwlp hwl8), at_of (j := here) rfl hwov, by show 1 ≤ sizeLine; decide, fun q hq => h q hq⟩
          · intro H9 hP9 e9
            exact GivesP.new (xs := (W.map V.str).drop here) hP9 List.map_drop.symm fun Q h => ⟨_, rfl, _, rfl, _, rfl, wl, _, rfl, SqL.of (e9.lst hwlp hwl8), fun q hq => by rw [show cutV (W.map V.str) (some ((here : Nat) : Int)) none = (W.map V.str).drop here from cut_from _ _]; exact h q hq⟩
          · rintro w2 xs H9 ⟨_, _, ⟨_, _, rfl, rfl, rfl⟩, rfl, rfl⟩ h9 hne hP9 e9
            refine ⟨w2, W.take here ++ [wo] ++ W.drop here, _, _, _, _, _, _, rfl, by rw [List.map_append, List.map_append]; exact h9, hne, ?_, ?_, hP9, e18.trans e9⟩
            · have t1 : tot [wo] = wo.length := Nat.add_zero _
              rw [tot_app, tot_app, t1, List.length_append, List.length_append, List.length_take, List.length_drop, List.length_singleton]; omega
            · rw [List.length_append, List.length_append, List.length_take, List.length_drop, List.length_singleton]; omega
        · refine ⟨_, rfl, _, rfl, p, s, s5, _, rfl, hP8, hs5, hs5p, z5n, by omega, fun v H9 hv hP9 e9 => ?_⟩
          obtain ⟨y, rfl, hy⟩ := q5.1 v hv
          have hwl9 := e9.lst hwlp hwl8
          have e19 := e18.trans e9
          refine ⟨_, rfl, _, rfl, wl, _, _, here, rfl, rfl, hwl9, Evl.ixN_nat (by rw [hwml]; exact hhe), ?_⟩
          refine ⟨wl, W.set here y, _, _, _, _, _, _, rfl, ?_, hwlp, ?_, by rw [List.length_set]; omega, hP9.upd hwlp hwls, e19.mut (.inl hwlN) hwl9 ltbl⟩
          · rw [upd_same, List.map_set]
          · have := tot_set W here y
            rw [List.length_set]; omega
    clear hwl8 hla8 hP8
    rintro σ' H8 ⟨w2, W2, y8, y9, y10, y11, y12, y13, rfl, hw2, hw2p, hW2, hW2l, hP8, e8⟩
    have hla8 := e8.lst hlp hla
    have hj := join_ln W2
    have hjl : (Txt.join " " W2).length ≤ 4 * B + 5001 := by omega
    have hj0 : (W2.map (·.length)).sum + W2.length * (" " : Str).length ≤ 16777216 := by
      have : (W2.map (·.length)).sum = tot W2 := rfl
      have h1 : (" " : Str).length = 1 := rfl
      rw [h1]; omega
    refine (GivesP.cat (T := T) (p := p) (s := s) (A := fun zs => ∃ xs ys, xs = (L.take at_).map V.str ∧ MidOk B ys ∧ zs = xs ++ ys) (B := fun xs => xs = (L.drop (at_ + 1)).map V.str) (GivesP.cat (A := fun xs => xs = (L.take at_).map V.str) (B := MidOk B) ?_ ?_ (fun xs h => h ▸ lt _) (fun xs h => h.len)) ?_ (fun zs ⟨xs, ys, h1, h2, h3⟩ => by rw [h3, h1, List.length_append, List.length_map, List.length_take]; obtain ⟨mid, rfl, m1, _⟩ := h2; rw [List.length_map]; omega) (fun xs h => h ▸ ld _)) _ ?_
    · exact GivesP.new (xs := (L.map V.str).take at_) hP8 List.map_take.symm fun Q h => ⟨_, rfl, _, rfl, _, rfl, la, _, rfl, SqL.of (hla8), fun q hq => by rw [show cutV (L.map V.str) none (some ((at_ : Nat) : Int)) = (L.map V.str).take at_ from cutTo _ _]; exact h q hq⟩
    · intro H3 hP3 e3
      exact GivesP.new (xs := [.str (Txt.join " " W2)]) hP3 (MidOk.one hjl) fun Q h => ⟨⟨_, rfl⟩, _, rfl, " ", w2, W2, rfl, rfl, .inl (SqL.of (e3.lst hw2p hw2)), hj0, by show 1 ≤ sizeLine; decide, fun q hq => h q hq⟩
    · intro H3 hP3 e3
      exact GivesP.new (xs := (L.map V.str).drop (at_ + 1)) hP3 List.map_drop.symm fun Q h => ⟨_, rfl, _, rfl, _, _, rfl, rfl, _, rfl, la, _, rfl, SqL.of (e3.lst hlp hla8), fun q hq => by rw [i1, cut_from]; exact h q hq⟩
    · rintro lb xs H9 ⟨_, _, ⟨_, _, rfl, ⟨mid, rfl, m1, m2, m3⟩, rfl⟩, rfl, rfl⟩ h9 hne hP9 e9
      exact fin lb mid at_ (at_ + 1) H9 h9 hne (by omega) m1 m2 m3 hP9 (e8.trans e9)
end
end Mw

set_option Elab.async false
set_option linter.all false
set_option maxRecDepth 100000
set_option maxHeartbeats 4000000
namespace Mw
open PySem PySem.Spec PyProof.Rows L2 GE
def spLOpen (T : List Addr) : Sp := fun vs H Q _ => ∃ (gt : Addr) (g : List Nat) (pz : V) (ps : List Pr), vs = [pz, .ref gt] ∧ H gt = some (.tup (natsV g)) ∧ Rp H (pairsD ps) pz ∧ ps.length ≤ 6 ∧
  ∀ H', Ext T noM H H' → Q (.bl (ps.any fun q => decide (q.1 ∈ g) != decide (q.2 ∈ g))) H'
/-- a list of groups -/
def GrL (H : Hp) (n : Nat) (h : Nat → Nat) (R : List Nat) (l : Addr) : Prop := ∃ vs : List V, H l = some (.lst vs) ∧ vs.length = R.length ∧ ∀ (i r : Nat), R[i]? = some r → ∃ t : Addr, vs[i]? = some (V.ref t) ∧ H t = some (.tup (natsV (cls h n r)))
theorem GrL.x {T : List Addr} {H H' : Hp} {n : Nat} {h : Nat → Nat} {R : List Nat} {l : Addr} (g : GrL H n h R l) (e : Ext T noM H H') : GrL H' n h R l := by
  obtain ⟨vs, h1, h2, h3⟩ := g
  exact ⟨vs, e.lst (fun z => z) h1, h2, fun i r q => by obtain ⟨t, q1, q2⟩ := h3 i r q; exact ⟨t, q1, e.tup (fun z => z) q2⟩⟩
def sidesF (ws : Wl) (n : Nat) (h : Nat → Nat) (c : Nat) : List Nat := (reps h n).filter fun r => decide (h (way ws c).1 = r) || decide (h (way ws c).2.1 = r)
def sides (ws : Wl) (n : Nat) (h : Nat → Nat) (c : Nat) : List Nat := if (sidesF ws n h c).length = 2 then sidesF ws n h c else []
def spLSides (T : List Addr) : Sp := fun vs H Q _ => ∃ (xa l : Addr) (n c : Nat) (ws : Wl) (h : Nat → Nat), vs = [.ref xa, .ref l] ∧ H xa = some (.tup [.int (way ws c).1, .int (way ws c).2.1, .int (way ws c).2.2]) ∧ (way ws c).1 < n ∧ (way ws c).2.1 < n ∧ n ≤ 12 ∧ GrL H n h (reps h n) l ∧
  ∀ r H', GrL H' n h (sides ws n h c) r → H r = none → Ext T noM H H' → Q (.ref r) H'
section
variable {P : Program} {w : World} {K : PySem.W.Frag} {mg : Str → Option Value} {base : Heap} {T : List Addr} {aC : Addr}
end
end Mw

set_option Elab.async false
set_option linter.all false
set_option maxRecDepth 100000
set_option maxHeartbeats 4000000
namespace Mw
open PySem PySem.Spec PyProof.Rows L2 GE
def widK (wid : List (List Nat × Int)) : List (List Key × V) := wid.map fun kw => (keyOf kw.1, V.int (kw.2 * 268435456))
def xl (ws : Wl) (c : Nat) (wid : List (List Nat × Int)) : Int := (wid.map fun kw => if (decide ((way ws c).1 ∈ kw.1) != decide ((way ws c).2.1 ∈ kw.1)) = true then kw.2 else 0).sum
theorem widK_val {wid : List (List Nat × Int)} (nd : (wid.map (·.1)).Nodup) {i : Nat} {kw : List Nat × Int} (h : wid[i]? = some kw) : valV (widK wid) (keyOf kw.1) = some (.int (kw.2 * 268435456)) := by
  induction wid generalizing i with
  | nil => simp at h
  | cons a l ih =>
    obtain ⟨n1, n2⟩ := List.nodup_cons.mp nd
    show valV ((keyOf a.1, V.int (a.2 * 268435456)) :: widK l) _ = _
    cases i with
    | zero =>
      have : a = kw := by simpa using h
      subst this
      exact valV_pos rfl
    | succ i =>
      have h' : l[i]? = some kw := by simpa using h
      rw [valV_neg (fun z => n1 (by
        have e : a.1 = kw.1 := keyOf_inj z
        show a.1 ∈ _
        rw [e]; exact List.mem_map_of_mem (List.mem_of_getElem? h')))]
      exact ih n2 h'
def spLLack (T : List Addr) : Sp := fun vs H Q _ => ∃ (xa d : Addr) (c : Nat) (ws : Wl) (wid : List (List Nat × Int)), vs = [.ref xa, .ref d] ∧ H xa = some (.tup [.int (way ws c).1, .int (way ws c).2.1, .int (way ws c).2.2]) ∧ (way ws c).2.2 ≤ 10000 ∧ H d = some (.dT (widK wid)) ∧ (wid.map (·.1)).Nodup ∧ wid.length ≤ 300 ∧
  ∀ H', Ext T noM H H' → Q (.int (((way ws c).2.2 : Int) * 1099511627776 - xl ws c wid * 268435456)) H'
section
variable {P : Program} {w : World} {K : PySem.W.Frag} {mg : Str → Option Value} {base : Heap} {T : List Addr} {aC : Addr}
end
end Mw

set_option Elab.async false
set_option linter.all false
set_option maxRecDepth 100000
set_option maxHeartbeats 4000000
namespace Mw
open PySem PySem.Spec PyProof.Rows L2 GE
theorem xl_eq {ws : Wl} {c : Nat} {h : Nat → Nat} (hne : h (way ws c).1 ≠ h (way ws c).2.1) : ∀ {wid : List (List Nat × Int)}, (∀ kw ∈ wid, ∀ x ∈ kw.1, ∀ y ∈ kw.1, h x = h y) → xl ws c wid = wsum (way ws c).1 wid + wsum (way ws c).2.1 wid
  | [], _ => rfl
  | (k, s) :: r, hk => by
    have ih := xl_eq hne (wid := r) fun kw q => hk kw (List.mem_cons_of_mem _ q)
    have h0 := hk (k, s) List.mem_cons_self
    have e1 : xl ws c ((k, s) :: r) = (if (decide ((way ws c).1 ∈ k) != decide ((way ws c).2.1 ∈ k)) = true then s else 0) + xl ws c r := by unfold xl; rw [List.map_cons, List.sum_cons]
    have e2 : ∀ p, wsum p ((k, s) :: r) = (if p ∈ k then s else 0) + wsum p r := fun p => rfl
    rw [e1, e2, e2, ih]
    by_cases a1 : (way ws c).1 ∈ k
    · have b1 : (way ws c).2.1 ∉ k := fun z => hne (h0 _ a1 _ z)
      rw [if_pos (by rw [decide_eq_true a1, decide_eq_false b1]; rfl), if_pos a1, if_neg b1]; omega
    · by_cases b1 : (way ws c).2.1 ∈ k
      · rw [if_pos (by rw [decide_eq_false a1, decide_eq_true b1]; rfl), if_neg a1, if_pos b1]; omega
      · rw [if_neg (by rw [decide_eq_false a1, decide_eq_false b1]; exact Bool.false_ne_true), if_neg a1, if_neg b1]; omega
theorem GM.lackL {n t : Nat} {ws : Wl} {S : Gs} (W : WsOk n ws) (G : GM n ws t S) {c : Nat} (hc : c < ws.length) (hx : crosses ws S c = true) : ((way ws c).2.2 : Int) * 1099511627776 - xl ws c S.wid * 268435456 = lack ws S c * 268435456 := by
  obtain ⟨w1, w2, _⟩ := W.ok c hc
  have e := xl_eq (of_decide_eq_true hx) (wid := S.wid) fun kw q x hx y hy => ((G.key kw q).1 x hx).2 y hy
  rw [e, ← G.sum _ (Nat.lt_trans w1 w2), ← G.sum _ w2]
  unfold lack; omega
theorem sides_two {n : Nat} {es : List (Nat × Nat)} {ws : Wl} {h : Nat → Nat} (HM : Hom n es h) {c : Nat} (ha : (way ws c).1 < n) (hb : (way ws c).2.1 < n) : (sidesF ws n h c).length = 2 ↔ h (way ws c).1 ≠ h (way ws c).2.1 := by
  have nd : (sidesF ws n h c).Nodup := (reps_nodup h n).filter _
  have mem : ∀ r, r ∈ sidesF ws n h c ↔ r = h (way ws c).1 ∨ r = h (way ws c).2.1 := fun r => by
    unfold sidesF
    rw [List.mem_filter, mem_reps', Bool.or_eq_true, decide_eq_true_eq, decide_eq_true_eq]
    constructor
    · rintro ⟨_, z | z⟩
      · exact .inl z.symm
      · exact .inr z.symm
    · rintro (z | z)
      · subst z; exact ⟨⟨Nat.lt_of_le_of_lt (HM.le _ ha) ha, HM.idem _ ha⟩, .inl rfl⟩
      · subst z; exact ⟨⟨Nat.lt_of_le_of_lt (HM.le _ hb) hb, HM.idem _ hb⟩, .inr rfl⟩
  constructor
  · intro hl e
    have h2 : (sidesF ws n h c).Perm [h (way ws c).1] := (List.perm_ext_iff_of_nodup nd (nd1 _)).mpr fun r => by rw [mem, List.mem_singleton, e]; simp
    have := h2.length_eq
    rw [hl] at this; cases this
  · intro hne
    have h2 : (sidesF ws n h c).Perm [h (way ws c).1, h (way ws c).2.1] := (List.perm_ext_iff_of_nodup nd (by simp [hne])).mpr fun r => by rw [mem]; simp
    exact h2.length_eq
theorem sides_len {n : Nat} {es : List (Nat × Nat)} {ws : Wl} {S : Gs} (HM : Hom n es S.h) {c : Nat} (ha : (way ws c).1 < n) (hb : (way ws c).2.1 < n) : ((sides ws n S.h c).length = 2 ↔ crosses ws S c = true) := by
  have h2 := sides_two HM ha hb
  unfold sides crosses
  rw [decide_eq_true_eq, ← h2]
  by_cases z : (sidesF ws n S.h c).length = 2
  · rw [if_pos z]
  · rw [if_neg z]; exact ⟨fun y => by simp at y, fun y => absurd y z⟩
/-- what the law keeps of a growth -/
structure LSt (H : Hp) (n : Nat) (ws : Wl) (S : Gs) (net : V) (l d : Addr) : Prop where
  net : Rp H (netD n ws) net
  l : GrL H n S.h (reps S.h n) l
  d : H d = some (.dT (widK S.wid))
  nd : (S.wid.map (·.1)).Nodup
  wl : S.wid.length ≤ 300
theorem LSt.x {T : List Addr} {H H' : Hp} {n : Nat} {ws : Wl} {S : Gs} {net : V} {l d : Addr} (L : LSt H n ws S net l d) (e : Ext T noM H H') : LSt H' n ws S net l d := ⟨Rp.x e L.net, L.l.x e, e.kp _ _ (fun z => z) L.d (fun ps z => nomatch z), L.nd, L.wl⟩
def spLFull (T : List Addr) : Sp := fun vs H Q _ => ∃ (net : V) (l d : Addr) (n t : Nat) (ws : Wl) (S : Gs), vs = [net, .ref l, .ref d] ∧ LSt H n ws S net l d ∧ Wf n ws ∧ GM n ws t S ∧ ∀ H', Ext T noM H H' → Q (firstV ws S) H'
section
variable {P : Program} {w : World} {K : PySem.W.Frag} {mg : Str → Option Value} {base : Heap} {T : List Addr} {aC : Addr}
end
end Mw

set_option Elab.async false
set_option linter.all false
set_option maxRecDepth 100000
set_option maxHeartbeats 4000000
namespace Mw
open PySem PySem.Spec PyProof.Rows L2 GE
theorem op_inDK {X : Cx} {K : PySem.W.Frag} (hu : X.A.units + 65 < cLine) (h : X.K = K := by rfl) : OpR X (compareOp .In) (rInD K) := h ▸ op_inD hu
theorem natDs_list {h : Nat → Nat} {n : Nat} (R : List Nat) : SeqAt.shaped (.list (R.map fun r => natD (cls h n r))) = true := natDs_shaped (h := h) (n := n) R
def waitV : Option Int → V
  | some x => .int (x * 268435456)
  | none => .non
theorem sides_perm {n : Nat} {es : List (Nat × Nat)} {ws : Wl} {S : Gs} (HM : Hom n es S.h) {c : Nat} (ha : (way ws c).1 < n) (hb : (way ws c).2.1 < n) (R : List Nat) : ((sides ws n S.h c).filter fun r => decide (r ∈ R)).length = if crosses ws S c = true then spd ws S R c else 0 := by
  have hl := sides_len (S := S) HM ha hb
  by_cases hx : crosses ws S c = true
  · rw [if_pos hx]
    have hne := of_decide_eq_true hx
    have e : sides ws n S.h c = sidesF ws n S.h c := if_pos ((sides_two HM ha hb).mpr hne)
    have nd : (sidesF ws n S.h c).Nodup := (reps_nodup S.h n).filter _
    have h2 : (sidesF ws n S.h c).Perm [S.h (way ws c).1, S.h (way ws c).2.1] := (List.perm_ext_iff_of_nodup nd (by simp [hne])).mpr fun r => by
      unfold sidesF
      rw [List.mem_filter, mem_reps', Bool.or_eq_true, decide_eq_true_eq, decide_eq_true_eq]
      simp only [List.mem_cons, List.not_mem_nil, or_false]
      constructor
      · rintro ⟨_, z | z⟩
        · exact .inl z.symm
        · exact .inr z.symm
      · rintro (z | z)
        · subst z; exact ⟨⟨Nat.lt_of_le_of_lt (HM.le _ ha) ha, HM.idem _ ha⟩, .inl rfl⟩
        · subst z; exact ⟨⟨Nat.lt_of_le_of_lt (HM.le _ hb) hb, HM.idem _ hb⟩, .inr rfl⟩
    rw [e, (h2.filter _).length_eq]
    unfold spd
    by_cases q1 : S.h (way ws c).1 ∈ R <;> by_cases q2 : S.h (way ws c).2.1 ∈ R <;> simp [q1, q2]
  · rw [if_neg hx]
    have : ¬ (sides ws n S.h c).length = 2 := fun z => hx (hl.mp z)
    have e : sides ws n S.h c = [] := by
      unfold sides at this ⊢
      split
      · rename_i z; rw [if_pos z] at this; exact absurd z this
      · rfl
    rw [e]; rfl
def spLWait (T : List Addr) : Sp := fun vs H Q _ => ∃ (net : V) (l d sl : Addr) (n t : Nat) (ws : Wl) (S : Gs) (R : List Nat), vs = [net, .ref l, .ref d, .ref sl] ∧ LSt H n ws S net l d ∧ Wf n ws ∧ GM n ws t S ∧ t < 12 ∧ GrL H n S.h R sl ∧ (∀ r ∈ R, r < n ∧ S.h r = r) ∧
  ∀ H', Ext T noM H H' → Q (waitV (least ((canW ws S R).map (cand ws S R)))) H'
section
variable {P : Program} {w : World} {K : PySem.W.Frag} {mg : Str → Option Value} {base : Heap} {T : List Addr} {aC : Addr}
end
end Mw

set_option linter.all false
namespace Mw
open GE
def li (l : List Nat) : List Int := l.map fun x : Nat => (x : Int)
theorem perm_sorted : ∀ {l m : List (List Int)}, l.Perm m → l.Pairwise (fun x y => lexL y x = false) → m.Pairwise (fun x y => lexL y x = false) → l = m
  | [], m, p, _, _ => (List.nil_perm.mp p).symm ▸ rfl
  | x :: l, [], p, _, _ => absurd p.length_eq (by simp)
  | x :: l, y :: m, p, h1, h2 => by
    obtain ⟨a1, a2⟩ := List.pairwise_cons.mp h1
    obtain ⟨b1, b2⟩ := List.pairwise_cons.mp h2
    have refl : ∀ z : List Int, lexL z z = false := fun z => by
      cases q : lexL z z with
      | false => rfl
      | true => have := lexL_asym z z q; rw [q] at this; exact this
    have hx : lexL y x = false := by
      rcases List.mem_cons.mp (p.mem_iff.mpr List.mem_cons_self : y ∈ x :: l) with e | e
      · rw [e]; exact refl _
      · exact a1 y e
    have hy : lexL x y = false := by
      rcases List.mem_cons.mp (p.mem_iff.mp List.mem_cons_self : x ∈ y :: m) with e | e
      · rw [e]; exact refl _
      · exact b1 x e
    have e : x = y := lexL_total x y hy hx
    subst e
    rw [perm_sorted (List.Perm.cons_inv p) a2 b2]
theorem reps_sorted {n : Nat} {es : List (Nat × Nat)} {h : Nat → Nat} (H : Hom n es h) : ((reps h n).map fun r => li (cls h n r)).Pairwise (fun x y => lexL y x = false) := by
  rw [List.pairwise_map]
  have pw : (reps h n).Pairwise (· < ·) := (range_pw n).filter _
  have key : ∀ (l : List Nat), l.Pairwise (· < ·) → (∀ r ∈ l, r < n ∧ h r = r) → l.Pairwise (fun x y => lexL (li (cls h n y)) (li (cls h n x)) = false) := by
    intro l
    induction l with
    | nil => intro _ _; exact List.Pairwise.nil
    | cons a l ih =>
      intro hp hl
      obtain ⟨p1, p2⟩ := List.pairwise_cons.mp hp
      refine List.pairwise_cons.mpr ⟨fun b hb => ?_, ih p2 fun r hr => hl r (List.mem_cons_of_mem _ hr)⟩
      have hab := p1 b hb
      obtain ⟨an, aa⟩ := hl a List.mem_cons_self
      obtain ⟨bn, bb⟩ := hl b (List.mem_cons_of_mem _ hb)
      obtain ⟨ra, ea⟩ := cls_head H an
      obtain ⟨rb, eb⟩ := cls_head H bn
      rw [ea, eb, aa, bb]
      show (if (b : Int) = (a : Int) then lexL _ _ else decide ((b : Int) < (a : Int))) = false
      rw [if_neg (by omega)]
      exact decide_eq_false (by omega)
  exact key _ pw fun r hr => mem_reps'.mp hr
/-- the groups when two are one -/
theorem reps_join {n : Nat} {es : List (Nat × Nat)} {h : Nat → Nat} (H : Hom n es h) {a b : Nat} (ha : a < n) (hb : b < n) (hne : h a ≠ h b) :
    (((reps h n).filter fun r => decide (r ≠ h a) && decide (r ≠ h b)) ++ [min (h a) (h b)]).Perm (reps (relab h a b) n) := by
  have H2 := H.step ha hb
  have la := H.le a ha
  have lb := H.le b hb
  have ia := H.idem a ha
  have ib := H.idem b hb
  refine (List.perm_ext_iff_of_nodup ?_ (reps_nodup _ _)).mpr fun r => ?_
  · rw [List.nodup_append]
    refine ⟨(reps_nodup _ _).filter _, List.nodup_cons.mpr ⟨(fun h => nomatch h), List.nodup_nil⟩, fun x hx y hy e => ?_⟩
    subst e
    have e2 := List.mem_singleton.mp hy
    have := (List.mem_filter.mp hx).2
    rw [Bool.and_eq_true, decide_eq_true_eq, decide_eq_true_eq] at this
    omega
  · rw [List.mem_append, List.mem_filter, List.mem_singleton, mem_reps', mem_reps', Bool.and_eq_true, decide_eq_true_eq, decide_eq_true_eq]
    constructor
    · rintro (⟨⟨rn, rr⟩, n1, n2⟩ | e)
      · refine ⟨rn, ?_⟩
        rw [relab_eq H ha hb rn, if_neg (by rw [rr]; omega)]; exact rr
      · subst e
        have hm : min (h a) (h b) < n := by omega
        refine ⟨hm, ?_⟩
        have hmm : h (min (h a) (h b)) = min (h a) (h b) := by
          rcases Nat.le_total (h a) (h b) with z | z
          · rw [Nat.min_eq_left z]; exact ia
          · rw [Nat.min_eq_right z]; exact ib
        rw [relab_eq H ha hb hm, hmm]
        split
        · rfl
        · rfl
    · rintro ⟨rn, e⟩
      rw [relab_eq H ha hb rn] at e
      by_cases z : h r = h a ∨ h r = h b
      · rw [if_pos z] at e; exact .inr e.symm
      · rw [if_neg z] at e
        refine .inl ⟨⟨rn, e⟩, fun y => z (.inl (by rw [y, ia])), fun y => z (.inr (by rw [y, ib]))⟩
end Mw

set_option Elab.async false
set_option linter.all false
set_option maxRecDepth 100000
set_option maxHeartbeats 4000000
namespace Mw
open PySem PySem.Spec PyProof.Rows L2 GE
theorem op_notInDTK {X : Cx} {K : PySem.W.Frag} (hu : X.A.units + 65 < cLine) (h : X.K = K := by rfl) : OpR X (compareOp .NotIn) (rInDT K true) := h ▸ op_notInDT hu
/-- the whole numbers of a tuple -/
def keyV (H : Hp) : V → List Int
  | .ref a => match H a with
    | some (.tup xs) => xs.map GE.iv
    | _ => []
  | _ => []
theorem iv_nats (l : List Nat) : (natsV l).map GE.iv = li l := by unfold natsV li; rw [List.map_map]; rfl
theorem keyV_at {H : Hp} {t : Addr} {l : List Nat} (h : H t = some (.tup (natsV l))) : keyV H (.ref t) = li l := by
  show (match H t with | some (.tup xs) => xs.map GE.iv | _ => []) = _
  rw [h]; exact iv_nats l
theorem li_ints (l : List Nat) : (li l).map V.int = natsV l := by unfold natsV li; rw [List.map_map]; rfl
/-- groups put in order -/
theorem sorted_groups {n : Nat} {es : List (Nat × Nat)} {g : Nat → Nat} (HM : Hom n es g) {H : Hp} {L ys : List V} {G : List Nat} (hG : G.Perm (reps g n)) (hl : L.length = G.length)
    (hx : ∀ (m r : Nat), G[m]? = some r → ∃ t : Addr, L[m]? = some (V.ref t) ∧ H t = some (.tup (natsV (cls g n r)))) (p : ys.Perm L) (s : SrtO.Srtd (fun x y => lexL (keyV H x) (keyV H y)) ys) :
    ys.length = (reps g n).length ∧ ∀ (i r : Nat), (reps g n)[i]? = some r → ∃ t : Addr, ys[i]? = some (V.ref t) ∧ H t = some (.tup (natsV (cls g n r))) := by
  have e1 : L.map (keyV H) = G.map fun r => li (cls g n r) := by
    refine List.ext_getElem? fun m => ?_
    rw [List.getElem?_map, List.getElem?_map]
    rcases Nat.lt_or_ge m G.length with h | h
    · obtain ⟨t, q1, q2⟩ := hx m G[m] (List.getElem?_eq_getElem h)
      rw [List.getElem?_eq_getElem h, q1]
      show some (keyV H (.ref t)) = _
      rw [keyV_at q2]; rfl
    · rw [List.getElem?_eq_none h, List.getElem?_eq_none (by rw [hl]; exact h)]; rfl
  have e2 : ys.map (keyV H) = (reps g n).map fun r => li (cls g n r) := by
    refine perm_sorted ((p.map _).trans (by rw [e1]; exact hG.map _)) ?_ (reps_sorted HM)
    rw [List.pairwise_map]
    exact s
  have hlen : ys.length = (reps g n).length := by rw [p.length_eq, hl, hG.length_eq]
  refine ⟨hlen, fun i r hr => ?_⟩
  have hi : i < ys.length := by rw [hlen]; exact (List.getElem?_eq_some_iff.mp hr).1
  have hm : ys[i] ∈ L := p.mem_iff.mp (List.getElem_mem hi)
  obtain ⟨m, hm1, hm2⟩ := List.getElem_of_mem hm
  obtain ⟨t, q1, q2⟩ := hx m (G[m]'(by rw [← hl]; exact hm1)) (List.getElem?_eq_getElem _)
  rw [List.getElem?_eq_getElem hm1, hm2] at q1
  have q3 := Option.some.inj q1
  have e3 := congrArg (fun l => l[i]?) e2
  rw [List.getElem?_map, List.getElem?_map, hr, List.getElem?_eq_getElem hi] at e3
  have e4 : keyV H ys[i] = li (cls g n r) := Option.some.inj e3
  rw [q3, keyV_at q2] at e4
  exact ⟨t, by rw [List.getElem?_eq_getElem hi, q3], by rw [q2, ← li_ints, e4, li_ints]⟩
def spLTog (T : List Addr) : Sp := fun vs H Q _ => ∃ (net : V) (l : Addr) (n c : Nat) (ws : Wl) (S : Gs), vs = [net, .ref l, .int (c : Nat)] ∧ Rp H (netD n ws) net ∧ Wf n ws ∧ (∃ es, Hom n es S.h) ∧ GrL H n S.h (reps S.h n) l ∧ c < ws.length ∧ crosses ws S c = true ∧
  ∀ r H', GrL H' n (relab S.h (way ws c).1 (way ws c).2.1) (reps (relab S.h (way ws c).1 (way ws c).2.1) n) r → H r = none → Ext T noM H H' → Q (.ref r) H'
section
variable {P : Program} {w : World} {K : PySem.W.Frag} {mg : Str → Option Value} {base : Heap} {T : List Addr} {aC : Addr}
end
end Mw

set_option Elab.async false
set_option linter.all false
set_option maxRecDepth 100000
set_option maxHeartbeats 4000000
namespace Mw
open PySem PySem.Spec PyProof.Rows L2 GE
theorem fr0 : frX 0 = 0 ∧ frY 0 = 1 := fr_int 0
theorem frV_zero {K : PySem.W.Frag} {H : Hp} {a : Addr} (h : H a = some (.tup [.int 0, .int 1])) : FrV K H 0 (.ref a) := ⟨a, rfl, by rw [fr0.1, fr0.2]; exact SqT.of h⟩
theorem GrL.t {H H' : Hp} {n : Nat} {h : Nat → Nat} {R : List Nat} {l : Addr} (g : GrL H n h R l) (t : ∀ b xs, H b = some (.tup xs) → H' b = some (.tup xs)) (hl : ∀ xs, H l = some (.lst xs) → H' l = some (.lst xs)) : GrL H' n h R l := by
  obtain ⟨vs, h1, h2, h3⟩ := g
  exact ⟨vs, hl _ h1, h2, fun i r q => by obtain ⟨u, q1, q2⟩ := h3 i r q; exact ⟨u, q1, t _ _ q2⟩⟩
/-- a list of groups, as a tuple -/
theorem GrL.ris {K : PySem.W.Frag} {H : Hp} {n : Nat} {h : Nat → Nat} {R : List Nat} {l a : Addr} {vs : List V} (hv : vs.length = R.length ∧ ∀ (i r : Nat), R[i]? = some r → ∃ t : Addr, vs[i]? = some (V.ref t) ∧ H t = some (.tup (natsV (cls h n r)))) (ha : H a = some (.tup vs)) (ok : ∀ r ∈ R, r < n ∧ h r = r) : RisV K H n h R (.ref a) := ⟨⟨a, vs, rfl, ha, hv.1, hv.2⟩, ok⟩
theorem widK_get {l : List (List Nat × Int)} {k : List Nat} : (valV (widK l) (keyOf k)).getD (.int 0) = .int (widOf l k * 268435456) := by
  induction l with
  | nil => rfl
  | cons a r ih =>
    obtain ⟨j, w⟩ := a
    show (valV ((keyOf j, V.int (w * 268435456)) :: widK r) (keyOf k)).getD (.int 0) = .int ((if j = k then w else widOf r k) * 268435456)
    by_cases q : j = k
    · subst q
      rw [valV_pos rfl, if_pos rfl]; rfl
    · rw [valV_neg (fun z => q (keyOf_inj z)), if_neg q]; exact ih
theorem widK_mem {l : List (List Nat × Int)} {k : List Nat} : (valV (widK l) (keyOf k)).isSome = decide (k ∈ l.map (·.1)) := by
  induction l with
  | nil => rfl
  | cons a r ih =>
    obtain ⟨j, w⟩ := a
    show (valV ((keyOf j, V.int (w * 268435456)) :: widK r) (keyOf k)).isSome = _
    by_cases q : j = k
    · subst q
      rw [valV_pos rfl]; simp
    · rw [valV_neg (fun z => q (keyOf_inj z)), ih]
      have q' : ¬ k = j := fun z => q z.symm
      simp [q']
theorem widK_same {l : List (List Nat × Int)} {k : List Nat} {z : V} (h : k ∉ l.map (·.1)) : ((widK l).map fun kv => if kv.1 = keyOf k then (kv.1, z) else kv) = widK l := by
  induction l with
  | nil => rfl
  | cons a r ih =>
    obtain ⟨j, w⟩ := a
    show ((keyOf j, V.int (w * 268435456)) :: widK r).map _ = (keyOf j, V.int (w * 268435456)) :: widK r
    rw [List.map_cons, if_neg (fun z => h (by rw [List.map_cons, keyOf_inj z]; exact List.mem_cons_self)), ih fun z => h (by rw [List.map_cons]; exact List.mem_cons_of_mem _ z)]
theorem widK_put {l : List (List Nat × Int)} {k : List Nat} {d : Int} (nd : (l.map (·.1)).Nodup) : putK (widK l) (keyOf k) (.int ((widOf l k + d) * 268435456)) = widK (addW l k d) := by
  unfold putK
  rw [valV_any, widK_mem]
  by_cases q : k ∈ l.map (·.1)
  · rw [decide_eq_true q, if_pos rfl]
    induction l with
    | nil => cases q
    | cons a r ih =>
      obtain ⟨j, w⟩ := a
      obtain ⟨n1, n2⟩ := List.nodup_cons.mp nd
      by_cases e : j = k
      · subst e
        have e1 : addW ((j, w) :: r) j d = (j, w + d) :: r := if_pos rfl
        have e2 : widOf ((j, w) :: r) j = w := if_pos rfl
        rw [e1, e2]
        show ((keyOf j, V.int (w * 268435456)) :: widK r).map _ = (keyOf j, V.int ((w + d) * 268435456)) :: widK r
        rw [List.map_cons, if_pos rfl, widK_same n1]
      · have e1 : addW ((j, w) :: r) k d = (j, w) :: addW r k d := if_neg e
        have e2 : widOf ((j, w) :: r) k = widOf r k := if_neg e
        rw [e1, e2]
        show ((keyOf j, V.int (w * 268435456)) :: widK r).map _ = (keyOf j, V.int (w * 268435456)) :: widK (addW r k d)
        rw [List.map_cons, if_neg (fun z => e (keyOf_inj z)), ih n2 (by
          rcases List.mem_cons.mp q with y | y
          · exact absurd y.symm e
          · exact y)]
  · rw [decide_eq_false q, if_neg Bool.false_ne_true, widOf_no q, Int.zero_add]
    induction l with
    | nil => rfl
    | cons a r ih =>
      obtain ⟨j, w⟩ := a
      have e : ¬ j = k := fun z => q (by rw [List.map_cons, z]; exact List.mem_cons_self)
      have e1 : addW ((j, w) :: r) k d = (j, w) :: addW r k d := if_neg e
      rw [e1]
      show (keyOf j, V.int (w * 268435456)) :: (widK r ++ [(keyOf k, V.int (d * 268435456))]) = (keyOf j, V.int (w * 268435456)) :: widK (addW r k d)
      rw [ih (List.nodup_cons.mp nd).2 fun z => q (by rw [List.map_cons]; exact List.mem_cons_of_mem _ z)]
theorem parted_any {n : Nat} {ps : List Pr} (ok : PsOk n ps) (h : Nat → Nat) {r : Nat} (rn : r < n) (rr : h r = r) : (ps.any fun q => decide (q.1 ∈ cls h n r) != decide (q.2 ∈ cls h n r)) = ps.any (parted h r) := by
  refine any_congr fun q hq => ?_
  obtain ⟨o1, o2⟩ := ok.ok q hq
  unfold parted
  rw [show decide (q.1 ∈ cls h n r) = decide (h q.1 = r) from by rw [decide_eq_decide, mem_cls, rr]; exact ⟨fun z => z.2, fun z => ⟨by omega, z⟩⟩,
    show decide (q.2 ∈ cls h n r) = decide (h q.2 = r) from by rw [decide_eq_decide, mem_cls, rr]; exact ⟨fun z => z.2, fun z => ⟨o2, z⟩⟩]
theorem waitV_some (x : Int) : waitV (some x) = .int (x * 268435456) := rfl
/-- what the law keeps of a growth, with its rows -/
structure LGr (K : PySem.W.Frag) (H : Hp) (n : Nat) (ws : Wl) (ps : List Pr) (net : V) (S : Gs) (L : List Rw) (l d lt lr : Addr) : Prop where
  s : LSt H n ws S net l d
  tk : ∃ vs, H lt = some (.lst vs) ∧ TkL K H S.taken vs
  rw : ∃ vs, H lr = some (.lst vs) ∧ SeenL K H n ps L vs
  n1 : l ≠ lt
  n2 : l ≠ lr
  n3 : lt ≠ lr
theorem LGr.x {K : PySem.W.Frag} {T : List Addr} {H H' : Hp} {n : Nat} {ws : Wl} {ps : List Pr} {net : V} {S : Gs} {L : List Rw} {l d lt lr : Addr} (G : LGr K H n ws ps net S L l d lt lr) (e : Ext T noM H H') : LGr K H' n ws ps net S L l d lt lr := by
  obtain ⟨v1, a1, a2⟩ := G.tk
  obtain ⟨v2, b1, b2⟩ := G.rw
  exact ⟨G.s.x e, ⟨v1, e.lst (fun z => z) a1, (Tp.of e).tk a2⟩, ⟨v2, e.lst (fun z => z) b1, b2.t (Tp.of e)⟩, G.n1, G.n2, G.n3⟩
def spLGrown (K : PySem.W.Frag) (T : List Addr) : Sp := fun vs H Q _ => ∃ (net pz : V) (n : Nat) (ws : Wl) (ps : List Pr), vs = [net, pz] ∧ Wf n ws ∧ Rp H (netD n ws) net ∧ Rp H (pairsD ps) pz ∧ PsOk n ps ∧ (∀ q ∈ ps, Cn (wedges ws) q.1 q.2) ∧
  ∀ r lt d lr tv rv H', H' r = some (.tup [.ref lt, .ref d, .ref lr]) → H' lt = some (.lst tv) → TkL K H' (allGro n ws ps).1.taken tv → H' d = some (.dT (widK (allGro n ws ps).1.wid)) → H' lr = some (.lst rv) → SeenL K H' n ps (allGro n ws ps).2 rv → Ext T noM H H' → Q (.ref r) H'
section
variable {P : Program} {w : World} {K : PySem.W.Frag} {mg : Str → Option Value} {base : Heap} {T : List Addr} {aC : Addr}
end
end Mw

set_option Elab.async false
set_option linter.all false
set_option maxRecDepth 100000
set_option maxHeartbeats 4000000
namespace Mw
open PySem PySem.Spec PyProof.Rows L2 GE
/-! ### the law's tasks -/
def spTask (T : List Addr) : Sp := fun vs H Q _ => ∃ (p s : Addr) (most ways : Int), vs = [.ref p, .int most, .int ways] ∧ PoolAt H p s ∧ 1 ≤ most ∧ most ≤ 12 ∧ 0 ≤ ways ∧ ways ≤ 24 ∧
  ∀ t net pz n ws ps H', Wf n ws → PsOk n ps → (∀ q ∈ ps, Cn (wedges ws) q.1 q.2) → Rp H' (netD n ws) net → Rp H' (pairsD ps) pz → H' t = some (.tup [net, pz]) → PoolAt H' p s → Ext T (atP p) H H' → Q (.ref t) H'
def spAny (T : List Addr) : Sp := fun vs H Q _ => ∃ (p s : Addr), vs = [.ref p] ∧ PoolAt H p s ∧
  ∀ t net pz n ws ps H', Wf n ws → PsOk n ps → (∀ q ∈ ps, Cn (wedges ws) q.1 q.2) → Rp H' (netD n ws) net → Rp H' (pairsD ps) pz → H' t = some (.tup [net, pz]) → PoolAt H' p s → Ext T (atP p) H H' → Q (.ref t) H'
section
variable {P : Program} {w : World} {K : PySem.W.Frag} {mg : Str → Option Value} {base : Heap} {T : List Addr} {aC : Addr}
end
end Mw

set_option Elab.async false
set_option linter.all false
set_option maxRecDepth 100000
set_option maxHeartbeats 4000000
namespace Mw
open PySem PySem.Spec PyProof.Rows L2 GE
/-! ### the same data, also such as stand in the written part -/
def Sm : Nat → D → Prop
  | 0, _ => False
  | _ + 1, .i _ => True
  | _ + 1, .non => True
  | _ + 1, .bl _ => False
  | n + 1, .t ds => ds.length ≤ 1000 ∧ ∀ d ∈ ds, Sm n d
theorem tyx_tup {K : PySem.W.Frag} {H : Hp} {a : Addr} {xs : List V} (h : SqT K H a xs) : TyX K H (.ref a) (.type "tuple") := by
  rcases h with (h | ⟨o, h⟩) | ⟨o, its, n, h1, h2, _⟩
  · exact .base (.tup h)
  · exact .fTuple h
  · exact .kTuple h1 h2
mutual
def RpK (K : PySem.W.Frag) (H : Hp) : D → V → Prop
  | .i n, v => v = .int n
  | .non, v => v = .non
  | .bl b, v => v = .bl b
  | .t ds, v => ∃ a vs, v = .ref a ∧ SqT K H a vs ∧ RpKL K H ds vs
def RpKL (K : PySem.W.Frag) (H : Hp) : List D → List V → Prop
  | [], vs => vs = []
  | d :: ds, vs => ∃ v r, vs = v :: r ∧ RpK K H d v ∧ RpKL K H ds r
end
section
variable {K : PySem.W.Frag} {H H' : Hp} {T : List Addr}
theorem RpK.i {n : Int} {v : V} (h : RpK K H (.i n) v) : v = .int n := by unfold RpK at h; exact h
theorem RpK.t {ds : List D} {v : V} (h : RpK K H (.t ds) v) : ∃ a vs, v = .ref a ∧ SqT K H a vs ∧ RpKL K H ds vs := by unfold RpK at h; exact h
theorem rpk_i (n : Int) : RpK K H (.i n) (.int n) := by unfold RpK; rfl
theorem rpk_t {ds : List D} {a : Addr} {vs : List V} (h : SqT K H a vs) (r : RpKL K H ds vs) : RpK K H (.t ds) (.ref a) := by unfold RpK; exact ⟨a, vs, rfl, h, r⟩
theorem rpkl_nil : RpKL K H [] [] := by unfold RpKL; rfl
theorem rpkl_cons {d : D} {ds : List D} {v : V} {vs : List V} (h : RpK K H d v) (r : RpKL K H ds vs) : RpKL K H (d :: ds) (v :: vs) := by unfold RpKL; exact ⟨v, vs, rfl, h, r⟩
theorem RpKL.cons {d : D} {ds : List D} {vs : List V} (h : RpKL K H (d :: ds) vs) : ∃ v r, vs = v :: r ∧ RpK K H d v ∧ RpKL K H ds r := by unfold RpKL at h; exact h
theorem RpKL.nil {vs : List V} (h : RpKL K H [] vs) : vs = [] := by unfold RpKL at h; exact h
theorem RpKL.len : ∀ {ds : List D} {vs : List V}, RpKL K H ds vs → vs.length = ds.length
  | [], vs, h => by rw [h.nil] <;> rfl
  | d :: ds, vs, h => by
    obtain ⟨v, r, rfl, _, h2⟩ := h.cons
    rw [List.length_cons, List.length_cons, RpKL.len h2]
theorem RpKL.get : ∀ {ds : List D} {vs : List V} {i : Nat} {d : D}, RpKL K H ds vs → ds[i]? = some d → ∃ v, vs[i]? = some v ∧ RpK K H d v
  | [], vs, i, d, _, e => by simp at e
  | d :: ds, vs, 0, d', h, e => by
    obtain ⟨v, r, rfl, h1, _⟩ := h.cons
    simp at e
    exact ⟨v, rfl, e ▸ h1⟩
  | d :: ds, vs, i + 1, d', h, e => by
    obtain ⟨v, r, rfl, _, h2⟩ := h.cons
    obtain ⟨u, e1, e2⟩ := RpKL.get (i := i) h2 (by simpa using e)
    exact ⟨u, by simpa using e1, e2⟩
mutual
theorem RpK.tp (hp : ∀ b xs, SqT K H b xs → SqT K H' b xs) : ∀ {d : D} {v : V}, RpK K H d v → RpK K H' d v
  | .i n, v, h => by rw [h.i]; exact rpk_i n
  | .non, v, h => by unfold RpK at h ⊢; exact h
  | .bl b, v, h => by unfold RpK at h ⊢; exact h
  | .t ds, v, h => by
    obtain ⟨a, vs, rfl, h1, h2⟩ := h.t
    exact rpk_t (hp _ _ h1) (RpKL.tp hp h2)
theorem RpKL.tp (hp : ∀ b xs, SqT K H b xs → SqT K H' b xs) : ∀ {ds : List D} {vs : List V}, RpKL K H ds vs → RpKL K H' ds vs
  | [], vs, h => by rw [h.nil]; exact rpkl_nil
  | d :: ds, vs, h => by
    obtain ⟨v, r, rfl, h1, h2⟩ := h.cons
    exact rpkl_cons (RpK.tp hp h1) (RpKL.tp hp h2)
end
theorem RpK.x (e : Ext T noM H H') {d : D} {v : V} (h : RpK K H d v) : RpK K H' d v := h.tp fun b xs q => SqT.x q e fun z => z
theorem RpKL.x (e : Ext T noM H H') {d : List D} {v : List V} (h : RpKL K H d v) : RpKL K H' d v := h.tp fun b xs q => SqT.x q e fun z => z
mutual
theorem rpk_of : ∀ {d : D} {v : V}, Rp H d v → RpK K H d v
  | .i n, v, h => by rw [h.i]; exact rpk_i n
  | .non, v, h => by unfold Rp at h; unfold RpK; exact h
  | .bl b, v, h => by unfold Rp at h; unfold RpK; exact h
  | .t ds, v, h => by
    obtain ⟨a, vs, rfl, h1, h2⟩ := h.t
    exact rpk_t (SqT.of h1) (rpkl_of h2)
theorem rpkl_of : ∀ {ds : List D} {vs : List V}, RpL H ds vs → RpKL K H ds vs
  | [], vs, h => by rw [h.nil]; exact rpkl_nil
  | d :: ds, vs, h => by
    obtain ⟨v, r, rfl, h1, h2⟩ := h.cons
    exact rpkl_cons (rpk_of h1) (rpkl_of h2)
end
def frD (u : Int) : D := .t [.i (frX u), .i (frY u)]
theorem FrV.k {u : Int} {v : V} (h : FrV K H u v) : RpK K H (frD u) v := by
  obtain ⟨a, rfl, ha⟩ := h
  exact rpk_t ha (rpkl_cons (rpk_i _) (rpkl_cons (rpk_i _) rpkl_nil))
theorem sm_fr (u : Int) (k : Nat) : Sm (k + 2) (frD u) := ⟨by show 2 ≤ 1000; decide, fun d hd => by
  rcases List.mem_cons.mp hd with z | z
  · rw [z]; exact True.intro
  · rw [List.mem_singleton.mp z]; exact True.intro⟩
end
def spSame (K : PySem.W.Frag) (n : Nat) (T : List Addr) : Sp := fun vs H Q _ => ∃ (a b : V) (d : D), vs = [a, b] ∧ RpK K H d a ∧ RpK K H d b ∧ Sm n d ∧ ∀ H', Ext T noM H H' → Q (.bl true) H'
section
variable {P : Program} {w : World} {K : PySem.W.Frag} {mg : Str → Option Value} {base : Heap} {T : List Addr} {n : Nat}
theorem ok__law_same {f : Addr} {fd : FuncData} (F : Fun K "_law_same" "_law_same" s_law_same f fd) (m_isinstance : mg "isinstance" = none) (m_tuple : mg "tuple" = none) (m_str : mg "str" = none) (m_int : mg "int" = none) (m_len : mg "len" = none) (m_bool : mg "bool" = none) (m_range : mg "range" = none) {f_law_same : Addr} {fd_law_same : FuncData} (F_law_same : Fun K "_law_same" "_law_same" s_law_same f_law_same fd_law_same) (G_law_same : FnOk P w K mg base CX0 n f_law_same fd_law_same ["actual", "due"] (spSame K n T)) (b_law_same : Binds K fd_law_same ["actual", "due"] []) (g_law_same : mg "_law_same" = some (.ref f_law_same)) : FnOk P w K mg base CX0 (n + 1) f fd ["actual", "due"] (spSame K (n + 1) T) := by
  refine F.ok sc_law_same (fun vs H Q E h => ?_) (fun cdv A outer s H vs Q E hr h => ?_)
  · obtain ⟨x, y, d, rfl, ha, hb, hs, k⟩ := h
    rfl
  · obtain ⟨x, y, d, rfl, ha, hb, hs, k⟩ := h
    refine ⟨_, (pss_cons (ps_if (pt_val (pe_callB call_isi (by rfl) m_isinstance (by decide +kernel) (pa_cons (pv 1) (pa_cons (pe_bltn (u := .type "tuple") (v := .ty "tuple") (by rfl) m_tuple (by decide +kernel) rfl) pa_nil)))) (pss_cons (ps_if (PW.pt (pw_or (pt_not (pt_val (pe_callB call_isi (by rfl) m_isinstance (by decide +kernel) (pa_cons (pv 0) (pa_cons (pe_bltn (u := .type "tuple") (v := .ty "tuple") (by rfl) m_tuple (by decide +kernel) rfl) pa_nil))))) (pw_or1 (pt_cmpR op_ne (pe_callB call_len_seq (by rfl) m_len PySem.boot_len (pa_cons (pv 0) pa_nil)) (pe_callB call_len_seq (by rfl) m_len PySem.boot_len (pa_cons (pv 1) pa_nil)) (nomark _))))) (pss_one (ps_ret pe_bl)) pss_nil)
      (pss_one (ps_ret (pe_cmpR op_eq (pe_callB call_len_seq (by rfl) m_len PySem.boot_len (pa_cons (pe_lc (own := [("k", 2)]) (g := (gName 2)) rfl sc_law_same.nd (pi_range1 (by rfl) m_range (pa_cons (pe_callB call_len_seq (by rfl) m_len PySem.boot_len (pa_cons (pv 1) pa_nil)) pa_nil)) (blkOk_by (own := [("k", 2)]) (N := ["actual", "due", "k"]) (sc := defScope s_law_same) (by decide +kernel)) (fun _ _ _ _ _ => (pg_name (i := 2) sc_law_same.nd rfl (Or.inl rfl))) (fun _ _ _ _ _ => (pts_one (pt_not (pt_val (pe_call G_law_same hr (by rfl) g_law_same F_law_same.kp b_law_same .nil pass0 (pa_cons (pe_ix (GE.ix_tupK (K := K)) (pv 0) (pv 2) (fun _ _ => rfl)) (pa_cons (pe_ix (GE.ix_tupK (K := K)) (pv 1) (pv 2) (fun _ _ => rfl)) pa_nil))))))) (fun _ _ _ _ _ => (pv 2))) pa_nil)) pe_int (nomark _))))) pss_nil)
      (pss_cons (ps_if (pt_cmpR op_isN (pv 1) pe_non (nomark _)) (pss_one (ps_ret (pe_cmpR op_isN (pv 0) pe_non (nomark _)))) pss_nil)
      (pss_cons (ps_if (pt_val (pe_callB call_isi (by rfl) m_isinstance (by decide +kernel) (pa_cons (pv 1) (pa_cons (pe_bltn (u := .type "str") (v := .ty "str") (by rfl) m_str (by decide +kernel) rfl) pa_nil)))) (pss_one (ps_ret (pe_and (pe_callB call_isi (by rfl) m_isinstance (by decide +kernel) (pa_cons (pv 0) (pa_cons (pe_bltn (u := .type "str") (v := .ty "str") (by rfl) m_str (by decide +kernel) rfl) pa_nil))) (pe_one (pe_cmpR op_eq (pv 0) (pv 1) (nomark _)))))) pss_nil)
      (pss_one (ps_ret (pe_and (pe_callB call_isi (by rfl) m_isinstance (by decide +kernel) (pa_cons (pv 0) (pa_cons (pe_bltn (u := .type "int") (v := .ty "int") (by rfl) m_int (by decide +kernel) rfl) pa_nil))) (pe_and (pe_not (pe_callB call_isi (by rfl) m_isinstance (by decide +kernel) (pa_cons (pv 0) (pa_cons (pe_bltn (u := .type "bool") (v := .ty "bool") (by rfl) m_bool (by decide +kernel) rfl) pa_nil)))) (pe_one (pe_cmpR op_eq (pv 0) (pv 1) (nomark _)))))))))), ?_⟩
    cases d with
    | bl b => exact hs.elim
    | i z =>
      rw [ha.i, hb.i]
      refine ⟨_, rfl, _, _, _, _, false, rfl, .ty _, .base (.int _), kit_ty (by decide +kernel), ⟨_, rfl, iteF ?_⟩⟩
      refine ⟨_, rfl, rfl, _, rfl, iteF ?_⟩
      refine ⟨_, rfl, _, _, _, _, false, rfl, .ty _, .base (.int _), kit_ty (by decide +kernel), ⟨_, rfl, iteF ?_⟩⟩
      refine ⟨_, rfl, _, _, _, _, true, rfl, .ty _, .base (.int _), kit_ty (by decide +kernel), ⟨_, rfl, iteT ?_⟩⟩
      refine ⟨_, rfl, _, _, _, _, false, rfl, .ty _, .base (.int _), kit_ty (by decide +kernel), ⟨_, rfl, ⟨_, rfl, iteT ?_⟩⟩⟩
      refine ⟨_, rfl, _, rfl, rfl, ?_⟩
      rw [decide_eq_true rfl]
      exact k H (Ext.refl _ _ _)
    | non =>
      unfold RpK at ha hb
      subst ha hb
      refine ⟨_, rfl, _, _, _, _, false, rfl, .ty _, .base (.non), kit_ty (by decide +kernel), ⟨_, rfl, iteF ?_⟩⟩
      refine ⟨_, rfl, rfl, _, rfl, iteT ?_⟩
      exact ⟨_, rfl, rfl, k H (Ext.refl _ _ _)⟩
    | t ds =>
      obtain ⟨a1, v1, rfl, h1, r1⟩ := ha.t
      obtain ⟨a2, v2, rfl, h2, r2⟩ := hb.t
      obtain ⟨hlen, hsm⟩ := hs
      have hl1 := r1.len
      have hl2 := r2.len
      have e12 : v1.length = v2.length := by omega
      refine ⟨_, rfl, _, _, _, _, true, rfl, .ty _, tyx_tup h2, kit_ty (by decide +kernel), ⟨_, rfl, iteT ?_⟩⟩
      refine ⟨_, rfl, _, _, _, _, true, rfl, .ty _, tyx_tup h1, kit_ty (by decide +kernel), ⟨_, rfl, iteF ?_⟩⟩
      refine ⟨_, rfl, a1, v1, rfl, .inr (h1), _, rfl, a2, v2, rfl, .inr (h2), rfl, _, rfl, ?_⟩
      refine ite2 (fun q => ?_) (fun q => ?_)
      · exfalso; rw [e12] at q; simp at q
      refine ⟨_, rfl, a2, v2, rfl, .inr (h2), v2.length, rfl, by omega, by omega, fun Dl hD => ?_⟩
      have e1 : Ext T noM H (upd H Dl (.lst [])) := Ext.new hD
      refine lc_range (lo := 0) (n := ((v2.length : Int) - 0).toNat) (fun j H' => Ext T noM H H' ∧ H' Dl = some (.lst [])) ⟨e1, upd_same⟩ ?_ ?_
      · rintro j H3 hj ⟨e, hD3⟩
        have hj' : j < ds.length := by omega
        obtain ⟨x1, g1, p1⟩ := r1.get (List.getElem?_eq_getElem hj')
        obtain ⟨x2, g2, p2⟩ := r2.get (List.getElem?_eq_getElem hj')
        have hz : (0 : Int) + (j : Int) = (j : Int) := Int.zero_add _
        rw [hz]
        refine ⟨rfl, ?_⟩
        refine ⟨_, rfl, _, rfl, a1, _, _, _, rfl, rfl, SqT.x h1 e fun z => z, at_of (j := j) rfl g1, _, rfl, _, rfl, a2, _, _, _, rfl, rfl, SqT.x h2 e fun z => z, at_of (j := j) rfl g2, x1, x2, ds[j], rfl, RpK.x e p1, RpK.x e p2, hsm _ (List.getElem_mem hj'), fun H4 e4 => ⟨_, rfl, iteF ⟨e.trans e4, e4.lst (fun z => z) hD3⟩⟩⟩
      · rintro H3 ⟨e, hD3⟩
        refine ⟨Dl, [], rfl, .inl (SqL.of hD3), rfl, ?_⟩
        exact k H3 e
end
section
variable {P : Program} {w : World} {K : PySem.W.Frag} {mg : Str → Option Value} {base : Heap} {T : List Addr}
theorem same_all {f : Addr} {fd : FuncData} (F : Fun K "_law_same" "_law_same" s_law_same f fd) (m_isinstance : mg "isinstance" = none) (m_tuple : mg "tuple" = none) (m_str : mg "str" = none) (m_int : mg "int" = none) (m_len : mg "len" = none) (m_bool : mg "bool" = none)
    (m_range : mg "range" = none) (b : Binds K fd ["actual", "due"] []) (g : mg "_law_same" = some (.ref f)) : ∀ n, FnOk P w K mg base CX0 n f fd ["actual", "due"] (spSame K n T)
  | 0 => ⟨fun vs H Q E h => by obtain ⟨x, y, d, rfl, _⟩ := h; rfl, fun A outer s H args us vs Q E hr he hb hv hs => by obtain ⟨x, y, d, rfl, _, _, hs, _⟩ := hs; exact hs.elim⟩
  | n + 1 => ok__law_same F m_isinstance m_tuple m_str m_int m_len m_bool m_range F (same_all F m_isinstance m_tuple m_str m_int m_len m_bool m_range b g n) b g
end
end Mw

set_option Elab.async false
set_option linter.all false
set_option maxRecDepth 100000
set_option maxHeartbeats 4000000
namespace Mw
open PySem PySem.Spec PyProof.Rows L2 GE
def spLaw (K : PySem.W.Frag) (T : List Addr) : Sp := fun vs H Q _ => ∃ (a : Addr) (ns : List Int), vs = [.ref a] ∧ SqL K H a (ns.map V.int) ∧ ns.length ≤ 63 ∧ Wd T H ∧ ∀ H', Q (.bl true) H'
theorem gro_GF {n : Nat} {ws : Wl} {ps : List Pr} (W : WsOk n ws) (J : ∀ q ∈ ps, Cn (wedges ws) q.1 q.2) : ∀ (k t : Nat) (S : Gs) (L : List Rw), GF n ws t S → L.length ≤ t + 1 → ∃ t', GF n ws t' (gro n ws ps k S L).1 ∧ (gro n ws ps k S L).2.length ≤ t' + 1
  | 0, t, S, L, G, hL => ⟨t, G, hL⟩
  | k + 1, t, S, L, G, hL => by
    by_cases h : opens n ps S.h = []
    · rw [gro_stop h]; exact ⟨t, G, hL⟩
    · have e : gro n ws ps (k + 1) S L = gro n ws ps k (turn n ws ps S) (L ++ [((turn n ws ps S).time, (turn n ws ps S).h)]) := if_neg h
      rw [e]
      exact gro_GF W J k (t + 1) _ _ (G.turn W J h).2 (by rw [List.length_append, List.length_singleton]; omega)
theorem allGro_GF {n : Nat} {ws : Wl} {ps : List Pr} (W : WsOk n ws) (J : ∀ q ∈ ps, Cn (wedges ws) q.1 q.2) : ∃ t, GF n ws t (allGro n ws ps).1 ∧ (allGro n ws ps).2.length ≤ t + 1 := gro_GF W J n 0 start _ (GF.start W) (Nat.le_refl _)
section
variable {P : Program} {w : World} {K : PySem.W.Frag} {mg : Str → Option Value} {base : Heap} {T : List Addr} {aC : Addr}
end
end Mw

set_option Elab.async false
set_option linter.all false
set_option maxRecDepth 100000
set_option maxHeartbeats 4000000
namespace Mw
open PySem PySem.Spec PyProof.Rows L2 GE NumText
def spHotI : Sp := fun vs H Q _ => ∃ (x y : Int), vs = [.int x, .int y] ∧ Q (.bl (decide (V.int x = V.int y))) H
/-- what is known of the classes of errors -/
structure ErrB (K : PySem.W.Frag) (mg : Str → Option Value) (A B R M f : Addr) : Prop where
  xc : GE.Xc K B f "line"
  em : PySem.W.exmOne K (.ref B) (.ref M) = some true
  nA : PySem.W.kitOne K (.ref B) (.ref A) = some false
  nR : PySem.W.kitOne K (.ref B) (.ref R) = some false
def bB : Nat → Nat
  | 0 => 30
  | i + 1 => 4 * bB i + 5001
def bS : Nat → Nat
  | 0 => 930
  | i + 1 => bS i + (4 * bB i + 5301)
theorem bBS : ∀ i, i ≤ 1 → bB i ≤ 6000 ∧ bS i ≤ 10000
  | 0, _ => ⟨by decide, by decide⟩
  | 1, _ => ⟨by decide, by decide⟩
  | i + 2, h => by omega
theorem Lim.mono {N B S N' B' S' : Nat} {L : List Str} (h : Lim N B S L) (h1 : N ≤ N') (h2 : B ≤ B') (h3 : S ≤ S') : Lim N' B' S' L := ⟨Nat.le_trans h.n h1, fun l hl => Nat.le_trans (h.b l hl) h2, Nat.le_trans h.t h3⟩
theorem str_not_pool {H : Hp} {p s la : Addr} {L : List Str} (h : H la = some (.lst (L.map V.str))) (hP : PoolAt H p s) : la ≠ p := fun z => by
  obtain ⟨ns, i1, i2, i3, i4, hp, _⟩ := hP
  rw [z, hp] at h
  have h := HO.lst.inj (Option.some.inj h)
  cases L with
  | nil => cases h
  | cons a l => cases h
theorem join0_ln (ls : List Str) : (Txt.join Str.empty ls).length ≤ tot ls := by
  have e : chs_ (Txt.join Str.empty ls) = TL.joinL [] (ls.map chs_) := by
    rw [TL.join_eq]
    exact TL.tl_join Str.empty ls
  rw [ln_ch, e]
  refine Nat.le_trans (joinL_len _ _) ?_
  rw [List.map_map, List.length_map]
  have : (ls.map (List.length ∘ chs_)).sum = tot ls := by
    unfold tot
    congr 1
  rw [this]
  exact Nat.le_of_eq (by rw [show ([] : List Nat).length = 0 from rfl, Nat.mul_zero, Nat.add_zero])
theorem tot_end : ∀ l : List Str, tot (l.map endL) = tot l + l.length
  | [] => rfl
  | a :: l => by
    have ih := tot_end l
    show (endL a).length + tot (l.map endL) = a.length + tot l + (l.length + 1)
    rw [ih, ln_end]; omega
section
variable {P : Program} {w : World} {K : PySem.W.Frag} {mg : Str → Option Value} {base : Heap} {T : List Addr} {aC aBadText : Addr}
theorem okH__law_same {f : Addr} {fd : FuncData} (F : Fun K "_law_same" "_law_same" s_law_same f fd) (m_isinstance : mg "isinstance" = none) (m_tuple : mg "tuple" = none) (m_str : mg "str" = none) (m_int : mg "int" = none) (m_len : mg "len" = none) (m_bool : mg "bool" = none) (m_range : mg "range" = none) : L2H.FnH P w K mg base CX0 1 f fd ["actual", "due"] (spHotI) := by
  refine GE.funH F sc_law_same (fun vs H Q E h => ?_) (fun cdv A outer s H vs Q E p hot hr h => ?_)
  · obtain ⟨x, y, rfl, k⟩ := h
    rfl
  · obtain ⟨x, y, rfl, k⟩ := h
    refine ⟨_, (pss_cons (ps_if (pt_val (pe_callB call_isi (by rfl) m_isinstance (by decide +kernel) (pa_cons (pv 1) (pa_cons (pe_bltn (u := .type "tuple") (v := .ty "tuple") (by rfl) m_tuple (by decide +kernel) rfl) pa_nil)))) GE.pss_no pss_nil)
      (pss_cons (ps_if (pt_cmpR op_isN (pv 1) pe_non (nomark _)) (pss_one (ps_ret (pe_cmpR op_isN (pv 0) pe_non (nomark _)))) pss_nil)
      (pss_cons (ps_if (pt_val (pe_callB call_isi (by rfl) m_isinstance (by decide +kernel) (pa_cons (pv 1) (pa_cons (pe_bltn (u := .type "str") (v := .ty "str") (by rfl) m_str (by decide +kernel) rfl) pa_nil)))) (pss_one (ps_ret (pe_and (pe_callB call_isi (by rfl) m_isinstance (by decide +kernel) (pa_cons (pv 0) (pa_cons (pe_bltn (u := .type "str") (v := .ty "str") (by rfl) m_str (by decide +kernel) rfl) pa_nil))) (pe_one (pe_cmpR op_eq (pv 0) (pv 1) (nomark _)))))) pss_nil)
      (pss_one (ps_ret (pe_and (pe_callB call_isi (by rfl) m_isinstance (by decide +kernel) (pa_cons (pv 0) (pa_cons (pe_bltn (u := .type "int") (v := .ty "int") (by rfl) m_int (by decide +kernel) rfl) pa_nil))) (pe_and (pe_not (pe_callB call_isi (by rfl) m_isinstance (by decide +kernel) (pa_cons (pv 0) (pa_cons (pe_bltn (u := .type "bool") (v := .ty "bool") (by rfl) m_bool (by decide +kernel) rfl) pa_nil)))) (pe_one (pe_cmpR op_eq (pv 0) (pv 1) (nomark _)))))))))), ?_⟩
    refine ⟨_, rfl, _, _, _, _, false, rfl, .ty _, .base (.int _), kit_ty (by decide +kernel), ⟨_, rfl, iteF ?_⟩⟩
    refine ⟨_, rfl, rfl, _, rfl, iteF ?_⟩
    refine ⟨_, rfl, _, _, _, _, false, rfl, .ty _, .base (.int _), kit_ty (by decide +kernel), ⟨_, rfl, iteF ?_⟩⟩
    refine ⟨_, rfl, _, _, _, _, true, rfl, .ty _, .base (.int _), kit_ty (by decide +kernel), ⟨_, rfl, iteT ?_⟩⟩
    refine ⟨_, rfl, _, _, _, _, false, rfl, .ty _, .base (.int _), kit_ty (by decide +kernel), ⟨_, rfl, ⟨_, rfl, iteT ?_⟩⟩⟩
    exact ⟨_, rfl, _, rfl, rfl, k⟩
theorem ok_law {f : Addr} {fd : FuncData} (F : Fun K "law" "law" slaw f fd) (m_range : mg "range" = none) (m_len : mg "len" = none) (m_isinstance : mg "isinstance" = none) {f_law_pool : Addr} {fd_law_pool : FuncData} (F_law_pool : Fun K "_law_pool" "_law_pool" s_law_pool f_law_pool fd_law_pool) (G_law_pool : FnOk P w K mg base CX0 8 f_law_pool fd_law_pool ["script"] (spPool K T)) (b_law_pool : Binds K fd_law_pool ["script"] []) (g_law_pool : mg "_law_pool" = some (.ref f_law_pool)) {f_law_net : Addr} {fd_law_net : FuncData} (F_law_net : Fun K "_law_net" "_law_net" s_law_net f_law_net fd_law_net) (G_law_net : FnOk P w K mg base CX0 8 f_law_net fd_law_net ["pool", "most", "ways"] (spNet T)) (b_law_net : Binds K fd_law_net ["pool", "most", "ways"] []) (g_law_net : mg "_law_net" = some (.ref f_law_net)) {f_law_pairs : Addr} {fd_law_pairs : FuncData} (F_law_pairs : Fun K "_law_pairs" "_law_pairs" s_law_pairs f_law_pairs fd_law_pairs) (G_law_pairs : FnOk P w K mg base CX0 8 f_law_pairs fd_law_pairs ["pool", "places", "most"] (spLPairs T)) (b_law_pairs : Binds K fd_law_pairs ["pool", "places", "most"] []) (g_law_pairs : mg "_law_pairs" = some (.ref f_law_pairs)) {f_law_lines : Addr} {fd_law_lines : FuncData} (F_law_lines : Fun K "_law_lines" "_law_lines" s_law_lines f_law_lines fd_law_lines) (G_law_lines : FnOk P w K mg base CX0 8 f_law_lines fd_law_lines ["net", "pairs"] (spLLines T)) (b_law_lines : Binds K fd_law_lines ["net", "pairs"] []) (g_law_lines : mg "_law_lines" = some (.ref f_law_lines)) {f_law_draw : Addr} {fd_law_draw : FuncData} (F_law_draw : Fun K "_law_draw" "_law_draw" s_law_draw f_law_draw fd_law_draw) (G_law_draw : FnOk P w K mg base CX0 8 f_law_draw fd_law_draw ["pool", "many"] (spDraw T)) (b_law_draw : Binds K fd_law_draw ["pool", "many"] []) (g_law_draw : mg "_law_draw" = some (.ref f_law_draw)) {f_law_spoilt : Addr} {fd_law_spoilt : FuncData} (F_law_spoilt : Fun K "_law_spoilt" "_law_spoilt" s_law_spoilt f_law_spoilt fd_law_spoilt) (G_law_spoilt : FnOk P w K mg base CX0 8 f_law_spoilt fd_law_spoilt ["pool", "lines"] (spSpoilt T)) (b_law_spoilt : Binds K fd_law_spoilt ["pool", "lines"] []) (g_law_spoilt : mg "_law_spoilt" = some (.ref f_law_spoilt)) {f_law_pick : Addr} {fd_law_pick : FuncData} (F_law_pick : Fun K "_law_pick" "_law_pick" s_law_pick f_law_pick fd_law_pick) (G_law_pick : FnOk P w K mg base CX0 8 f_law_pick fd_law_pick ["pool", "rows"] (spPick T)) (b_law_pick : Binds K fd_law_pick ["pool", "rows"] []) (g_law_pick : mg "_law_pick" = some (.ref f_law_pick)) {f_law_wrong : Addr} {fd_law_wrong : FuncData} (F_law_wrong : Fun K "_law_wrong" "_law_wrong" s_law_wrong f_law_wrong fd_law_wrong) (G_law_wrong : FnOk P w K mg base CX0 8 f_law_wrong fd_law_wrong ["text"] (spWrong T)) (b_law_wrong : Binds K fd_law_wrong ["text"] []) (g_law_wrong : mg "_law_wrong" = some (.ref f_law_wrong)) {fread_task : Addr} {fdread_task : FuncData} (Fread_task : Fun K "read_task" "read_task" sread_task fread_task fdread_task) (Gread_task : FnOk P w K mg base (GE.CXn P w) 8 fread_task fdread_task ["text"] (spReadX K T aBadText)) (bread_task : Binds K fdread_task ["text"] []) (gread_task : mg "read_task" = some (.ref fread_task)) {fwrite_task : Addr} {fdwrite_task : FuncData} (Fwrite_task : Fun K "write_task" "write_task" swrite_task fwrite_task fdwrite_task) (Gwrite_task : FnOk P w K mg base CX0 8 fwrite_task fdwrite_task ["net", "pairs"] (spWrite T)) (bwrite_task : Binds K fdwrite_task ["net", "pairs"] []) (gwrite_task : mg "write_task" = some (.ref fwrite_task)) {f_law_same : Addr} {fd_law_same : FuncData} (F_law_same : Fun K "_law_same" "_law_same" s_law_same f_law_same fd_law_same) (GH_law_same : L2H.FnH P w K mg base CX0 8 f_law_same fd_law_same ["actual", "due"] (spHotI)) (b_law_same : Binds K fd_law_same ["actual", "due"] []) (g_law_same : mg "_law_same" = some (.ref f_law_same)) {aApart aRefused aMoatError fB : Addr} (EB : ErrB K mg aApart aBadText aRefused aMoatError fB) (gApart : mg "Apart" = some (.ref aApart)) (gBadText : mg "BadText" = some (.ref aBadText)) (gRefused : mg "Refused" = some (.ref aRefused)) (gMoatError : mg "MoatError" = some (.ref aMoatError)) : FnOk P w K mg base CX0 9 f fd ["script"] (spLaw K T) := by
  refine F.ok sclaw (fun vs H Q E h => ?_) (fun cdv A outer s H vs Q E hr h => ?_)
  · obtain ⟨a, ns, rfl, hS, hlen, wd, k⟩ := h
    rfl
  · obtain ⟨a, ns, rfl, hS, hlen, wd, k⟩ := h
    refine ⟨_, (pss_cons (ps_set (i := 1) sclaw.nd rfl (Or.inl rfl) (pe_call G_law_pool hr (by rfl) g_law_pool F_law_pool.kp b_law_pool .nil pass0 (pa_cons (pv 0) pa_nil)))
      (pss_cons (ps_set (i := 2) sclaw.nd rfl (Or.inl rfl) (pe_call G_law_net hr (by rfl) g_law_net F_law_net.kp b_law_net .nil pass0 (pa_cons (pv 1) (pa_cons pe_int (pa_cons pe_int pa_nil)))))
      (pss_cons (ps_set (i := 3) sclaw.nd rfl (Or.inl rfl) (pe_call G_law_lines hr (by rfl) g_law_lines F_law_lines.kp b_law_lines .nil pass0 (pa_cons (pv 2) (pa_cons (pe_call G_law_pairs hr (by rfl) g_law_pairs F_law_pairs.kp b_law_pairs .nil pass0 (pa_cons (pv 1) (pa_cons (pe_ix ix_tup (pv 2) pe_int (fun _ _ => rfl)) (pa_cons pe_int pa_nil)))) pa_nil))))
      (pss_cons (ps_for PassesOwn.never rfl (pi_range1 (by rfl) m_range (pa_cons (pe_call G_law_draw hr (by rfl) g_law_draw F_law_draw.kp b_law_draw .nil pass0 (pa_cons (pv 1) (pa_cons pe_int pa_nil))) pa_nil)) (pg_name (i := 4) sclaw.nd rfl (Or.inl rfl)) (pss_one (ps_if (pt_cmpR op_gt (pe_callB call_len_seq (by rfl) m_len PySem.boot_len (pa_cons (pv 3) pa_nil)) pe_int (nomark _)) (pss_one (ps_set (i := 3) sclaw.nd rfl (Or.inl rfl) (pe_call G_law_spoilt hr (by rfl) g_law_spoilt F_law_spoilt.kp b_law_spoilt .nil pass0 (pa_cons (pv 1) (pa_cons (pv 3) pa_nil))))) pss_nil)))
      (pss_cons (ps_set (i := 5) sclaw.nd rfl (Or.inl rfl) (pe_join pe_str (pe_lc (own := [("line", 6)]) (g := (gName 6)) (tt := tYes) rfl sclaw.nd (pi_list (pv 3)) (blkOk_by (own := [("line", 6)]) (N := ["script", "pool", "net", "lines", "k", "text", "line", "pick", "due", "found", "e"]) (sc := defScope slaw) (by decide +kernel)) (fun _ _ _ _ _ => (pg_name (i := 6) sclaw.nd rfl (Or.inl rfl))) (fun _ _ _ _ _ => pts_nil) (fun _ _ _ _ _ => (pe_op op_add_str (pv 6) pe_str)))))
      (pss_cons (ps_set (i := 7) sclaw.nd rfl (Or.inl rfl) (pe_call G_law_draw hr (by rfl) g_law_draw F_law_draw.kp b_law_draw .nil pass0 (pa_cons (pv 1) (pa_cons pe_int pa_nil))))
      (Evl.pss_cut (ps_if (pt_cmpR op_eq (pv 7) pe_int (nomark _)) (pss_one (ps_set (i := 5) sclaw.nd rfl (Or.inl rfl) (pe_slice sl_str (pv 5) po_none (po_some (pe_call G_law_draw hr (by rfl) g_law_draw F_law_draw.kp b_law_draw .nil pass0 (pa_cons (pv 1) (pa_cons (pe_op op_add (pe_callB call_len_str (by rfl) m_len (by decide +kernel) (pa_cons (pv 5) pa_nil)) pe_int) pa_nil))))))) pss_nil)
      (Evl.pss_cut (ps_if (pt_cmpR op_eq (pv 7) pe_int (nomark _)) (pss_one (ps_set (i := 5) sclaw.nd rfl (Or.inl rfl) (pe_op op_add_str (pv 5) (pe_call G_law_pick hr (by rfl) g_law_pick F_law_pick.kp b_law_pick .nil pass0 (pa_cons (pv 1) (pa_cons (pe_lst (pa_cons pe_str (pa_cons pe_str (pa_cons pe_str (pa_cons pe_str pa_nil))))) pa_nil)))))) pss_nil)
      (pss_cons (ps_set (i := 8) sclaw.nd rfl (Or.inl rfl) (pe_call G_law_wrong hr (by rfl) g_law_wrong F_law_wrong.kp b_law_wrong .nil pass0 (pa_cons (pv 5) pa_nil)))
      (pss_cons (L2N.ps_try_as (i := 10) rfl rfl sclaw.nd rfl rfl ⟨by rfl, by decide, Or.inl gMoatError⟩ GE.takesN0 (fun W pn xe tk po => (pss_one (ps_set (i := 9) sclaw.nd rfl (Or.inl rfl) (pe_callS Gread_task hr (by rfl) gread_task Fread_task.kp bread_task (fun σ => L2N.passAt tk σ) (pa_cons (pv 5) pa_nil))))) (fun a oe cls d pn hz hf => (pss_cons (ps_if (PW.pt (pw_or (pt_not (pt_val (pe_callB (GE.call_isC hz.zc hf) (by rfl) m_isinstance (by decide +kernel) (pa_cons (pv 10) (pa_cons (pe_glob (v := .ref aBadText) (by rfl) gBadText rfl) pa_nil))))) (pw_or1 (pt_val (pe_callB (GE.call_isCT hz.zc hf) (by rfl) m_isinstance (by decide +kernel) (pa_cons (pv 10) (pa_cons (pe_tup (pa_cons (pe_glob (v := .ref aApart) (by rfl) gApart rfl) (pa_cons (pe_glob (v := .ref aRefused) (by rfl) gRefused rfl) pa_nil))) pa_nil))))))) (pss_one (ps_ret pe_bl)) pss_nil)
      (pss_one (ps_ret (pe_and (pe_cmpR op_notN (pv 8) pe_non (nomark _)) (pe_one (L2H.pe_callH (E := fun _ _ _ _ => False) GH_law_same (L2H.roomH_mark hr _) (GE.hot_suite hz hf) (by rfl) g_law_same F_law_same.kp b_law_same (fun _ _ _ _ _ _ _ z => z.elim) (pa_cons (pe_xf EB.xc.xf EB.xc.no hz.zc hf (pv 10)) (pa_cons (pv 8) pa_nil))))))))))
      (pss_one (ps_ret (pe_and (pe_cmpR op_isN (pv 8) pe_non (nomark _)) (pe_one (pe_cmpR op_eq (pe_call Gwrite_task hr (by rfl) gwrite_task Fwrite_task.kp bwrite_task .nil pass0 (pa_cons (pe_ix ix_tup (pv 9) pe_int (fun _ _ => rfl)) (pa_cons (pe_ix ix_tup (pv 9) pe_int (fun _ _ => rfl)) pa_nil))) (pv 5) (nomark _)))))))))))))))), ?_⟩
    refine ⟨_, rfl, a, ns, rfl, hS, hlen, fun p s H1 hp hs hP1 e1 => ?_⟩
    refine ⟨_, rfl, p, s, _, _, rfl, hP1, by decide, by decide, by decide, by decide, fun net n ws H2 W hn hP2 e2 => ?_⟩
    obtain ⟨na, nb, us, rfl, ha, hb, hus⟩ := net_at hn
    refine ⟨_, rfl, _, rfl, _, rfl, na, _, _, _, rfl, rfl, SqT.of ha, at_of (j := 0) rfl rfl, p, s, n, _, rfl, hP2, W.n1, W.n12, by decide, by decide, fun pz ps H3 ok nd hq hP3 e3 => ?_⟩
    have hn3 := Rp.p hn hP2 e3
    refine ⟨_, pz, n, ws, ps, rfl, W, ok, hn3, hq, fun lv H4 hlv e4 => ?_⟩
    have hP4 := hP3.keep e4
    have hlvp := str_not_pool hlv hP4
    have LM : Lim 31 30 930 (lnsS n ws ps) := ⟨lns_len W ok, lns_ln W ok, by
      have h1 := tot_le (lns_ln W ok)
      have h2 := lns_len W ok
      have h3 : (lnsS n ws ps).length * 30 ≤ 31 * 30 := Nat.mul_le_mul_right _ h2
      omega⟩
    refine ⟨_, rfl, p, s, 3, rfl, hP4, by decide, by decide, fun r H5 r0 r1 hP5 e5 => ?_⟩
    refine ⟨r, rfl, by omega, by omega, ?_⟩
    have hlv5 := e5.lst hlvp hlv
    refine for_range (lo := 0) (n := r.toNat) (fun i σ' H' => ∃ y lb L, σ' = [some (.ref a), some (.ref p), some (.ref na), some (.ref lb), y, none, none, none, none, none, none] ∧ H' lb = some (.lst (L.map V.str)) ∧ lb ≠ p ∧ Lim (31 + 26 * i) (bB i) (bS i) L ∧ PoolAt H' p s) ⟨none, lv, _, rfl, hlv5, hlvp, LM, hP5⟩ ?_ ?_
    · rintro i σ' H6 hi ⟨y, lb, L, rfl, hlb, hlbp, LM6, hP6⟩
      obtain ⟨b1, b2⟩ := bBS i (by omega)
      have LM7 : Lim (31 + 26 * (i + 1)) (bB (i + 1)) (bS (i + 1)) L := LM6.mono (by omega) (by show bB i ≤ 4 * bB i + 5001; omega) (by show bS i ≤ bS i + (4 * bB i + 5301); omega)
      have hll : (L.map V.str).length = L.length := List.length_map ..
      refine ev_if (fun Q h => ⟨_, rfl, lb, _, rfl, .inl (SqL.of hlb), _, _, rfl, rfl, _, rfl, h⟩) (fun c => ?_) (fun c => ?_)
      · have c := of_decide_eq_true c
        refine ⟨_, rfl, _, rfl, p, s, lb, L, bB i, bS i, rfl, hP6, hlb, hlbp, by omega, LM6.mono (by omega) (Nat.le_refl _) (Nat.le_refl _), b1, b2, fun lc L' H7 hlc hlcp LL hP7 e7 => ?_⟩
        exact ⟨_, lc, L', rfl, hlc, hlcp, LL.mono (by have := LM6.n; omega) (Nat.le_refl _) (Nat.le_refl _), hP7⟩
      · exact ⟨_, lb, L, rfl, hlb, hlbp, LM7, hP6⟩
    rintro σ' H6 ⟨y, lb, L, rfl, hlb, hlbp, LM6, hP6⟩
    have LM : Lim 83 25485 32136 L := by
      have hr : r.toNat ≤ 2 := by omega
      have m : ∀ i, i ≤ 2 → bB i ≤ 25485 ∧ bS i ≤ 32136 := fun i hi => by
        match i, hi with
        | 0, _ => exact ⟨by decide, by decide⟩
        | 1, _ => exact ⟨by decide, by decide⟩
        | 2, _ => exact ⟨by decide, by decide⟩
      exact LM6.mono (by omega) (m _ hr).1 (m _ hr).2
    have n83 := LM.n
    refine ⟨⟨_, rfl⟩, ?_⟩
    refine ⟨_, rfl, lb, rfl, ⟨_, SqL.of hlb⟩, fun D hD => ?_⟩
    have x7 : Ext T noM H6 (upd H6 D (.lst [])) := Ext.new hD
    refine lc_list (K := K) (a := lb) (xs := L.map V.str) (fun j H' => Ext T noM H6 H' ∧ H' D = some (.lst ((((L.take j).map endL)).map V.str))) ⟨x7, upd_same⟩ (fun j H' _ p => SqL.of (p.1.lst (fun z => z) hlb)) ?_ ?_
    · rintro j x H7 hx ⟨e, hD7⟩
      obtain ⟨l, hl, rfl⟩ := str_at hx
      have hlB := LM.b l (List.mem_of_getElem? hl)
      refine ⟨rfl, tYesI ?_⟩
      have h1 : ("\n" : Str).length = 1 := rfl
      refine ⟨_, rfl, l, _, rfl, rfl, Nat.le_trans (show _ ≤ 100000 by omega) (by decide), _, hD7, ?_, e.mut (.inl hD) hD7 ltbl, ?_⟩
      · rw [List.length_map, List.length_map, List.length_take]; exact small1000 (by omega)
      · rw [upd_same, take_succ' hl, List.map_append, List.map_append]; rfl
    rintro H7 ⟨e7, hD7⟩
    rw [List.length_map, List.take_length] at hD7
    have hte := tot_end L
    have ht := LM.t
    have hsum : ((L.map endL).map (·.length)).sum = tot (L.map endL) := rfl
    have hjl := join0_ln (L.map endL)
    refine ⟨Str.empty, D, _, rfl, rfl, .inl (SqL.of hD7), ?_, ?_⟩
    · have h0 : Str.empty.length = 0 := rfl
      rw [hsum, h0]; omega
    generalize Txt.join Str.empty (L.map endL) = text at hjl ⊢
    have htl : text.length ≤ 40000 := by omega
    have hP7 := hP6.keep e7
    clear hte ht hsum hjl hD7 hlb
    dsimp only [gName]
    refine ⟨_, rfl, p, s, 6, rfl, hP7, by decide, by decide, fun r H8 r0 r1 hP8 e8 => ?_⟩
    obtain ⟨pick, rfl⟩ := nat_of r0
    dsimp only [gName]
    have big : ∀ z : Nat, z ≤ 100000 → z ≤ sizeLine := fun z hz => Nat.le_trans hz (by decide)
    refine ⟨fun σ' H' => ∃ text', σ' = [some (.ref a), some (.ref p), some (.ref na), some (.ref lb), y, some (.str text'), none, some (.int (pick : Nat)), none, none, none] ∧ text'.length ≤ 40000 ∧ PoolAt H' p s, ?_, ?_⟩
    · refine ev_if (fun Q h => ⟨_, rfl, rfl, _, rfl, h⟩) (fun c => ?_) (fun c => ?_)
      · refine ⟨_, rfl, _, rfl, _, rfl, text, rfl, big _ (by omega), _, _, rfl, rfl, p, s, _, rfl, hP8, by omega, by omega, fun r H9 r0 r1 hP9 e9 => ?_⟩
        refine ⟨_, rfl, _, rfl, big _ (by omega), ?_⟩
        exact ⟨_, rfl, Nat.le_trans (cutS_length _ _ _) htl, hP9⟩
      · exact ⟨text, rfl, htl, hP8⟩
    rintro σ' H9 ⟨text1, rfl, htl1, hP9⟩
    refine ⟨fun σ' H' => ∃ text', σ' = [some (.ref a), some (.ref p), some (.ref na), some (.ref lb), y, some (.str text'), none, some (.int (pick : Nat)), none, none, none] ∧ text'.length ≤ 50000, ?_, ?_⟩
    · refine ev_if (fun Q h => ⟨_, rfl, rfl, _, rfl, h⟩) (fun c => ?_) (fun c => ?_)
      · refine ⟨_, rfl, _, rfl, by show 4 ≤ sizeLine; decide, fun l1 hl1 => ?_⟩
        have x1 : Ext T noM H9 (upd H9 l1 (.lst [.str " ", .str "\n", .str "pair 0 1", .str "places 3"])) := Ext.new hl1
        refine ⟨p, s, l1, _, rfl, hP9.keep x1, upd_same, (hP9.ne hl1).1, by decide, by decide, fun v H10 hv hP10 e10 => ?_⟩
        obtain ⟨z, rfl, hz⟩ := (PStr.cons (by decide) (PStr.cons (by decide) (PStr.cons (by decide) (PStr.cons (by decide) PStr.nil))) : PStr 8 [V.str " ", .str "\n", .str "pair 0 1", .str "places 3"]) v hv
        refine ⟨_, _, rfl, rfl, big _ (by omega), ?_⟩
        exact ⟨_, rfl, by rw [ln_app]; omega⟩
      · exact ⟨text1, rfl, by omega⟩
    rintro σ' H10 ⟨text2, rfl, htl2⟩
    refine ⟨_, rfl, text2, rfl, by omega, fun H11 e11 => ?_⟩
    dsimp only [gName]
    refine ⟨_, rfl, text2, rfl, by omega, fun j hj d fs H12 nd hd hl e12 => ⟨true, EB.em, fun _ a na => ?_, fun z => nomatch z⟩, fun n2 ws2 ps2 ho v H12 hv e12 => ?_⟩
    · rw [hj]
      refine ⟨_, rfl, _, _, _, _, true, rfl, Caught.mk' EB.xc hd, .own _, kit_self, ⟨_, rfl, iteF ?_⟩⟩
      refine ⟨_, rfl, by show 2 ≤ sizeLine; decide, fun t ht => ?_⟩
      have e2 : Ext T noM H12 (upd H12 t (.tup [.ref aApart, .ref aRefused])) := Ext.new ht
      have ht2 : (upd H12 t (.tup [.ref aApart, .ref aRefused])) t = some (.tup [.ref aApart, .ref aRefused]) := upd_same
      have hd2 := e2.kp d _ (fun z => z) hd fun ps z => nomatch z
      generalize (upd H12 t (.tup [.ref aApart, .ref aRefused])) = H13 at e2 ht2 hd2 ⊢
      refine ⟨t, _, _, _, _, false, rfl, ht2, Caught.mk' EB.xc hd2, .cons (.own _) (.cons (.own _) .nil), kit_none2 EB.nA EB.nR, ⟨_, rfl, iteF ?_⟩⟩
      refine ⟨_, rfl, rfl, _, rfl, iteT ?_⟩
      refine ⟨_, rfl, rfl, rfl, d, fs, _, rfl, hd2, hl, _, rfl, j, j, rfl, ?_⟩
      rw [decide_eq_true rfl]
      exact k _
    · rw [ho]
      obtain ⟨n3, ws3, ps3, e3, W2, ok2, nd2, ht⟩ := out_ok ho
      cases e3
      obtain ⟨ta, vs, rfl, hta, hvs⟩ := hv.t
      obtain ⟨v1, r1, rfl, g1, hr1⟩ := hvs.cons
      obtain ⟨v2, r2, rfl, g2, hr2⟩ := hr1.cons
      rw [hr2.nil] at hta
      dsimp only [gName]
      refine ⟨_, rfl, rfl, _, rfl, iteT ?_⟩
      refine ⟨_, rfl, ta, _, _, _, rfl, rfl, SqT.of hta, at_of (j := 0) rfl rfl, _, rfl, ta, _, _, _, rfl, rfl, SqT.of hta, at_of (j := 1) rfl rfl, v1, v2, n2, ws2, ps2, rfl, W2, ok2, g1, g2, fun H13 e13 => ?_⟩
      refine ⟨_, rfl, rfl, ?_⟩
      rw [ht, decide_eq_true rfl]
      exact k _
end
end Mw

set_option Elab.async false
set_option linter.all false
set_option maxRecDepth 100000
set_option maxHeartbeats 2000000
namespace GE
open PySem PySem.Spec PyProof.Rows L2
/-! ### the facts of the head, by names -/
section
variable {K : PySem.W.Frag} {x qual : Str} {st : Stmt} {fd : FuncData}
theorem fun_of {f : Addr} (F : FunD K x qual (defArgs st) (defBody st) (defScope st) [] [] f fd) : Fun K x qual st f fd := by
  obtain ⟨oc, od, dV, kV, doc, pm, an, cdv, ct, osl, h1, h2, h3, h4, h5⟩ := F.ex
  rcases h4 with ⟨_, h4⟩ | ⟨h4, _⟩
  · subst h4
    exact ⟨⟨oc, od, kV, doc, pm, an, cdv, ct, osl, h1, h2, h3⟩, F.kp⟩
  · exact absurd rfl h4
theorem funC_of {p : He.Defn} (F : FunD K x qual (defArgs st) (defBody st) (defScope st) [] [] (He.fAd K p) fd) : FunC K x qual st (He.fAd K p) fd (He.codeOf K p) := by
  obtain ⟨oc, od, dV, kV, doc, pm, an, cdv, ct, osl, h1, h2, h3, h4, h5⟩ := F.ex
  rcases h4 with ⟨_, h4⟩ | ⟨h4, _⟩
  · subst h4
    obtain ⟨c, hc⟩ := He.codeIn_ref h3
    subst hc
    have e : He.codeOf K p = c := He.codeOf_eq h2 (by rw [h1])
    rw [e]
    exact ⟨⟨oc, od, kV, doc, pm, an, ct, osl, h1, h2, h3⟩, F.kp⟩
  · exact absurd rfl h4
theorem glo_eq {h : Heap} {mg : Str → Option Value} (X : K.In h) (G : h.Ns mainGlobals mg) {y : Str} {v : Value} (e : He.eqO (PySem.W.nsIn K mainGlobals y) (some (some v)) = true) : mg y = some v := PySem.W.mg_of X G (He.eqO_ok e)
end
end GE

set_option Elab.async false
set_option linter.all false
set_option maxRecDepth 100000
set_option maxHeartbeats 4000000
/-! the facts of a head where also the interpreter's own table of statics is read (attributes of a class) -/
namespace GE
open PySem He
/-- the written part: what is reached in n steps, and that table -/
def wrt (g : Addr → Option Obj) (n : Nat) : W.Frag := frT g (asD g n ++ [cStatics])
def obsS (n : Nat) (fa : List Fa) (fn : List DefD) (ts : List Tab) (tf : List Defn) (ex : W.Frag → Bool) (g : Addr → Option Obj) : AlX :=
  (obsT fa fn ts (wrt g n), ex (wrt g n) && tabsB g tf (wrt g n))
theorem says_tab {g : Addr → Option Obj} {tf : List Defn} {K : W.Frag} (h : tabsB g tf K = true) {p : Defn} (hp : p ∈ tf) : W.codeHdIn K (cT K p).1 (cT K p).2 = true ∧ ∃ o, g (cT K p).2 = some o ∧ emptyTab o = true := by
  obtain ⟨a, b⟩ := ba (List.all_eq_true.mp h p hp)
  refine ⟨a, ?_⟩
  revert b
  cases g (cT K p).2 with
  | none => exact fun z => nomatch z
  | some o => exact fun z => ⟨o, rfl, z⟩
def hookS (n : Nat) (fa : List Fa) (fn : List DefD) (ts : List Tab) (tf : List Defn) (ex : W.Frag → Bool) : W.Hook where
  α := AlX
  val := valX fn ts
  obs := fun s => obsS n fa fn ts tf ex s.heap.get?
  says := fun w h => ∃ K, W.Frag.In K h ∧ SaysX fa fn ts tf ex w h K
  of := fun w st e => by
    have e1 : obsT fa fn ts (wrt st.heap.get? n) = valT fn ts w := congrArg Prod.fst e
    obtain ⟨e2, e3⟩ := ba (show (ex (wrt st.heap.get? n) && tabsB st.heap.get? tf (wrt st.heap.get? n)) = true from congrArg Prod.snd e)
    refine ⟨wrt st.heap.get? n, frT_in, e1, e2, fun p hp => (says_tab e3 hp).1, fun p hp => ?_, fun p hp => ?_⟩
    · obtain ⟨_, o, q, z⟩ := says_tab e3 hp
      exact frT_none q z
    · obtain ⟨_, o, q, z⟩ := says_tab e3 hp
      rw [q, emptyTab_eq z]
  keeps := fun _ _ _ ⟨K, a, c⟩ k => ⟨K, W.Frag.In.keeps a k, c.t, c.more, c.hd, c.out, fun p hp => k _ _ (c.empty p hp)⟩
end GE

set_option Elab.async false
set_option linter.all false
set_option maxRecDepth 100000
set_option maxHeartbeats 4000000
namespace Mw
open PySem PySem.Spec PyProof.Rows L2 GE
def Das : List He.DefD := [⟨("BadText", some "__init__"), "__init__", "BadText.__init__", defArgs sBadText___init__, defBody sBadText___init__, defScope sBadText___init__, [], []⟩,
  ⟨("_law_pool", none), "_law_pool", "_law_pool", defArgs s_law_pool, defBody s_law_pool, defScope s_law_pool, [], []⟩,
  ⟨("_law_draw", none), "_law_draw", "_law_draw", defArgs s_law_draw, defBody s_law_draw, defScope s_law_draw, [], []⟩,
  ⟨("_law_pick", none), "_law_pick", "_law_pick", defArgs s_law_pick, defBody s_law_pick, defScope s_law_pick, [], []⟩,
  ⟨("_law_cost", none), "_law_cost", "_law_cost", defArgs s_law_cost, defBody s_law_cost, defScope s_law_cost, [], []⟩,
  ⟨("_law_way", none), "_law_way", "_law_way", defArgs s_law_way, defBody s_law_way, defScope s_law_way, [], []⟩,
  ⟨("_law_net", none), "_law_net", "_law_net", defArgs s_law_net, defBody s_law_net, defScope s_law_net, [], []⟩,
  ⟨("_law_pairs", none), "_law_pairs", "_law_pairs", defArgs s_law_pairs, defBody s_law_pairs, defScope s_law_pairs, [], []⟩,
  ⟨("_number", none), "_number", "_number", defArgs s_number, defBody s_number, defScope s_number, [], []⟩,
  ⟨("_ends", none), "_ends", "_ends", defArgs s_ends, defBody s_ends, defScope s_ends, [], []⟩,
  ⟨("Reader", some "__init__"), "__init__", "Reader.__init__", defArgs sReader___init__, defBody sReader___init__, defScope sReader___init__, [], []⟩,
  ⟨("Reader", some "_takes_places"), "_takes_places", "Reader._takes_places", defArgs sReader__takes_places, defBody sReader__takes_places, defScope sReader__takes_places, [], []⟩,
  ⟨("Reader", some "_takes_way"), "_takes_way", "Reader._takes_way", defArgs sReader__takes_way, defBody sReader__takes_way, defScope sReader__takes_way, [], []⟩,
  ⟨("Reader", some "_takes_pair"), "_takes_pair", "Reader._takes_pair", defArgs sReader__takes_pair, defBody sReader__takes_pair, defScope sReader__takes_pair, [], []⟩,
  ⟨("Reader", some "takes"), "takes", "Reader.takes", defArgs sReader_takes, defBody sReader_takes, defScope sReader_takes, [], []⟩,
  ⟨("write_task", none), "write_task", "write_task", defArgs swrite_task, defBody swrite_task, defScope swrite_task, [], []⟩,
  ⟨("read_task", none), "read_task", "read_task", defArgs sread_task, defBody sread_task, defScope sread_task, [], []⟩,
  ⟨("_law_lines", none), "_law_lines", "_law_lines", defArgs s_law_lines, defBody s_law_lines, defScope s_law_lines, [], []⟩,
  ⟨("_law_same", none), "_law_same", "_law_same", defArgs s_law_same, defBody s_law_same, defScope s_law_same, [], []⟩,
  ⟨("_law_number", none), "_law_number", "_law_number", defArgs s_law_number, defBody s_law_number, defScope s_law_number, [], []⟩,
  ⟨("_law_stands", none), "_law_stands", "_law_stands", defArgs s_law_stands, defBody s_law_stands, defScope s_law_stands, [], []⟩,
  ⟨("_law_wrong", none), "_law_wrong", "_law_wrong", defArgs s_law_wrong, defBody s_law_wrong, defScope s_law_wrong, [], []⟩,
  ⟨("_law_spoilt", none), "_law_spoilt", "_law_spoilt", defArgs s_law_spoilt, defBody s_law_spoilt, defScope s_law_spoilt, [], []⟩,
  ⟨("law", none), "law", "law", defArgs slaw, defBody slaw, defScope slaw, [], []⟩]
def Tfs : List He.Defn := []
def exB (K : PySem.W.Frag) : Bool := GE.xcB K (He.ga K "BadText") (He.ma K (He.ga K "BadText") "__init__") "line" && GE.xbB K (He.ga K "MoatError") && decide (PySem.W.exmOne K (.ref (He.ga K "BadText")) (.ref (He.ga K "MoatError")) = some true) && decide (PySem.W.kitOne K (.ref (He.ga K "BadText")) (.ref (He.ga K "Apart")) = some false) && decide (PySem.W.kitOne K (.ref (He.ga K "BadText")) (.ref (He.ga K "Refused")) = some false)
def Fas : List He.Fa := [.glo "law", .glo "_law_pool", .glo "_law_draw", .glo "_law_pick", .glo "_law_cost", .glo "_law_way", .glo "_law_net", .glo "_law_pairs", .glo "_number", .glo "_ends", .mkr "Reader", .meth "Reader" "_takes_places", .meth "Reader" "_takes_way", .meth "Reader" "_takes_pair", .meth "Reader" "takes", .glo "write_task", .glo "read_task", .glo "_law_lines", .glo "_law_same", .glo "_law_number", .glo "_law_stands", .glo "_law_wrong", .glo "_law_spoilt", .free "list", .free "abs", .free "int", .free "len", .free "range", .free "tuple", .free "min", .free "str", .free "enumerate", .free "isinstance", .free "bool", .free "max", .int "MOST_PLACES" 12, .int "MOST_WAYS" 24, .int "MOST_COST" 10000, .int "MOST_PAIRS" 6, .glo "Apart", .glo "BadText", .glo "Refused", .glo "MoatError", .glo "Reader", .cls "Reader", .noat "Reader" "places", .noat "Reader" "ways", .noat "Reader" "pairs"]
theorem all_mk {l : PySem.W.OpenLaw} {w : World} {K : PySem.W.Frag} {h : Heap} {mg : Str → Option Value} {fa : Addr} (KX : K.In h) (G : h.Ns mainGlobals mg) (hfa : mg "law" = some (.ref fa)) (c : He.SaysX Fas Das [] Tfs exB w h K) : LamX.LawAtS l w K CX0 9 63 "script" mg fa h := by
  have D := c.t.d
  have e := hfa.symm.trans (He.glo_ok KX G (D.fact 0 (f := .glo "law") rfl))
  cases e
  have hex := c.more
  unfold exB at hex
  simp only [Bool.and_eq_true] at hex
  have hxB := hex.1.1.1.1
  have hxM := hex.1.1.1.2
  have hem := of_decide_eq_true hex.1.1.2
  have hnA := of_decide_eq_true hex.1.2
  have hnR := of_decide_eq_true hex.2
  obtain ⟨fd1, D1⟩ := D.def_ 0 rfl
  have F1 := GE.fun_of (st := sBadText___init__) D1
  have b1 := F1.binds (ps := ["self", "line"]) fun _ _ _ _ _ _ us hl => match us, hl with | [_, _], _ => rfl
  obtain ⟨fd2, D2⟩ := D.def_ 1 rfl
  have F2 := GE.fun_of (st := s_law_pool) D2
  have b2 := F2.binds (ps := ["script"]) fun _ _ _ _ _ _ us hl => match us, hl with | [_], _ => rfl
  have g2 := He.glo_ok KX G (D.fact 1 (f := .glo "_law_pool") rfl)
  obtain ⟨fd3, D3⟩ := D.def_ 2 rfl
  have F3 := GE.fun_of (st := s_law_draw) D3
  have b3 := F3.binds (ps := ["pool", "many"]) fun _ _ _ _ _ _ us hl => match us, hl with | [_, _], _ => rfl
  have g3 := He.glo_ok KX G (D.fact 2 (f := .glo "_law_draw") rfl)
  obtain ⟨fd4, D4⟩ := D.def_ 3 rfl
  have F4 := GE.fun_of (st := s_law_pick) D4
  have b4 := F4.binds (ps := ["pool", "rows"]) fun _ _ _ _ _ _ us hl => match us, hl with | [_, _], _ => rfl
  have g4 := He.glo_ok KX G (D.fact 3 (f := .glo "_law_pick") rfl)
  obtain ⟨fd5, D5⟩ := D.def_ 4 rfl
  have F5 := GE.fun_of (st := s_law_cost) D5
  have b5 := F5.binds (ps := ["pool"]) fun _ _ _ _ _ _ us hl => match us, hl with | [_], _ => rfl
  have g5 := He.glo_ok KX G (D.fact 4 (f := .glo "_law_cost") rfl)
  obtain ⟨fd6, D6⟩ := D.def_ 5 rfl
  have F6 := GE.fun_of (st := s_law_way) D6
  have b6 := F6.binds (ps := ["pool", "places"]) fun _ _ _ _ _ _ us hl => match us, hl with | [_, _], _ => rfl
  have g6 := He.glo_ok KX G (D.fact 5 (f := .glo "_law_way") rfl)
  obtain ⟨fd7, D7⟩ := D.def_ 6 rfl
  have F7 := GE.fun_of (st := s_law_net) D7
  have b7 := F7.binds (ps := ["pool", "most", "ways"]) fun _ _ _ _ _ _ us hl => match us, hl with | [_, _, _], _ => rfl
  have g7 := He.glo_ok KX G (D.fact 6 (f := .glo "_law_net") rfl)
  obtain ⟨fd8, D8⟩ := D.def_ 7 rfl
  have F8 := GE.fun_of (st := s_law_pairs) D8
  have b8 := F8.binds (ps := ["pool", "places", "most"]) fun _ _ _ _ _ _ us hl => match us, hl with | [_, _, _], _ => rfl
  have g8 := He.glo_ok KX G (D.fact 7 (f := .glo "_law_pairs") rfl)
  obtain ⟨fd9, D9⟩ := D.def_ 8 rfl
  have F9 := GE.fun_of (st := s_number) D9
  have b9 := F9.binds (ps := ["word", "low", "high"]) fun _ _ _ _ _ _ us hl => match us, hl with | [_, _, _], _ => rfl
  have g9 := He.glo_ok KX G (D.fact 8 (f := .glo "_number") rfl)
  obtain ⟨fd10, D10⟩ := D.def_ 9 rfl
  have F10 := GE.fun_of (st := s_ends) D10
  have b10 := F10.binds (ps := ["first", "second", "places"]) fun _ _ _ _ _ _ us hl => match us, hl with | [_, _, _], _ => rfl
  have g10 := He.glo_ok KX G (D.fact 9 (f := .glo "_ends") rfl)
  obtain ⟨fd11, D11⟩ := D.def_ 10 rfl
  have F11 := GE.fun_of (st := sReader___init__) D11
  have b11 := F11.binds (ps := ["self"]) fun _ _ _ _ _ _ us hl => match us, hl with | [_], _ => rfl
  have M11 := He.mkr_ok (D.fact 10 (f := .mkr "Reader") rfl)
  obtain ⟨fd12, D12⟩ := D.def_ 11 rfl
  have F12 := GE.fun_of (st := sReader__takes_places) D12
  have b12 := F12.binds (ps := ["self", "words"]) fun _ _ _ _ _ _ us hl => match us, hl with | [_, _], _ => rfl
  have mm12 := He.meth_ok (D.fact 11 (f := .meth "Reader" "_takes_places") rfl)
  obtain ⟨fd13, D13⟩ := D.def_ 12 rfl
  have F13 := GE.fun_of (st := sReader__takes_way) D13
  have b13 := F13.binds (ps := ["self", "words"]) fun _ _ _ _ _ _ us hl => match us, hl with | [_, _], _ => rfl
  have mm13 := He.meth_ok (D.fact 12 (f := .meth "Reader" "_takes_way") rfl)
  obtain ⟨fd14, D14⟩ := D.def_ 13 rfl
  have F14 := GE.fun_of (st := sReader__takes_pair) D14
  have b14 := F14.binds (ps := ["self", "words"]) fun _ _ _ _ _ _ us hl => match us, hl with | [_, _], _ => rfl
  have mm14 := He.meth_ok (D.fact 13 (f := .meth "Reader" "_takes_pair") rfl)
  obtain ⟨fd15, D15⟩ := D.def_ 14 rfl
  have F15 := GE.fun_of (st := sReader_takes) D15
  have b15 := F15.binds (ps := ["self", "line"]) fun _ _ _ _ _ _ us hl => match us, hl with | [_, _], _ => rfl
  have mm15 := He.meth_ok (D.fact 14 (f := .meth "Reader" "takes") rfl)
  obtain ⟨fd16, D16⟩ := D.def_ 15 rfl
  have F16 := GE.fun_of (st := swrite_task) D16
  have b16 := F16.binds (ps := ["net", "pairs"]) fun _ _ _ _ _ _ us hl => match us, hl with | [_, _], _ => rfl
  have g16 := He.glo_ok KX G (D.fact 15 (f := .glo "write_task") rfl)
  obtain ⟨fd17, D17⟩ := D.def_ 16 rfl
  have F17 := GE.fun_of (st := sread_task) D17
  have b17 := F17.binds (ps := ["text"]) fun _ _ _ _ _ _ us hl => match us, hl with | [_], _ => rfl
  have g17 := He.glo_ok KX G (D.fact 16 (f := .glo "read_task") rfl)
  obtain ⟨fd18, D18⟩ := D.def_ 17 rfl
  have F18 := GE.fun_of (st := s_law_lines) D18
  have b18 := F18.binds (ps := ["net", "pairs"]) fun _ _ _ _ _ _ us hl => match us, hl with | [_, _], _ => rfl
  have g18 := He.glo_ok KX G (D.fact 17 (f := .glo "_law_lines") rfl)
  obtain ⟨fd19, D19⟩ := D.def_ 18 rfl
  have F19 := GE.fun_of (st := s_law_same) D19
  have b19 := F19.binds (ps := ["actual", "due"]) fun _ _ _ _ _ _ us hl => match us, hl with | [_, _], _ => rfl
  have g19 := He.glo_ok KX G (D.fact 18 (f := .glo "_law_same") rfl)
  obtain ⟨fd20, D20⟩ := D.def_ 19 rfl
  have F20 := GE.fun_of (st := s_law_number) D20
  have b20 := F20.binds (ps := ["word"]) fun _ _ _ _ _ _ us hl => match us, hl with | [_], _ => rfl
  have g20 := He.glo_ok KX G (D.fact 19 (f := .glo "_law_number") rfl)
  obtain ⟨fd21, D21⟩ := D.def_ 20 rfl
  have F21 := GE.fun_of (st := s_law_stands) D21
  have b21 := F21.binds (ps := ["state", "words"]) fun _ _ _ _ _ _ us hl => match us, hl with | [_, _], _ => rfl
  have g21 := He.glo_ok KX G (D.fact 20 (f := .glo "_law_stands") rfl)
  obtain ⟨fd22, D22⟩ := D.def_ 21 rfl
  have F22 := GE.fun_of (st := s_law_wrong) D22
  have b22 := F22.binds (ps := ["text"]) fun _ _ _ _ _ _ us hl => match us, hl with | [_], _ => rfl
  have g22 := He.glo_ok KX G (D.fact 21 (f := .glo "_law_wrong") rfl)
  obtain ⟨fd23, D23⟩ := D.def_ 22 rfl
  have F23 := GE.fun_of (st := s_law_spoilt) D23
  have b23 := F23.binds (ps := ["pool", "lines"]) fun _ _ _ _ _ _ us hl => match us, hl with | [_, _], _ => rfl
  have g23 := He.glo_ok KX G (D.fact 22 (f := .glo "_law_spoilt") rfl)
  obtain ⟨fd24, D24⟩ := D.def_ 23 rfl
  have F24 := GE.fun_of (st := slaw) D24
  have b24 := F24.binds (ps := ["script"]) fun _ _ _ _ _ _ us hl => match us, hl with | [_], _ => rfl
  have g24 := He.glo_ok KX G (D.fact 0 (f := .glo "law") rfl)
  have m_list := He.free_ok KX G (D.fact 23 (f := .free "list") rfl)
  have m_abs := He.free_ok KX G (D.fact 24 (f := .free "abs") rfl)
  have m_int := He.free_ok KX G (D.fact 25 (f := .free "int") rfl)
  have m_len := He.free_ok KX G (D.fact 26 (f := .free "len") rfl)
  have m_range := He.free_ok KX G (D.fact 27 (f := .free "range") rfl)
  have m_tuple := He.free_ok KX G (D.fact 28 (f := .free "tuple") rfl)
  have m_min := He.free_ok KX G (D.fact 29 (f := .free "min") rfl)
  have m_str := He.free_ok KX G (D.fact 30 (f := .free "str") rfl)
  have m_enumerate := He.free_ok KX G (D.fact 31 (f := .free "enumerate") rfl)
  have m_isinstance := He.free_ok KX G (D.fact 32 (f := .free "isinstance") rfl)
  have m_bool := He.free_ok KX G (D.fact 33 (f := .free "bool") rfl)
  have m_max := He.free_ok KX G (D.fact 34 (f := .free "max") rfl)
  have g_MOST_PLACES := He.int_ok KX G (D.fact 35 (f := .int "MOST_PLACES" 12) rfl)
  have g_MOST_WAYS := He.int_ok KX G (D.fact 36 (f := .int "MOST_WAYS" 24) rfl)
  have g_MOST_COST := He.int_ok KX G (D.fact 37 (f := .int "MOST_COST" 10000) rfl)
  have g_MOST_PAIRS := He.int_ok KX G (D.fact 38 (f := .int "MOST_PAIRS" 6) rfl)
  have gApart := He.glo_ok KX G (D.fact 39 (f := .glo "Apart") rfl)
  have gBadText := He.glo_ok KX G (D.fact 40 (f := .glo "BadText") rfl)
  have gRefused := He.glo_ok KX G (D.fact 41 (f := .glo "Refused") rfl)
  have gMoatError := He.glo_ok KX G (D.fact 42 (f := .glo "MoatError") rfl)
  have gReader := He.glo_ok KX G (D.fact 43 (f := .glo "Reader") rfl)
  have clReader := He.cls_ok (D.fact 44 (f := .cls "Reader") rfl)
  have nReader_places := He.noat_ok (D.fact 45 (f := .noat "Reader" "places") rfl)
  have nReader_ways := He.noat_ok (D.fact 46 (f := .noat "Reader" "ways") rfl)
  have nReader_pairs := He.noat_ok (D.fact 47 (f := .noat "Reader" "pairs") rfl)
  have fx : RTx K (He.ga K "Reader") := ⟨clReader, nReader_places, nReader_ways, nReader_pairs⟩
  have XBadText := GE.xcB_ok hxB
  have BMoatError := GE.xbB_ok hxM
  have EB : ErrB K mg (He.ga K "Apart") (He.ga K "BadText") (He.ga K "Refused") (He.ga K "MoatError") (He.ma K (He.ga K "BadText") "__init__") := ⟨XBadText, hem, hnA, hnR⟩
  have bL := FunD.bindsA (ps := ["script"]) D24 fun _ _ _ _ _ _ us hl => match us, hl with | [_], _ => rfl
  refine ⟨fd24, [], spLaw K [], (fun p hp => nomatch hp), (fun p hp => nomatch hp), (fun p hp => nomatch hp), fun s v => bL s [v] rfl, fun H a ns hlen hbits hH hS => ⟨a, ns, rfl, hS, hlen, ?_, fun _ => rfl⟩, fun base XB GB TB => ?_⟩
  · intro P hP
    simp only [List.mem_cons, List.not_mem_nil, or_false] at hP
  have G1 := ok_BadText___init__ (T := []) (P := l.prog) (w := w) (base := base) (mg := mg) F1 gMoatError BMoatError XBadText
  have G2 := ok__law_pool (T := []) (P := l.prog) (w := w) (base := base) (mg := mg) F2 m_list
  have G3 := ok__law_draw (T := []) (P := l.prog) (w := w) (base := base) (mg := mg) F3 m_abs m_int m_len
  have G4 := ok__law_pick (T := []) (P := l.prog) (w := w) (base := base) (mg := mg) F4 m_len F3 (G3.mono (by decide)) b3 g3
  have G5 := ok__law_cost (T := []) (P := l.prog) (w := w) (base := base) (mg := mg) F5 F3 (G3.mono (by decide)) b3 g3
  have G6 := ok__law_way (T := []) (P := l.prog) (w := w) (base := base) (mg := mg) F6 F3 (G3.mono (by decide)) b3 g3 F5 (G5.mono (by decide)) b5 g5
  have G7 := ok__law_net (T := []) (P := l.prog) (w := w) (base := base) (mg := mg) F7 m_range m_tuple m_min m_len F3 (G3.mono (by decide)) b3 g3 F6 (G6.mono (by decide)) b6 g6 F5 (G5.mono (by decide)) b5 g5
  have G8 := ok__law_pairs (T := []) (P := l.prog) (w := w) (base := base) (mg := mg) F8 m_range m_tuple F3 (G3.mono (by decide)) b3 g3
  have G9 := ok__number (T := []) (P := l.prog) (w := w) (base := base) (mg := mg) F9 m_int m_len m_str
  have G10 := ok__ends (T := []) (P := l.prog) (w := w) (base := base) (mg := mg) F10 F9 (G9.mono (by decide)) b9 g9
  have G11 := ok_Reader___init__ (T := []) (P := l.prog) (w := w) (base := base) (mg := mg) F11 fx
  have G12 := ok_Reader__takes_places (T := []) (P := l.prog) (w := w) (base := base) (mg := mg) F12 m_len F9 (G9.mono (by decide)) b9 g9 fx g_MOST_PLACES
  have G13 := ok_Reader__takes_way (T := []) (P := l.prog) (w := w) (base := base) (mg := mg) F13 m_len F10 (G10.mono (by decide)) b10 g10 F9 (G9.mono (by decide)) b9 g9 fx g_MOST_WAYS g_MOST_COST
  have G14 := ok_Reader__takes_pair (T := []) (P := l.prog) (w := w) (base := base) (mg := mg) F14 m_len F10 (G10.mono (by decide)) b10 g10 fx g_MOST_PAIRS
  have G15 := ok_Reader_takes (T := []) (P := l.prog) (w := w) (base := base) (mg := mg) F15 F14 (G14.mono (by decide)) b14 mm14 F12 (G12.mono (by decide)) b12 mm12 F13 (G13.mono (by decide)) b13 mm13 fx
  have G16 := ok_write_task (T := []) (P := l.prog) (w := w) (base := base) (mg := mg) F16
  have G17 := True.intro
  have GX17 := okX_read_task (T := []) (P := l.prog) (w := w) (base := base) (mg := mg) F17 m_enumerate m_tuple m_len gBadText F11 (G11.mono (by decide)) b11 M11 F1 (G1.mono (by decide)) b1 XBadText F15 (G15.mono (by decide)) b15 mm15 fx gReader
  have G18 := ok__law_lines (T := []) (P := l.prog) (w := w) (base := base) (mg := mg) F18 m_str
  have G19 := (same_all (T := []) (P := l.prog) (w := w) (base := base) (mg := mg) F19 m_isinstance m_tuple m_str m_int m_len m_bool m_range b19 g19 1)
  have GH19 := okH__law_same (P := l.prog) (w := w) (base := base) (mg := mg) F19 m_isinstance m_tuple m_str m_int m_len m_bool m_range
  have G20 := ok__law_number (T := []) (P := l.prog) (w := w) (base := base) (mg := mg) F20 m_int m_len
  have G21 := ok__law_stands (T := []) (P := l.prog) (w := w) (base := base) (mg := mg) F21 m_len F20 (G20.mono (by decide)) b20 g20
  have G22 := ok__law_wrong (T := []) (P := l.prog) (w := w) (base := base) (mg := mg) F22 m_range m_len m_max F21 (G21.mono (by decide)) b21 g21
  have G23 := ok__law_spoilt (T := []) (P := l.prog) (w := w) (base := base) (mg := mg) F23 m_len m_str m_range F3 (G3.mono (by decide)) b3 g3 F4 (G4.mono (by decide)) b4 g4
  have G24 := ok_law (T := []) (P := l.prog) (w := w) (base := base) (mg := mg) F24 m_range m_len m_isinstance F2 (G2.mono (by decide)) b2 g2 F7 (G7.mono (by decide)) b7 g7 F8 (G8.mono (by decide)) b8 g8 F18 (G18.mono (by decide)) b18 g18 F3 (G3.mono (by decide)) b3 g3 F23 (G23.mono (by decide)) b23 g23 F4 (G4.mono (by decide)) b4 g4 F22 (G22.mono (by decide)) b22 g22 F17 (GX17.mono (by decide)) b17 g17 F16 (G16.mono (by decide)) b16 g16 F19 (GE.fnH_mono GH19 (by decide)) b19 g19 EB gApart gBadText gRefused gMoatError
  exact G24
end Mw

set_option Elab.async false
set_option linter.all false
set_option maxRecDepth 100000
set_option maxHeartbeats 4000000
open PySem PySem.W PyProof.Rows
set_option maxRecDepth 100000 in
set_option maxHeartbeats 0 in
theorem PySem.Challenge.cw_moatways_k21_wrong_lines_of_tasks_holds : PySem.Challenge.rw_moatways_k21_wrong_lines_of_tasks.Holds := by
  w_on; o_law; o_head (GE.hookS 5 Mw.Fas Mw.Das [] Mw.Tfs Mw.exB); (case hw => w_witness2)
  refine LamX.walk_ofTsE (l := PySem.Challenge.rw_moatways_k21_wrong_lines_of_tasks) (n := 63) (k := 9) (x := "script") (CX := fun _ => L2.CX0) rfl (by decide) rfl ⟨rfl, by decide, by decide⟩ ?F (fun _ _ _ _ _ z => z)
  case F =>
    intro w mg fa h Y G hmg
    obtain ⟨K, KX, c⟩ := Y
    exact ⟨K, KX, Mw.all_mk KX G hmg c⟩
