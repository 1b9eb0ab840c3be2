import PyProof.Rows.All
import Wide.All
import OpenK.AllK
import Wide.FinOn
import PyProof.DictCompW
import KE.GoesZip
import KE.GoesEnum
import HandS.ForMost
import HandS.DictComp
import HandS.Walk
import OpenK.KMeth
import HandS.MakeKwOnly
import HandS.Property
import HandS.ClsMeth
import HandS.IsInst
import HandS.StrMore
import HandS.Flow
import HandS.Evl
import HandS.More
import HandS.FStr
import KE.KStar
import KE.KOpsOwn
import HandS.Conv
import KE.KStateDown
import Lean
import HandS.WordsExc
import HandS.Head0
import HandS.Head1
import HandS.Head2
import HandS.HeadEnd
import HandS.HeadHook1
import HandS.HeadHook2
import HandS.HeadNt
import PySem.Challenge.RW_noteless_k01_words_lead_to_states
set_option Elab.async false
set_option linter.all false
set_option maxRecDepth 100000
set_option maxHeartbeats 0
/-! Dict comprehensions whose keys are tuples (one clause, two clauses); zip of a text and a list. -/
namespace Nt
open PySem PySem.Spec PyProof.Rows L2

/-- the end of a walk weakened, what is raised as it was -/
theorem thnF' {α : Type} {t : Sem α} {Q Q' : α → Shared → Prop} {M : Model} {A : Around} {E : Value → Shared → Prop} {s : Shared} (h : wpAny M A t Q E s) (hQ : ∀ a s, Q a s → Q' a s) : wpAny M A t Q' E s := wpAny_mono h hQ fun _ _ x => x

/-! ### one store -/
theorem storeT {X : Cx} {pins : List (Addr × Obj)} {σ : L2.St} {H : Hp} {s : Shared} {E : Value → Shared → Prop} {D kp : Addr} {old : List (List Key × V)} {ky : List Key} {v : V} {r : Value} {Q : Unit → Shared → Prop}
    (room : X.A.units < cLine) (I : Inv X pins σ H s) (atD : H D = some (.dT old)) (atK : H kp = some (.tup (ky.map kV))) (small : old.length < sizeLine) (rv : RelV v r)
    (next : ∀ s', Inv X pins σ (upd H D (.dT (putK old ky v))) s' → Q () s') : wpAny (model X.prog X.w) X.A (dictSet D (.ref kp) r) Q E s := by
  obtain ⟨_, noMods, raw, rel, asDict⟩ := dt_of I.hok atD
  have rawLe : raw.length ≤ sizeLine := by
    rw [← Paired.length rel]
    exact Nat.le_of_lt small
  have grown : (putK old ky v).length ≤ sizeLine := by
    have := length_putK old ky v
    omega
  refine wpAny_dictSet_heap (hsz := rawLe) (knd := tupleKind (mixKind X.prog X.w)) room (key_of I.hok atK) asDict fun h' after same => next _ ?_
  obtain ⟨ob, es, ep, got, exact', isD, ents, _, nodup⟩ := after
  have keepT : ∀ c ys, H c = some (.tup ys) → upd H D (.dT (putK old ky v)) c = some (.tup ys) := fun c ys ec => by
    rw [upd_ne (ne_of ec atD (fun z => nomatch z))]
    exact ec
  exact d_write I (by rw [atD]; exact True.intro) same ⟨ob, got⟩ ⟨grown, noMods, _, (rel.put ky atK rv).keeps keepT, ob, es, ep, got, exact', isD, ents, nodup⟩

/-! ### the block of a dict comprehension, up to its loop -/
section
variable {X : Cx}
/-- what is asked of the loop of the first clause: from the block's start it comes to its end with Q -/
def LoopOf (X : Cx) (e : Expr) (tg : Expr) (scope : Scope) (own : List (Str × Nat)) (σ : L2.St) (Q : VK) (Rd : It → Addr → Hp → Prop) : Prop :=
  ∀ (J : It) (D it : Addr) (H1 : Hp) (s3 s4 : Shared) (fp : List Addr) (tn : Nat → Heap → Prop) (cl : List (Str × Addr)) (C : Addr),
    H1 D = none → Rd J D H1 → Turn X.prog X.w X.K tg J fp it tn → tn 0 s4.heap → (∀ b ∈ fp, upd H1 D (.dT []) b = none) →
    Inv (X.blk s3 (upd H1 D (.dT [])) scope (compEnvC scope cl C X.env) fp) [] (wipe σ (own.map (·.2))) (upd H1 D (.dT [])) s4 →
    codeAny (model X.prog X.w) X.A (.compLoop e 0 (.ref it) (.ref D) (compEnvC scope cl C X.env))
      (fun r s' => r = .ok .next ∧ ∃ H', Inv (X.blk s3 (upd H1 D (.dT [])) scope (compEnvC scope cl C X.env) fp) [] (wipe σ (own.map (·.2))) H' s' ∧ Q (.ref D) H') s4

theorem dict_block {pins : List (Addr × Obj)} {s : Shared} {σ : L2.St} {H : Hp} {Q : VK} {kx vx tg iter : Expr} {ifs : List Expr} {rest : List Comprehension} {scope : Scope} {own : List (Str × Nat)} {pos pos' : Pos} {wi : TI} {Rd : It → Addr → Hp → Prop}
    (hN : X.N.Nodup) (I : Inv X pins σ H s) (hi : PI X tg iter wi) (ok : BlkOk X.N X.env.scope scope own) (hs : ∀ x, foldedSetIterable iter X.env x = pure x)
    (h : wi σ H fun J H1 => ∀ D, H1 D = none → Rd J D H1) (loop : LoopOf X (.DictComp kx vx (⟨tg, iter, ifs, 0⟩ :: rest) scope pos) tg scope own σ Q Rd) :
    wpAny (model X.prog X.w) X.A (comprehension (.DictComp kx vx (⟨tg, iter, ifs, 0⟩ :: rest) scope pos) scope X.env pos' newDict false (eval iter X.env) none) (EP X pins σ Q) X.xe s := by
  have caught : ∀ y ∈ scope.names, y.2 = .free → ∃ c, X.env.cells.lookup y.1 = some c := by
    intro y hy e
    exact (ok.free y hy e).elim (fun k => I.ok.has _ (.inl k)) (fun k => I.ok.has _ (.inr k))
  refine wpAny_comprehension_free (use := none) rfl hs (closure_ok caught) ok.kind (fun y hy e => by rw [ok.uniq y hy, e]) ?_
  refine thn (hi.run pins s σ H _ I h) fun xv s1 hx => thn hx fun itv s2 h2 => ?_
  obtain ⟨it, fp, tn, J, H2, rfl, I2, T, st2, f2, q⟩ := h2
  refine wpAny_newObj_type (newEnv_comp ?_)
  -- the new dict stands at the heap's end
  have fresh : H2 s2.heap.objs.size = none := I2.hok.fresh (Nat.le_refl _)
  have rd := q _ fresh
  have I3 : Inv X pins σ (upd H2 s2.heap.objs.size (.dT [])) { s2 with heap := s2.heap.push { cls := .type "dict", data := .dict #[] } } :=
    I2.laid (t' := s2.toks) (fun _ _ e => Heap.get?_push_of_some _ e) (Nat.le_refl _) (dt_empty s2.heap I2.big)
  have old : ∀ b ∈ fp, b < s2.heap.objs.size := fun b hb => let ⟨_, e, _⟩ := T.obj _ _ st2 b hb; Heap.lt_size e
  have own3 : ∀ b ∈ fp, FpOk X pins (upd H2 s2.heap.objs.size (.dT [])) b ∧ b < (s2.heap.push { cls := .type "dict", data := .dict #[] }).objs.size := fun b hb =>
    ⟨⟨by rw [upd_ne (Nat.ne_of_lt (old b hb))]; exact (f2 b hb).1, (f2 b hb).2⟩, by rw [Heap.size_push]; exact Nat.lt_succ_of_lt (old b hb)⟩
  have I4 := block_start I3 ok hN own3
  generalize hs3 : ({ s2 with heap := s2.heap.push { cls := .type "dict", data := .dict #[] } } : Shared) = s3 at I3 I4 own3
  have e3 : s3.heap = s2.heap.push { cls := .type "dict", data := .dict #[] } := by rw [← hs3]
  have st4 : tn 0 (pushCells (s3.heap.push { cls := .type "dict", data := .dict #[] }) scope.names) := T.keep _ _ _ st2 fun b _ o e =>
    pushCells_keeps _ _ _ _ (Heap.get?_push_of_some _ (by rw [e3]; exact Heap.get?_push_of_some _ e))
  have nfp : ∀ b ∈ fp, upd H2 s2.heap.objs.size (.dT []) b = none := fun b hb => by
    rw [upd_ne (Nat.ne_of_lt (old b hb))]
    exact (f2 b hb).1
  have go := loop J s2.heap.objs.size it H2 s3 _ fp tn _ _ fresh rd T st4 nfp I4
  have fin := codeAny_mono go fun r s' ⟨er, H', I6, q6⟩ => (show compPost (model X.prog X.w) X.A X.xe none (EP X pins σ Q) (.ref s2.heap.objs.size) s3.heap.objs.size r s' from by
    subst er
    have I7 : Inv X pins σ H' s' := I3.call' (ch := fp) I6.os I6.base I6.hok I6.bare fun b hb => by
      obtain ⟨⟨_, a1, _, a3, a4, a5⟩, _⟩ := own3 b (by exact hb)
      exact ⟨a3, a1, a4, a5⟩
    obtain ⟨m, hn, _⟩ := I6.loc
    have gone : H' s3.heap.objs.size = none := I6.free
    obtain ⟨f0, f1, _, f3, f4, f5⟩ := I3.fpOk (H' := H') (Nat.le_refl _) gone
    exact ⟨m, hn, fun h'' sb => ⟨.ref s2.heap.objs.size, H', I7.turned (t' := s'.toks) (fun b o hb e => (sb.2 b hb).trans e) f0 f1 f3 f4 f5, rfl, q6⟩⟩)
  have whole := codeAny_compStart_dict fin (T.self X.A 0 _ _ _ (by exact st4) fin)
  exact whole

/-! ### what the loops ask -/
/-- one clause -/
def RdT (g : TG) (tt : TT) (tk tv : TE) (vs : List Nat) (σ : L2.St) (Q : VK) (J : It) (D : Addr) (H1 : Hp) : Prop := ∃ W : Nat → Nat → Hp → Prop, (∃ m, W 0 m (upd H1 D (.dT []))) ∧ ∀ i m H, W i m H →
  (J.stop i H ∧ Q (.ref D) H) ∨ (J.go i H ∧ ∃ Nx : Hp → Prop, (∀ H', Nx H' → ∃ m', m' < m ∧ W (i + 1) m' H') ∧ ∀ x H', J.yld i H x H' → g x (wipe σ vs) H' fun σ2 H2 => wipe σ2 vs = wipe σ vs ∧ tt σ2 H2 fun b H3 =>
    if b = true then tk σ2 H3 fun y H4 => tv σ2 H4 fun z H5 => ∃ old ky kp, y = .ref kp ∧ H5 kp = some (.tup (ky.map kV)) ∧ H5 D = some (.dT old) ∧ old.length < sizeLine ∧ Nx (upd H5 D (.dT (putK old ky z))) else Nx H3)
def tDcT (wi : TI) (g : TG) (tt : TT) (tk tv : TE) (vs : List Nat) : TE := fun σ H Q => wi σ H fun J H1 => ∀ D, H1 D = none → RdT g tt tk tv vs σ Q J D H1

/-- a turn's end: the slots are forgotten again, the iterator stands at its next place -/
theorem turn_over {s3 : Shared} {H3 : Hp} {scope : Scope} {ce : Env} {fp0 fp : List Addr} {σ0 σ8 : L2.St} {tn : Nat → Heap → Prop} {K : PySem.W.Frag} {tg : Expr} {J : It} {it : Addr} {i : Nat} {s7 s' : Shared} {H' : Hp} {pins : List (Addr × Obj)}
    (T : Turn X.prog X.w K tg J fp it tn) (hl : σ0.length = σ8.length) (hk : ∀ (j : Nat) v, σ0[j]? = some (some v) → σ8[j]? = some (some v)) (st7 : tn (i + 1) s7.heap)
    (I' : Inv (X.blk s3 H3 scope ce fp0) (pins ++ pinsAt fp s7.heap) σ8 H' s') : Inv (X.blk s3 H3 scope ce fp0) pins σ0 H' s' ∧ tn (i + 1) s'.heap ∧ ∀ b ∈ fp, H' b = none := by
  have still : ∀ b ∈ fp, ∀ o, s7.heap.get? b = some o → s'.heap.get? b = some o ∧ H' b = none := fun b hb o e =>
    let z := I'.pin (b, o) (List.mem_append_right _ (List.mem_append_right _ (mem_pinsAt hb e)))
    ⟨z.1, z.2.1⟩
  refine ⟨(I'.unpinned (pins := pins)).weak hl hk, T.keep _ _ _ st7 fun b hb o e => (still b hb o e).1, fun b hb => ?_⟩
  obtain ⟨o, e, _⟩ := T.obj _ _ st7 b hb
  exact (still b hb o e).2

theorem loop_one {kx vx tg iter : Expr} {ifs : List Expr} {scope : Scope} {own : List (Str × Nat)} {pos : Pos} {g : TG} {tt : TT} {tk tv : TE} {σ : L2.St} {Q : VK} (hc : X.calm = true) (room : X.A.units < cLine)
    (hg : ∀ (s : Shared) (H : Hp) (C : Addr) (cl : List (Str × Addr)) (fp : List Addr), PG (X.blk s H scope (compEnvC scope cl C X.env) fp) tg g)
    (ht : ∀ (s : Shared) (H : Hp) (C : Addr) (cl : List (Str × Addr)) (fp : List Addr), PTs (X.blk s H scope (compEnvC scope cl C X.env) fp) ifs tt)
    (hk : ∀ (s : Shared) (H : Hp) (C : Addr) (cl : List (Str × Addr)) (fp : List Addr), PE (X.blk s H scope (compEnvC scope cl C X.env) fp) kx tk)
    (he : ∀ (s : Shared) (H : Hp) (C : Addr) (cl : List (Str × Addr)) (fp : List Addr), PE (X.blk s H scope (compEnvC scope cl C X.env) fp) vx tv) :
    LoopOf X (.DictComp kx vx [⟨tg, iter, ifs, 0⟩] scope pos) tg scope own σ Q (RdT g tt tk tv (own.map (·.2)) σ Q) := by
  intro J D it H1 s3 s4 fp tn cl C fresh rd T st4 nfp I4
  obtain ⟨W, ⟨m0, w0⟩, turn⟩ := rd
  generalize hce : compEnvC scope cl C X.env = ce at I4 ⊢
  have pg := hg s3 (upd H1 D (.dT [])) C cl fp
  have pt := ht s3 (upd H1 D (.dT [])) C cl fp
  have pk := hk s3 (upd H1 D (.dT [])) C cl fp
  have pe := he s3 (upd H1 D (.dT [])) C cl fp
  rw [hce] at pg pt pk pe
  generalize upd H1 D (.dT []) = H3 at I4 pg pt pk pe w0 nfp ⊢
  have own1 : ∀ {σ' : L2.St} {H' : Hp} {s' : Shared}, Inv (X.blk s3 H3 scope ce fp) [] σ' H' s' → (∀ b ∈ fp, H' b = none) → ∀ b ∈ fp, FpOk (X.blk s3 H3 scope ce fp) [] H' b := by
    intro σ' H' s' I' hn b hb
    exact ⟨hn b hb, (I'.ok.exf b hb).1, I'.ok.exfs b hb, .inl hb, fun x c e => (I'.ok.exf b hb).2 x c e, fun p hp => absurd (show p ∈ ([] : List (Addr × Obj)) ++ [] from hp) (by simp)⟩
  refine compLoop_anyD (fun n s' => ∃ i H', Inv (X.blk s3 H3 scope ce fp) [] (wipe σ (own.map (·.2))) H' s' ∧ tn i s'.heap ∧ (∀ b ∈ fp, H' b = none) ∧ W i n H') ?_ m0 ⟨0, H3, I4, st4, nfp, w0⟩
  rintro n s5 ⟨i, H5, I5, st5, n5, w5⟩
  rcases turn i n H5 w5 with ⟨stop, qq⟩ | ⟨go, Nx, hNx, step⟩
  · refine thnF (T.done (X.blk s3 H3 scope ce fp) rfl rfl rfl hc i [] s5 _ H5 (fun _ _ => False) I5 (own1 I5 n5) st5 stop) fun r s6 ⟨hr, I6⟩ => ?_
    subst hr
    exact ⟨rfl, H5, I6, qq⟩
  · refine thnF (T.item (X.blk s3 H3 scope ce fp) rfl rfl rfl hc i [] s5 _ H5 (fun _ _ => False) I5 (own1 I5 n5) st5 go) fun r s6 ⟨u, hr, h6⟩ => ?_
    subst hr
    refine thnF h6 fun _ s7 ⟨x, H7, I7, r7, y7, st7, n7⟩ => ?_
    have I7' := I7.pinned (own1 I7 n7) (T.obj _ _ st7)
    refine thnF (pg.run _ s7 _ H7 x u _ I7' r7 (step x H7 y7)) fun _ s8 ⟨σ8, H8, I8, hw8, q8⟩ => ?_
    refine thnF (pt.run _ s8 σ8 H8 _ I8 q8) fun b s9 ⟨H9, I9, q9⟩ => ?_
    have over : ∀ {s' : Shared} {H' : Hp}, Inv (X.blk s3 H3 scope ce fp) ([] ++ pinsAt fp s7.heap) σ8 H' s' → Nx H' → ∃ m, m < n ∧ ∃ i H', Inv (X.blk s3 H3 scope ce fp) [] (wipe σ (own.map (·.2))) H' s' ∧ tn i s'.heap ∧ (∀ b ∈ fp, H' b = none) ∧ W i m H' := by
      intro s' H' I' nx
      obtain ⟨m', hm, w'⟩ := hNx H' nx
      obtain ⟨a1, a2, a3⟩ := turn_over (σ0 := wipe σ (own.map (·.2))) T (by rw [← hw8, wipe_length]) (fun j v e => by rw [← hw8] at e; exact (wipe_some e).1) st7 I'
      exact ⟨m', hm, i + 1, H', a1, a2, a3, w'⟩
    cases b with
    | false =>
      simp only [Bool.false_eq_true, if_false] at q9 ⊢
      exact over I9 q9
    | true =>
      simp only [if_true] at q9 ⊢
      refine thnF (pk.run _ s9 σ8 H9 _ I9 q9) fun z s10 ⟨yk, H10, I10, r10, q10⟩ => ?_
      refine thnF (pe.run _ s10 σ8 H10 _ I10 q10) fun z2 s11 ⟨yv, H11, I11, r11, olds, ky, kp, ek, hkp, hD11, hz11, nx⟩ => ?_
      subst ek
      obtain rfl : z = Value.ref kp := r10
      exact storeT (X := X.blk s3 H3 scope ce fp) room I11 hD11 hkp hz11 r11 fun s12 I12 => over I12 nx
/-- {k: v for target in iter if ..}, the keys tuples -/
theorem pe_dcT {kx vx tg iter : Expr} {ifs : List Expr} {scope : Scope} {own : List (Str × Nat)} {pos : Pos} {wi : TI} {g : TG} {tt : TT} {tk tv : TE} (hc : X.calm = true) (room : X.A.units < cLine) (hN : X.N.Nodup) (hi : PI X tg iter wi) (ok : BlkOk X.N X.env.scope scope own)
    (hg : ∀ (s : Shared) (H : Hp) (C : Addr) (cl : List (Str × Addr)) (fp : List Addr), PG (X.blk s H scope (compEnvC scope cl C X.env) fp) tg g)
    (ht : ∀ (s : Shared) (H : Hp) (C : Addr) (cl : List (Str × Addr)) (fp : List Addr), PTs (X.blk s H scope (compEnvC scope cl C X.env) fp) ifs tt)
    (hk : ∀ (s : Shared) (H : Hp) (C : Addr) (cl : List (Str × Addr)) (fp : List Addr), PE (X.blk s H scope (compEnvC scope cl C X.env) fp) kx tk)
    (he : ∀ (s : Shared) (H : Hp) (C : Addr) (cl : List (Str × Addr)) (fp : List Addr), PE (X.blk s H scope (compEnvC scope cl C X.env) fp) vx tv)
    (hs : ∀ x, foldedSetIterable iter X.env x = pure x := by intro _; rfl) : PE X (.DictComp kx vx [⟨tg, iter, ifs, 0⟩] scope pos) (tDcT wi g tt tk tv (own.map (·.2))) := by
  refine ⟨fun pins s σ H Q I h => ?_⟩
  rw [arm_eval_DictComp]
  exact dict_block hN I hi ok hs h (loop_one hc room hg ht hk he)
end

/-! ### two clauses -/
theorem dturn_out (kx vx t0 i0 t1 i1 : Expr) (c0 c1 : List Expr) (scope : Scope) (pos : Pos) (it acc : Value) (env : Env) :
    compTurn (.DictComp kx vx [⟨t0, i0, c0, 0⟩, ⟨t1, i1, c1, 0⟩] scope pos) 0 it acc env = (do
      standAt i0.pos
      match ← pyNext it with
      | none => pure (.done .next)
      | some w =>
        letOwnedTupleGo t0 it w
        assign t0 env w
        let mut yes := true
        for c in c0 do
          if yes then yes ← isTrue c env (eval c env)
        if yes then
          let src ← eval i1 env
          standAt i1.pos
          let src ← foldedSetIterable i1 env src
          let _ ← runOwn (.compStart (.DictComp kx vx [⟨t0, i0, c0, 0⟩, ⟨t1, i1, c1, 0⟩] scope pos) 1 (← holding [src] (pyIter src)) acc env) env
        again (.compLoop (.DictComp kx vx [⟨t0, i0, c0, 0⟩, ⟨t1, i1, c1, 0⟩] scope pos) 0 it acc env)) := by rfl
theorem dturn_in (kx vx t0 i0 t1 i1 : Expr) (c0 c1 : List Expr) (scope : Scope) (pos : Pos) (it : Value) (D : Addr) (env : Env) :
    compTurn (.DictComp kx vx [⟨t0, i0, c0, 0⟩, ⟨t1, i1, c1, 0⟩] scope pos) 1 it (.ref D) env = (do
      standAt i1.pos
      match ← pyNext it with
      | none => pure (.done .next)
      | some w =>
        letOwnedTupleGo t1 it w
        assign t1 env w
        let mut yes := true
        for c in c1 do
          if yes then yes ← isTrue c env (eval c env)
        if yes then
          (do
            let kk ← eval kx env
            let ww ← holding [kk] (eval vx env)
            standAt { kx.pos with endLine := vx.pos.endLine, endCol := vx.pos.endCol }
            holding [kk, ww] (dictSet D kk ww))
        again (.compLoop (.DictComp kx vx [⟨t0, i0, c0, 0⟩, ⟨t1, i1, c1, 0⟩] scope pos) 1 it (.ref D) env)) := by rfl
section
variable {prog : Program} {w : World} {A : Around} {R : Result → Shared → Prop} {s : Shared} {kx vx t0 i0 t1 i1 : Expr} {c0 c1 : List Expr} {scope : Scope} {pos : Pos} {it acc : Value} {env : Env}
/-- the tests of a clause -/
abbrev testsDo (cs : List Expr) (env : Env) : Sem Bool := forIn cs true fun c r => if r = true then do let ok ← isTrue c env (eval c env); pure (ForInStep.yield ok) else pure (ForInStep.yield r)
abbrev fails (prog : Program) (w : World) (A : Around) (R : Result → Shared → Prop) (env : Env) : Value → Shared → Prop := notedBy (model prog w) A env fun e s' => R (.error e) s'
theorem dloop_out (hs : ∀ x, foldedSetIterable i1 env x = pure x) (I : Nat → Shared → Prop)
    (turn : ∀ n s, I n s → wpAny (model prog w) A (pyNext it) (fun r sa => match r with
      | none => R (.ok .next) sa
      | some v => wpAny (model prog w) A (letOwnedTupleGo t0 it v) (fun _ sb => wpAny (model prog w) A (assign t0 env v) (fun _ sc => wpAny (model prog w) A (testsDo c0 env) (fun ok sd =>
          if ok = true then wpAny (model prog w) A (eval i1 env) (fun x se => wpAny (model prog w) A (pyIter x) (fun it1 sf =>
              codeAny (model prog w) A (.compStart (.DictComp kx vx [⟨t0, i0, c0, 0⟩, ⟨t1, i1, c1, 0⟩] scope pos) 1 it1 acc env) (fun r s' => match r with
                | .ok _ => ∃ m, m < n ∧ I m s'
                | .error _ => False) sf) (fails prog w A R env) se) (fails prog w A R env) sd
            else ∃ m, m < n ∧ I m sd) (fails prog w A R env) sc) (fails prog w A R env) sb) (fails prog w A R env) sa) (fails prog w A R env) s)
    (n : Nat) (h : I n s) : codeAny (model prog w) A (.compLoop (.DictComp kx vx [⟨t0, i0, c0, 0⟩, ⟨t1, i1, c1, 0⟩] scope pos) 0 it acc env) R s := by
  refine codeAny_loop rfl I (fun n s hI => ?_) n h
  show wpAny _ A ((compTurn (.DictComp kx vx [⟨t0, i0, c0, 0⟩, ⟨t1, i1, c1, 0⟩] scope pos) 0 it acc env).onRaise (fun x => do noteFrame x env; theTreesLotGoes x)) _ _ s
  refine wpAny_noted ?_
  rw [dturn_out]
  refine wpAny_bind (wpAny_standAt (wpAny_bind (thnF' (turn n s hI) fun r sa ha => ?_)))
  cases r with
  | none => exact wpAny_pure ha
  | some v =>
    refine wpAny_bind (thnF' ha fun _ sb hb => wpAny_bind (thnF' hb fun _ sc hcc => wpAny_bind (thnF' hcc fun ok sd hd => ?_)))
    cases ok with
    | false => exact wpAny_pure ⟨rfl, hd⟩
    | true =>
      refine wpAny_bind (thnF' hd fun x se hx => wpAny_bind (wpAny_standAt (wpAny_bind (wpAny_of_eq (hs x) (wpAny_bind (wpAny_holding (thnF' hx fun it1 sf hf => ?_)))))))
      refine wpAny_bind (wpAny_runOwn ?_)
      rw [Around.mark_none]
      refine codeAny_mono hf fun r s' hr => ?_
      cases r with
      | ok f =>
        first
          | exact wpAny_pure ⟨rfl, hr⟩
          | exact wpAny_bind (wpAny_pure (wpAny_pure ⟨rfl, hr⟩))
      | error e => exact hr.elim
theorem dloop_in {D : Addr} (I : Nat → Shared → Prop)
    (turn : ∀ n s, I n s → wpAny (model prog w) A (pyNext it) (fun r sa => match r with
      | none => R (.ok .next) sa
      | some v => wpAny (model prog w) A (letOwnedTupleGo t1 it v) (fun _ sb => wpAny (model prog w) A (assign t1 env v) (fun _ sc => wpAny (model prog w) A (testsDo c1 env) (fun ok sd =>
          if ok = true then wpAny (model prog w) A (eval kx env) (fun kk se => wpAny (model prog w) A (eval vx env) (fun ww sf =>
              wpAny (model prog w) A (dictSet D kk ww) (fun _ sg => ∃ m, m < n ∧ I m sg) (fails prog w A R env) sf) (fails prog w A R env) se) (fails prog w A R env) sd
            else ∃ m, m < n ∧ I m sd) (fails prog w A R env) sc) (fails prog w A R env) sb) (fails prog w A R env) sa) (fails prog w A R env) s)
    (n : Nat) (h : I n s) : codeAny (model prog w) A (.compLoop (.DictComp kx vx [⟨t0, i0, c0, 0⟩, ⟨t1, i1, c1, 0⟩] scope pos) 1 it (.ref D) env) R s := by
  refine codeAny_loop rfl I (fun n s hI => ?_) n h
  show wpAny _ A ((compTurn (.DictComp kx vx [⟨t0, i0, c0, 0⟩, ⟨t1, i1, c1, 0⟩] scope pos) 1 it (.ref D) env).onRaise (fun x => do noteFrame x env; theTreesLotGoes x)) _ _ s
  refine wpAny_noted ?_
  rw [dturn_in]
  refine wpAny_bind (wpAny_standAt (wpAny_bind (thnF' (turn n s hI) fun r sa ha => ?_)))
  cases r with
  | none => exact wpAny_pure ha
  | some v =>
    refine wpAny_bind (thnF' ha fun _ sb hb => wpAny_bind (thnF' hb fun _ sc hcc => wpAny_bind (thnF' hcc fun ok sd hd => ?_)))
    cases ok with
    | false => exact wpAny_pure ⟨rfl, hd⟩
    | true =>
      exact wpAny_bind (wpAny_bind (thnF' hd fun kk se hk => wpAny_bind (wpAny_holding (thnF' hk fun ww sf hf => wpAny_bind (wpAny_standAt (wpAny_holding (thnF' hf fun _ sg hg => wpAny_pure ⟨rfl, hg⟩)))))))
/-- the second clause begins: its iterator is asked for itself once more, or is not -/
theorem dstart_in (h0 : codeAny (model prog w) A (.compLoop (.DictComp kx vx [⟨t0, i0, c0, 0⟩, ⟨t1, i1, c1, 0⟩] scope pos) 1 it acc env) R s)
    (h : wpAny (model prog w) A (pyIter it) (fun it' s' => codeAny (model prog w) A (.compLoop (.DictComp kx vx [⟨t0, i0, c0, 0⟩, ⟨t1, i1, c1, 0⟩] scope pos) 1 it' acc env) R s') (fails prog w A R env) s) :
    codeAny (model prog w) A (.compStart (.DictComp kx vx [⟨t0, i0, c0, 0⟩, ⟨t1, i1, c1, 0⟩] scope pos) 1 it acc env) R s := by
  refine codeAny_of_tree ?_
  show wpAny _ _ ((compStart (.DictComp kx vx [⟨t0, i0, c0, 0⟩, ⟨t1, i1, c1, 0⟩] scope pos) 1 it acc env).onRaise (fun x => do noteFrame x env; standAt theWindowsPlace)) _ _ s
  refine wpAny_notedAt ?_
  unfold compStart
  show wpAny _ _ (ask >>= _) _ _ s
  refine wpAny_bind (wpAny_askSetting (wpAny_ite ?_))
  split
  · first
      | exact wpAny_bind (wpAny_pure (wpAny_pure (And.intro rfl h0)))
      | exact wpAny_pure (And.intro rfl h0)
  · first
      | exact wpAny_bind (wpAny_rule (wpAny_bind (wpAny_standAt (wpAny_bind (thnF' h fun it' s' h' => wpAny_pure (And.intro rfl h'))))))
      | (refine wpAny_bind (wpAny_rule ?_); show wpAny _ _ (standAt i1.pos >>= _) _ _ s; exact wpAny_bind (wpAny_standAt (wpAny_bind (thnF' h fun it' s' h' => wpAny_pure (And.intro rfl h')))))
end
section
variable {X : Cx}
/-- two clauses: behind the first one's store and tests the second source's own loop, from which Nx is reached -/
def RdT2 (g : TG) (tt : TT) (wi1 : TI) (g1 : TG) (tt1 : TT) (tk tv : TE) (vs vs1 : List Nat) (σ : L2.St) (Q : VK) (J : It) (D : Addr) (H1 : Hp) : Prop := ∃ W : Nat → Nat → Hp → Prop, (∃ m, W 0 m (upd H1 D (.dT []))) ∧ ∀ i m H, W i m H →
  (J.stop i H ∧ Q (.ref D) H) ∨ (J.go i H ∧ ∃ Nx : Hp → Prop, (∀ H', Nx H' → ∃ m', m' < m ∧ W (i + 1) m' H') ∧ ∀ x H', J.yld i H x H' → g x (wipe σ vs) H' fun σ2 H2 => wipe σ2 vs = wipe σ vs ∧ tt σ2 H2 fun b H3 =>
    if b = true then wi1 σ2 H3 fun J1 H4 => ∃ W1 : Nat → Nat → Hp → Prop, (∃ m, W1 0 m H4) ∧ ∀ j k H, W1 j k H →
      (J1.stop j H ∧ Nx H) ∨ (J1.go j H ∧ ∃ Nx1 : Hp → Prop, (∀ H', Nx1 H' → ∃ k', k' < k ∧ W1 (j + 1) k' H') ∧ ∀ x H', J1.yld j H x H' → g1 x (wipe σ2 vs1) H' fun σ3 H5 => wipe σ3 vs1 = wipe σ2 vs1 ∧ tt1 σ3 H5 fun b H6 =>
        if b = true then tk σ3 H6 fun y H7 => tv σ3 H7 fun z H8 => ∃ old ky kp, y = .ref kp ∧ H8 kp = some (.tup (ky.map kV)) ∧ H8 D = some (.dT old) ∧ old.length < sizeLine ∧ Nx1 (upd H8 D (.dT (putK old ky z))) else Nx1 H6)
    else Nx H3)
def tDcT2 (wi : TI) (g : TG) (tt : TT) (wi1 : TI) (g1 : TG) (tt1 : TT) (tk tv : TE) (vs vs1 : List Nat) : TE := fun σ H Q => wi σ H fun J H1 => ∀ D, H1 D = none → RdT2 g tt wi1 g1 tt1 tk tv vs vs1 σ Q J D H1
theorem loop_two {kx vx tg iter tg1 iter1 : Expr} {ifs ifs1 : List Expr} {scope : Scope} {own : List (Str × Nat)} {vs1 : List Nat} {pos : Pos} {wi1 : TI} {g g1 : TG} {tt tt1 : TT} {tk tv : TE} {σ : L2.St} {Q : VK} (hc : X.calm = true) (room : X.A.units < cLine) (hv : ∀ i ∈ vs1, i ∈ own.map (·.2))
    (hg : ∀ (s : Shared) (H : Hp) (C : Addr) (cl : List (Str × Addr)) (fp : List Addr), PG (X.blk s H scope (compEnvC scope cl C X.env) fp) tg g)
    (ht : ∀ (s : Shared) (H : Hp) (C : Addr) (cl : List (Str × Addr)) (fp : List Addr), PTs (X.blk s H scope (compEnvC scope cl C X.env) fp) ifs tt)
    (hi1 : ∀ (s : Shared) (H : Hp) (C : Addr) (cl : List (Str × Addr)) (fp : List Addr), PI (X.blk s H scope (compEnvC scope cl C X.env) fp) tg1 iter1 wi1)
    (hg1 : ∀ (s : Shared) (H : Hp) (C : Addr) (cl : List (Str × Addr)) (fp : List Addr), PG (X.blk s H scope (compEnvC scope cl C X.env) fp) tg1 g1)
    (ht1 : ∀ (s : Shared) (H : Hp) (C : Addr) (cl : List (Str × Addr)) (fp : List Addr), PTs (X.blk s H scope (compEnvC scope cl C X.env) fp) ifs1 tt1)
    (hk : ∀ (s : Shared) (H : Hp) (C : Addr) (cl : List (Str × Addr)) (fp : List Addr), PE (X.blk s H scope (compEnvC scope cl C X.env) fp) kx tk)
    (he : ∀ (s : Shared) (H : Hp) (C : Addr) (cl : List (Str × Addr)) (fp : List Addr), PE (X.blk s H scope (compEnvC scope cl C X.env) fp) vx tv)
    (hs1 : ∀ env x, foldedSetIterable iter1 env x = pure x) :
    LoopOf X (.DictComp kx vx [⟨tg, iter, ifs, 0⟩, ⟨tg1, iter1, ifs1, 0⟩] scope pos) tg scope own σ Q (RdT2 g tt wi1 g1 tt1 tk tv (own.map (·.2)) vs1 σ Q) := by
  intro J D it H1 s3 s4 fp tn cl C fresh rd T st4 nfp I4
  obtain ⟨W, ⟨m0, w0⟩, turn⟩ := rd
  generalize hce : compEnvC scope cl C X.env = ce at I4 ⊢
  have pg := hg s3 (upd H1 D (.dT [])) C cl fp
  have pt := ht s3 (upd H1 D (.dT [])) C cl fp
  have pi1 := hi1 s3 (upd H1 D (.dT [])) C cl fp
  have pg1 := hg1 s3 (upd H1 D (.dT [])) C cl fp
  have pt1 := ht1 s3 (upd H1 D (.dT [])) C cl fp
  have pk := hk s3 (upd H1 D (.dT [])) C cl fp
  have pe := he s3 (upd H1 D (.dT [])) C cl fp
  rw [hce] at pg pt pi1 pg1 pt1 pk pe
  generalize upd H1 D (.dT []) = H3 at I4 pg pt pi1 pg1 pt1 pk pe w0 nfp ⊢
  have own1 : ∀ {σ' : L2.St} {H' : Hp} {s' : Shared}, Inv (X.blk s3 H3 scope ce fp) [] σ' H' s' → (∀ b ∈ fp, H' b = none) → ∀ b ∈ fp, FpOk (X.blk s3 H3 scope ce fp) [] H' b := by
    intro σ' H' s' I' hn b hb
    exact ⟨hn b hb, (I'.ok.exf b hb).1, I'.ok.exfs b hb, .inl hb, fun x c e => (I'.ok.exf b hb).2 x c e, fun p hp => absurd (show p ∈ ([] : List (Addr × Obj)) ++ [] from hp) (by simp)⟩
  refine dloop_out (hs1 ce) (fun n s' => ∃ i H', Inv (X.blk s3 H3 scope ce fp) [] (wipe σ (own.map (·.2))) H' s' ∧ tn i s'.heap ∧ (∀ b ∈ fp, H' b = none) ∧ W i n H') ?_ m0 ⟨0, H3, I4, st4, nfp, w0⟩
  rintro n s5 ⟨i, H5, I5, st5, n5, w5⟩
  rcases turn i n H5 w5 with ⟨stop, qq⟩ | ⟨go, Nx, hNx, step⟩
  · refine thnF (T.done (X.blk s3 H3 scope ce fp) rfl rfl rfl hc i [] s5 _ H5 (fun _ _ => False) I5 (own1 I5 n5) st5 stop) fun r s6 ⟨hr, I6⟩ => ?_
    subst hr
    exact ⟨rfl, H5, I6, qq⟩
  · refine thnF (T.item (X.blk s3 H3 scope ce fp) rfl rfl rfl hc i [] s5 _ H5 (fun _ _ => False) I5 (own1 I5 n5) st5 go) fun r s6 ⟨u, hr, h6⟩ => ?_
    subst hr
    refine thnF h6 fun _ s7 ⟨x, H7, I7, r7, y7, st7, n7⟩ => ?_
    have I7' := I7.pinned (own1 I7 n7) (T.obj _ _ st7)
    refine thnF (pg.run _ s7 _ H7 x u _ I7' r7 (step x H7 y7)) fun _ s8 ⟨σ8, H8, I8, hw8, q8⟩ => ?_
    refine thnF (pt.run _ s8 σ8 H8 _ I8 q8) fun b s9 ⟨H9, I9, q9⟩ => ?_
    have over : ∀ {σ9 : L2.St} {s' : Shared} {H' : Hp}, (wipe σ (own.map (·.2))).length = σ9.length → (∀ (j : Nat) v, (wipe σ (own.map (·.2)))[j]? = some (some v) → σ9[j]? = some (some v)) →
        Inv (X.blk s3 H3 scope ce fp) ([] ++ pinsAt fp s7.heap) σ9 H' s' → Nx H' → ∃ m, m < n ∧ ∃ i H', Inv (X.blk s3 H3 scope ce fp) [] (wipe σ (own.map (·.2))) H' s' ∧ tn i s'.heap ∧ (∀ b ∈ fp, H' b = none) ∧ W i m H' := by
      intro σ9 s' H' hl hkk I' nx
      obtain ⟨m', hm, w'⟩ := hNx H' nx
      obtain ⟨a1, a2, a3⟩ := turn_over (σ0 := wipe σ (own.map (·.2))) T hl hkk st7 I'
      exact ⟨m', hm, i + 1, H', a1, a2, a3, w'⟩
    have hl8 : (wipe σ (own.map (·.2))).length = σ8.length := by rw [← hw8, wipe_length]
    have hk8 : ∀ (j : Nat) v, (wipe σ (own.map (·.2)))[j]? = some (some v) → σ8[j]? = some (some v) := fun j v e => by
      rw [← hw8] at e
      exact (wipe_some e).1
    cases b with
    | false =>
      simp only [Bool.false_eq_true, if_false] at q9 ⊢
      exact over hl8 hk8 I9 q9
    | true =>
      simp only [if_true] at q9 ⊢
      refine thnF (pi1.run _ s9 σ8 H9 _ I9 q9) fun xv s10 hx => thnF hx fun itv s11 h11 => ?_
      obtain ⟨it1, fp1, tn1, J1, H11, rfl, I11, T1, st11, f11, W1, ⟨m1, w1⟩, turn1⟩ := h11
      have own2 : ∀ {H' : Hp}, (∀ b ∈ fp1, H' b = none) → ∀ b ∈ fp1, FpOk (X.blk s3 H3 scope ce fp) ([] ++ pinsAt fp s7.heap) H' b := fun hn b hb => ⟨hn b hb, (f11 b hb).2⟩
      have hl9 : (wipe σ (own.map (·.2))).length = (wipe σ8 vs1).length := hl8.trans (wipe_length σ8 vs1).symm
      have hk9 : ∀ (j : Nat) v, (wipe σ (own.map (·.2)))[j]? = some (some v) → (wipe σ8 vs1)[j]? = some (some v) := fun j v e => by
        rw [← hw8] at e
        obtain ⟨e1, e2⟩ := wipe_some e
        rw [wipe_out fun z => e2 (hv j z)]
        exact e1
      have inner : codeAny (model X.prog X.w) X.A (.compLoop (.DictComp kx vx [⟨tg, iter, ifs, 0⟩, ⟨tg1, iter1, ifs1, 0⟩] scope pos) 1 (.ref it1) (.ref D) ce)
          (fun r s' => match r with
            | .ok _ => ∃ m, m < n ∧ ∃ i H', Inv (X.blk s3 H3 scope ce fp) [] (wipe σ (own.map (·.2))) H' s' ∧ tn i s'.heap ∧ (∀ b ∈ fp, H' b = none) ∧ W i m H'
            | .error _ => False) s11 := by
        refine dloop_in (fun k s' => ∃ j H', Inv (X.blk s3 H3 scope ce fp) ([] ++ pinsAt fp s7.heap) (wipe σ8 vs1) H' s' ∧ tn1 j s'.heap ∧ (∀ b ∈ fp1, H' b = none) ∧ W1 j k H') ?_ m1
          ⟨0, H11, I11.weak (wipe_length _ _) (fun j v e => (wipe_some e).1), st11, fun b hb => (f11 b hb).1, w1⟩
        rintro k s12 ⟨j, H12, I12, st12, n12, w12⟩
        rcases turn1 j k H12 w12 with ⟨stop1, nx1⟩ | ⟨go1, Nx1, hNx1, step1⟩
        · refine thnF (T1.done (X.blk s3 H3 scope ce fp) rfl rfl rfl hc j _ s12 (wipe σ8 vs1) H12 (fun _ _ => False) I12 (own2 n12) st12 stop1) fun r s13 ⟨hr, I13⟩ => ?_
          subst hr
          exact over hl9 hk9 I13 nx1
        · refine thnF (T1.item (X.blk s3 H3 scope ce fp) rfl rfl rfl hc j _ s12 (wipe σ8 vs1) H12 (fun _ _ => False) I12 (own2 n12) st12 go1) fun r s13 ⟨u1, hr, h13⟩ => ?_
          subst hr
          refine thnF h13 fun _ s14 ⟨x1, H14, I14, r14, y14, st14, n14⟩ => ?_
          have I14' := I14.pinned (own2 n14) (T1.obj _ _ st14)
          refine thnF (pg1.run _ s14 (wipe σ8 vs1) H14 x1 u1 _ I14' r14 (step1 x1 H14 y14)) fun _ s15 ⟨σ15, H15, I15, hw15, q15⟩ => ?_
          refine thnF (pt1.run _ s15 σ15 H15 _ I15 q15) fun b1 s16 ⟨H16, I16, q16⟩ => ?_
          have over1 : ∀ {s' : Shared} {H' : Hp}, Inv (X.blk s3 H3 scope ce fp) (([] ++ pinsAt fp s7.heap) ++ pinsAt fp1 s14.heap) σ15 H' s' → Nx1 H' →
              ∃ m, m < k ∧ ∃ j H', Inv (X.blk s3 H3 scope ce fp) ([] ++ pinsAt fp s7.heap) (wipe σ8 vs1) H' s' ∧ tn1 j s'.heap ∧ (∀ b ∈ fp1, H' b = none) ∧ W1 j m H' := by
            intro s' H' I' nx
            obtain ⟨m', hm, w'⟩ := hNx1 H' nx
            obtain ⟨a1, a2, a3⟩ := turn_over (σ0 := wipe σ8 vs1) T1 (by rw [← hw15, wipe_length]) (fun j v e => by rw [← hw15] at e; exact (wipe_some e).1) st14 I'
            exact ⟨m', hm, j + 1, H', a1, a2, a3, w'⟩
          cases b1 with
          | false =>
            simp only [Bool.false_eq_true, if_false] at q16 ⊢
            exact over1 I16 q16
          | true =>
            simp only [if_true] at q16 ⊢
            refine thnF (pk.run _ s16 σ15 H16 _ I16 q16) fun z s17 ⟨yk, H17, I17, r17, q17⟩ => ?_
            refine thnF (pe.run _ s17 σ15 H17 _ I17 q17) fun z2 s18 ⟨yv, H18, I18, r18, olds, ky, kp, ek, hkp, hD18, hz18, nx⟩ => ?_
            subst ek
            obtain rfl : z = Value.ref kp := r17
            exact storeT (X := X.blk s3 H3 scope ce fp) room I18 hD18 hkp hz18 r18 fun s19 I19 => over1 I19 nx
      exact dstart_in inner (T1.self X.A 0 _ _ _ st11 inner)
/-- {k: v for tg in iter for tg1 in iter1}, the keys tuples -/
theorem pe_dcT2 {kx vx tg iter tg1 iter1 : Expr} {ifs ifs1 : List Expr} {scope : Scope} {own : List (Str × Nat)} {vs1 : List Nat} {pos : Pos} {wi wi1 : TI} {g g1 : TG} {tt tt1 : TT} {tk tv : TE} (hc : X.calm = true) (room : X.A.units < cLine) (hN : X.N.Nodup) (hi : PI X tg iter wi)
    (ok : BlkOk X.N X.env.scope scope own) (hv : ∀ i ∈ vs1, i ∈ own.map (·.2))
    (hg : ∀ (s : Shared) (H : Hp) (C : Addr) (cl : List (Str × Addr)) (fp : List Addr), PG (X.blk s H scope (compEnvC scope cl C X.env) fp) tg g)
    (ht : ∀ (s : Shared) (H : Hp) (C : Addr) (cl : List (Str × Addr)) (fp : List Addr), PTs (X.blk s H scope (compEnvC scope cl C X.env) fp) ifs tt)
    (hi1 : ∀ (s : Shared) (H : Hp) (C : Addr) (cl : List (Str × Addr)) (fp : List Addr), PI (X.blk s H scope (compEnvC scope cl C X.env) fp) tg1 iter1 wi1)
    (hg1 : ∀ (s : Shared) (H : Hp) (C : Addr) (cl : List (Str × Addr)) (fp : List Addr), PG (X.blk s H scope (compEnvC scope cl C X.env) fp) tg1 g1)
    (ht1 : ∀ (s : Shared) (H : Hp) (C : Addr) (cl : List (Str × Addr)) (fp : List Addr), PTs (X.blk s H scope (compEnvC scope cl C X.env) fp) ifs1 tt1)
    (hk : ∀ (s : Shared) (H : Hp) (C : Addr) (cl : List (Str × Addr)) (fp : List Addr), PE (X.blk s H scope (compEnvC scope cl C X.env) fp) kx tk)
    (he : ∀ (s : Shared) (H : Hp) (C : Addr) (cl : List (Str × Addr)) (fp : List Addr), PE (X.blk s H scope (compEnvC scope cl C X.env) fp) vx tv)
    (hs : ∀ x, foldedSetIterable iter X.env x = pure x := by intro _; rfl) (hs1 : ∀ env x, foldedSetIterable iter1 env x = pure x := by intro _ _; rfl) :
    PE X (.DictComp kx vx [⟨tg, iter, ifs, 0⟩, ⟨tg1, iter1, ifs1, 0⟩] scope pos) (tDcT2 wi g tt wi1 g1 tt1 tk tv (own.map (·.2)) vs1) := by
  refine ⟨fun pins s σ H Q I h => ?_⟩
  rw [arm_eval_DictComp]
  exact dict_block hN I hi ok hs h (loop_two hc room hv hg ht hi1 hg1 ht1 hk he hs1)
end
end Nt

/-! zip of a text and a list; an own class's subscript. -/
namespace Nt
open PySem PySem.Spec PyProof.Rows L2

/-- signs of the text x beside the items of the list at b -/
def ItSL (K : PySem.W.Frag) (x : Str) (b : Addr) : It :=
  ⟨fun i H => ∃ ys c y, SqL K H b ys ∧ x.cps[i]? = some c ∧ ys[i]? = some y,
    fun i H v H' => ∃ T c y, v = .ref T ∧ H T = none ∧ H' = upd H T (.tup [.str ⟨#[c]⟩, y]) ∧ x.cps[i]? = some c ∧ ∀ ys, SqL K H b ys → ys[i]? = some y,
    fun i H => ∃ ys, SqL K H b ys ∧ i ≤ x.cps.size ∧ i ≤ ys.length ∧ (i = x.cps.size ∨ i = ys.length)⟩
theorem turn_SL {P : Program} {w : World} {K : PySem.W.Frag} {elts : List Expr} {kk : Nat} {tpos : Pos} {x : Str} {t : Tok} {b z TI TO i1 i2 : Addr} (S : ZipSep2 z TI TO i1 i2 [i1] [i2, b]) :
    Turn P w K (.Tuple elts kk tpos) (ItSL K x b) [z, TI, TO, i1, i2] z
      (fun i h => IsZip h z TI TO .none ∧ IsTupOf2 h TI (.ref i1) (.ref i2) ∧ (∃ p q, IsTupOf2 h TO p q) ∧ h.IsStrIter i1 (strIterType x) x t i ∧ h.IsListIter i2 b i) where
  mem := by simp
  obj := by
    rintro i h ⟨hz, hTI, ⟨p, q, hTO⟩, ⟨o1, e1, _, d1⟩, ⟨o2, e2, _, d2⟩⟩ c hc
    have which : c = z ∨ c = TI ∨ c = TO ∨ c = i1 ∨ c = i2 := by simpa using hc
    rcases which with e | e | e | e | e <;> rw [e]
    · exact ⟨_, hz, fun v q => nomatch q⟩
    · exact ⟨_, hTI, fun v q => nomatch q⟩
    · exact ⟨_, hTO, fun v q => nomatch q⟩
    · exact ⟨o1, e1, fun v q => by rw [d1] at q; cases q⟩
    · exact ⟨o2, e2, fun v q => by rw [d2] at q; cases q⟩
  keep := by
    rintro i h h' ⟨hz, hTI, ⟨p, q, hTO⟩, h1, h2⟩ k
    exact ⟨k z (by simp) _ hz, k TI (by simp) _ hTI, ⟨p, q, k TO (by simp) _ hTO⟩, (let ⟨o, e, r⟩ := h1; ⟨o, k i1 (by simp) o e, r⟩), h2.at fun o q => k i2 (by simp) o q⟩
  item := by
    intro X hP hw hK hc i pins s σ H E I hf st hg
    subst hP hw hK
    obtain ⟨hz, hTI, ⟨p0, q0, hTO⟩, h1, h2⟩ := st
    obtain ⟨ys, c, y, hqy, hx, hy⟩ := hg
    obtain ⟨its, rv, pl, _⟩ := I.list hqy
    obtain ⟨u2, hu2, ru2⟩ := rv.get hy
    have calmA : X.A.in1.handled = none := I.ok.hd hc
    have hzl : z < s.heap.objs.size := Heap.lt_size hz
    have lt1 : i < x.cps.size := (Array.getElem?_eq_some_iff.mp hx).1
    have lt2 : i < its.toArray.size := by
      have := (List.getElem?_eq_some_iff.mp hu2).1
      simpa using this
    have bi2 : b ≠ i2 := fun e => by
      obtain ⟨o2, e2, c2, _⟩ := h2
      obtain ⟨ol, n, el, cl, _⟩ := pl
      rw [e, e2] at el
      cases el
      rw [c2] at cl
      exact absurd cl (by decide)
    refine wpAny_pyNext_zipD2_item S (Draws.text calmA i1 x t) (Draws.list calmA i2 b bi2 its.toArray) hz hTI hTO h1 ⟨h2, pl.isList⟩ lt1 lt2
      fun x1 x2 h' tk hx1 hx2 z' TO' s1 s2 hT hsz hk => ?_
    obtain ⟨c', u', hc', rfl⟩ := hx1
    rw [hx] at hc'
    cases hc'
    have e2 : x2 = u2 := by
      have q1 : its[i]? = some x2 := by simpa using hx2
      rw [hu2] at q1
      exact (Option.some.inj q1).symm
    subst e2
    refine ⟨_, rfl, wpAny_letOwnedTupleGo_zip (s := { s with heap := h', toks := tk }) z' fun h'' z'' sb => ?_⟩
    have hT2 : h''.get? s.heap.objs.size = some { cls := .type "tuple", data := .seq #[.str ⟨#[c]⟩ u', x2] } := (sb.2 _ (Nat.ne_of_gt hzl)).trans hT
    have new : ObjOk X.prog X.w (upd H s.heap.objs.size (.tup [.str ⟨#[c]⟩, y])) h'' s.heap.objs.size (.tup [.str ⟨#[c]⟩, y]) :=
      ⟨by show 2 ≤ sizeLine; decide, [.str ⟨#[c]⟩ u', x2], .cons ⟨_, rfl⟩ (.cons ru2 .nil), ⟨_, hT2, rfl, _, rfl⟩⟩
    have out : ∀ {d : Addr}, d ∉ [z, TI, TO, i1, i2] → d ≠ z ∧ d ≠ TO ∧ d ≠ i1 ∧ d ≠ i2 := fun hb => ⟨fun q => hb (by simp [q]), fun q => hb (by simp [q]), fun q => hb (by simp [q]), fun q => hb (by simp [q])⟩
    have I1 : Inv X pins σ (upd H s.heap.objs.size (.tup [.str ⟨#[c]⟩, y])) { s with heap := h'', toks := tk } :=
      I.turnedNew (t' := tk) (ch := [z, TI, TO, i1, i2]) (fun d o hb q => (sb.2 d (out hb).1).trans (hk d o (out hb).1 (out hb).2.1 (out hb).2.2.1 (out hb).2.2.2 q)) hf (Nat.le_refl _) new
    refine ⟨.ref s.heap.objs.size, _, I1, rfl, ⟨_, c, y, rfl, I.hok.fresh (Nat.le_refl _), rfl, hx, fun l hl => by rw [I.list_inj hl hqy]; exact hy⟩, ⟨z'', ?_, ⟨.str ⟨#[c]⟩ u', x2, ?_⟩, ?_, ?_⟩, fun d hd => ?_⟩
    · exact (sb.2 _ S.TIz).trans (hk _ _ S.TIz S.TITO S.TIi1 S.TIi2 hTI)
    · exact (sb.2 _ S.TOz).trans TO'
    · obtain ⟨o, e, r⟩ := s1
      exact ⟨o, (sb.2 _ S.zi1.symm).trans e, r⟩
    · exact s2.1.at fun o q => (sb.2 _ S.zi2.symm).trans q
    · have hlt : d < s.heap.objs.size := by
        have which : d = z ∨ d = TI ∨ d = TO ∨ d = i1 ∨ d = i2 := by simpa using hd
        rcases which with e | e | e | e | e <;> rw [e]
        · exact hzl
        · exact Heap.lt_size hTI
        · exact Heap.lt_size hTO
        · obtain ⟨_, e1, _⟩ := h1; exact Heap.lt_size e1
        · obtain ⟨_, e2, _⟩ := h2; exact Heap.lt_size e2
      rw [upd_ne (Nat.ne_of_lt hlt)]
      exact (hf d hd).1
  done := by
    intro X hP hw hK hc i pins s σ H E I hf st hg
    subst hP hw hK
    obtain ⟨hz, hTI, ⟨p0, q0, hTO⟩, h1, h2⟩ := st
    obtain ⟨ys, hqy, le1, le2, hend⟩ := hg
    obtain ⟨its, rv, pl, _⟩ := I.list hqy
    have calmA : X.A.in1.handled = none := I.ok.hd hc
    have len : its.toArray.size = ys.length := by rw [List.size_toArray]; exact rv.length.symm
    have bi2 : b ≠ i2 := fun e => by
      obtain ⟨o2, e2, c2, _⟩ := h2
      obtain ⟨ol, n, el, cl, _⟩ := pl
      rw [e, e2] at el
      cases el
      rw [c2] at cl
      exact absurd cl (by decide)
    refine wpAny_pyNext_zipD2_end S (Draws.text calmA i1 x t) (Draws.list calmA i2 b bi2 its.toArray) hz hTI hTO h1 ⟨h2, pl.isList⟩ le1 (by rw [len]; exact le2) (by rw [len]; exact hend) fun h' tk hk => ⟨rfl, ?_⟩
    exact I.turnedL (t' := tk) (ch := [z, TI, TO, i1, i2]) (fun d o hb q => hk d o (fun q' => hb (by simp [q'])) (fun q' => hb (by simp [q'])) (fun q' => hb (by simp [q'])) (fun q' => hb (by simp [q'])) q) hf
  self := fun A i s Q E st h => wpAny_pyIter_zip st.1 h
def iSL (K : PySem.W.Frag) (ta : TA) : TI := fun σ H R => ta σ H fun vs H1 => ∃ x b ys, vs = [.str x, .ref b] ∧ SqL K H1 b ys ∧ R (ItSL K x b) H1
/-- for a, b in zip(text, list) -/
theorem pi_zipSL {X : Cx} {e e2 : Expr} {ta : TA} {p pos tpos : Pos} {elts : List Expr} {kk : Nat} (hg : Gl X "zip") (hm : X.mg "zip" = none) (ha : PA X [e, e2] ta)
    (hs : starEach [e, e2] X.env = (false, eval e X.env) :: starEach [e2] X.env := by rfl) (hpl : (backTo pos (starEach [e2] X.env)).any (·.1) = false := by rfl) :
    PI X (.Tuple elts kk tpos) (.Call (.Name "zip" p) [e, e2] [] pos) (iSL X.K ta) := by
  refine ⟨fun pins s σ H R I h => ?_⟩
  refine Call_ (ld_blt I hg hm PyProof.Rows.boot_zip (PyProof.Rows.callWith_type1 (thn (ha.run pos pins s σ H _ I h) fun us s1 ⟨vs, H1, I1, r1, q1⟩ => ?_) hs hpl))
  obtain ⟨x, b, ys, rfl, hqy, q⟩ := q1
  cases r1 with
  | cons r rr =>
    cases rr with
    | cons r' rr =>
      cases rr
      obtain ⟨t, rfl⟩ := r
      cases r'
      obtain ⟨its, rv, pl, _⟩ := I1.list hqy
      have blt : b < s1.heap.objs.size := by
        obtain ⟨ol, n, el, _⟩ := pl
        exact Heap.lt_size el
      refine zip_begins2 (begins_text x t) (begins_list b its.toArray) trivial pl.isList fun h' hz hTI hTO h1 h2 hsz hk => wpAny_pyIter_zip hz ?_
      have I2 : Inv X pins σ H1 { s1 with heap := h' } := I1.kept (t' := s1.toks) hk
      have apart : ∀ j k : Nat, j ≠ k → s1.heap.objs.size + j ≠ s1.heap.objs.size + k := fun j k n => by omega
      have bne : ∀ j : Nat, s1.heap.objs.size + j ≠ b := fun j => Nat.ne_of_gt (Nat.lt_of_lt_of_le blt (Nat.le_add_right _ j))
      have S : ZipSep2 (s1.heap.objs.size + 4) (s1.heap.objs.size + 2) (s1.heap.objs.size + 3) s1.heap.objs.size (s1.heap.objs.size + 1) [s1.heap.objs.size] [s1.heap.objs.size + 1, b] := by
        refine ⟨apart 2 4 (by decide), apart 3 4 (by decide), apart 2 3 (by decide), apart 2 0 (by decide), by simp, ?_, ?_, apart 2 1 (by decide), by simp, ?_, ?_, ?_, ?_⟩
        · simpa using apart 4 0 (by decide)
        · simpa using apart 3 0 (by decide)
        · simp only [List.mem_cons, List.not_mem_nil, or_false, not_or]
          exact ⟨apart 4 1 (by decide), bne 4⟩
        · simp only [List.mem_cons, List.not_mem_nil, or_false, not_or]
          exact ⟨apart 3 1 (by decide), bne 3⟩
        · simp only [List.mem_cons, List.not_mem_nil, or_false, not_or]
          exact ⟨apart 0 1 (by decide), bne 0⟩
        · simpa using apart 1 0 (by decide)
      refine ⟨s1.heap.objs.size + 4, [s1.heap.objs.size + 4, s1.heap.objs.size + 2, s1.heap.objs.size + 3, s1.heap.objs.size, s1.heap.objs.size + 1], _, _, H1, rfl, I2, turn_SL (x := x) (t := t) S,
        ⟨hz, hTI, ⟨_, _, hTO⟩, ⟨_, h1, rfl, rfl⟩, ⟨_, h2, rfl, rfl⟩⟩, fun d hd => ?_, q⟩
      have hle : s1.heap.objs.size ≤ d := by
        have which : d = s1.heap.objs.size + 4 ∨ d = s1.heap.objs.size + 2 ∨ d = s1.heap.objs.size + 3 ∨ d = s1.heap.objs.size ∨ d = s1.heap.objs.size + 1 := by simpa using hd
        rcases which with e | e | e | e | e <;> rw [e]
        · exact Nat.le_add_right _ _
        · exact Nat.le_add_right _ _
        · exact Nat.le_add_right _ _
        · exact Nat.le_refl _
        · exact Nat.le_add_right _ _
      exact I1.fpOk hle (I1.hok.fresh hle)

/-! ### a[b] of an own class with a __getitem__ -/
def rOwn (C : Addr) (sp : Sp) (E : XK) : R2 := fun x y H Q => ∃ a dx fs, x = .ref a ∧ H a = some (.ins C dx fs) ∧ sp [.ref a, y] H Q E
theorem pe_own {X : Cx} {CX : CXT} {k : Nat} {C f : Addr} {fd : FuncData} {ps : List Str} {sp : Sp} {E : XK} {a b : Expr} {ta tb : TE} {pos : Pos} (ha : PE X a ta) (hb' : PE X b tb) (hm : Meth X.K C "__getitem__" f) (hin : PySem.W.fnIn X.K f = true)
    (F : FnOk X.prog X.w X.K X.mg X.base CX k f fd ps sp) (hr : Room (k + 1) X.A) (hb : Binds X.K fd ps []) (hx : Passes CX X E)
    (hsl : ∀ v i, subscripted b true v i = runValue (.builtin "lifetime.subscript" ⟨[v, i], []⟩) := by intro _ _; rfl) : PE X (.Subscript a b pos) (tOp (rOwn C sp E) ta tb) := by
  refine ⟨fun pins s σ H Q I h => ?_⟩
  refine Subscript_ (binT ha hb' I h fun v u s2 x y H2 I2 rx ry q => ?_)
  obtain ⟨p, dx, fs, rfl, ep, hsp⟩ := q
  obtain rfl : v = Value.ref p := rx
  obtain ⟨mA, O, _⟩ := ins_get I2.hok ep
  obtain ⟨od, J, _⟩ := O.look
  obtain ⟨m, hF⟩ := I2.fr
  refine PySem.W.sub_K hF I2.ok.mod.kin J hm.at_ hin hm.fn (wpAny_call ?_) (hsl _ _)
  have two : ([Value.ref p, u] ++ []).length = ps.length := by rw [← F.len _ _ _ _ hsp]; rfl
  refine codeAny_mono (F.run X.A.in1 X.stack s2 H2 ⟨[.ref p, u], []⟩ [.ref p, u] [.ref p, y] Q E hr.in1 I2.env0.in1 (by simpa using hb s2 [.ref p, u] I2.kIn two) (.cons rfl (.cons ry .nil)) hsp) fun r s' hq => ?_
  cases r with
  | error er => exact hx pins σ H2 s2 er s' I2 hq
  | ok fl =>
    cases fl with
    | ret u => exact I2.after hq
    | next => exact False.elim hq
    | brk => exact False.elim hq
    | cont => exact False.elim hq
end Nt

/-! Short words of one's own: a callee, tables of n items, comprehensions whose items are new lists, a few methods of texts. -/
namespace Nt
open PySem PySem.Spec PyProof.Rows L2 Evl

/-! ### a def that is called by its name -/
structure Callee (P : Program) (w : World) (K : PySem.W.Frag) (mg : Str → Option Value) (base : Heap) (CX : CXT) (k : Nat) (x : Str) (ps : List Str) (sp : Sp) : Prop where
  ex : ∃ f fd, FnOk P w K mg base CX k f fd ps sp ∧ mg x = some (.ref f) ∧ PySem.W.keepIn K (.ref f) = true ∧ Binds K fd ps []
theorem pe_fn {X : Cx} {CX : CXT} {k : Nat} {x : Str} {ps : List Str} {sp : Sp} {E : XK} {p pos : Pos} {e : Expr} {es : List Expr} {t : TA} (c : Callee X.prog X.w X.K X.mg X.base CX k x ps sp) (hr : Room k X.A) (hg : Gl X x) (hx : Passes CX X E) (ha : PA X (e :: es) t)
    (hdb : (x == ("__debug__" : Str)) = false := by decide) (he : starEach (e :: es) X.env = (false, eval e X.env) :: starEach es X.env := by rfl) (hpl : (backTo pos (starEach es X.env)).any (·.1) = false := by rfl) :
    PE X (.Call (.Name x p) (e :: es) [] pos) (tCall sp [] E t) := by
  obtain ⟨f, fd, F, hm, hk, hb⟩ := c.ex
  exact pe_call F hr hg hm hk hb .nil hx ha hdb he hpl
theorem FunD.ok0 {P : Program} {w : World} {K : PySem.W.Frag} {mg : Str → Option Value} {base : Heap} {x qual : Str} {params : Arguments} {body : List Stmt} {scope : Scope} {dvs : List V} {kws : List (Str × V)} {f : Addr} {fd : FuncData} {N ps : List Str} {k : Nat} {sp : Sp}
    (F : FunD K x qual params body scope dvs kws f fd) (S : FnScope N ps scope) (len : ∀ vs H Q E, sp vs H Q E → vs.length = ps.length)
    (hbody : ∀ (cdv : Value) (A : Around) (outer : List Env) (s : Shared) (H : Hp) (vs : List V) (Q : VK) (E : XK), Room k (A.deeper (envOfC qual scope s.heap.objs.size f cdv)) → sp vs H Q E →
      ∃ t, PSs (cxOf CX0 P w K mg base N qual scope f cdv A outer s H E).nox body t ∧ t { nx := fun _ H' => Q .non H', rt := Q } (start N vs) H) : FnOk P w K mg base CX0 (k + 1) f fd ps sp :=
  FunD.ok F S len fun cdv A outer s H vs Q E hr h => let ⟨t, a, b⟩ := hbody cdv A outer s H vs Q E hr h; ⟨t, a.nox, b⟩
theorem hu0 {A : Around} {k : Nat} (hr : Room k A) : A.units < cLine := Nat.lt_of_succ_lt (hu_of hr)

/-! ### n items by a function -/
def tab {α : Type} (n : Nat) (f : Nat → α) : List α := (List.range n).map f
section
variable {α β : Type} {n i : Nat} {f g : Nat → α}
theorem tab_len (n : Nat) (f : Nat → α) : (tab n f).length = n := by
  unfold tab
  rw [List.length_map, List.length_range]
theorem tab_at (h : i < n) (f : Nat → α) : (tab n f)[i]? = some (f i) := by
  unfold tab
  rw [List.getElem?_map, List.getElem?_range h]
  rfl
theorem tab_some {v : α} (h : (tab n f)[i]? = some v) : i < n ∧ v = f i := by
  have hl := (List.getElem?_eq_some_iff.mp h).1
  rw [tab_len] at hl
  rw [tab_at hl] at h
  exact ⟨hl, (Option.some.inj h).symm⟩
theorem tab_zero : tab 0 f = [] := rfl
theorem tab_succ : tab (n + 1) f = tab n f ++ [f n] := by
  unfold tab
  rw [List.range_succ, List.map_append]
  rfl
theorem tab_congr (h : ∀ i, i < n → f i = g i) : tab n f = tab n g := by
  unfold tab
  exact List.map_congr_left fun i hi => h i (List.mem_range.mp hi)
theorem tab_map (h : α → β) : (tab n f).map h = tab n fun i => h (f i) := by
  unfold tab
  rw [List.map_map]
  rfl
theorem tab_set (v : α) : (tab n f).set i v = tab n fun j => if j = i then v else f j := by
  refine List.ext_getElem? fun j => ?_
  by_cases hj : j < n
  · rw [tab_at hj]
    by_cases e : j = i
    · subst e
      rw [if_pos rfl, List.getElem?_set_self (by rw [tab_len]; exact hj)]
    · rw [if_neg e, List.getElem?_set_ne (Ne.symm e), tab_at hj]
  · rw [List.getElem?_eq_none (by rw [List.length_set, tab_len]; omega), List.getElem?_eq_none (by rw [tab_len]; omega)]
theorem tab_mem {v : α} : v ∈ tab n f ↔ ∃ i, i < n ∧ f i = v := by
  unfold tab
  rw [List.mem_map]
  exact ⟨fun ⟨i, hi, e⟩ => ⟨i, List.mem_range.mp hi, e⟩, fun ⟨i, hi, e⟩ => ⟨i, List.mem_range.mpr hi, e⟩⟩
/-- every list is one -/
theorem tab_of (d : α) (l : List α) : l = tab l.length fun i => l.getD i d := by
  refine List.ext_getElem? fun j => ?_
  by_cases hj : j < l.length
  · rw [tab_at hj, List.getElem?_eq_getElem hj, List.getD_eq_getElem?_getD, List.getElem?_eq_getElem hj]
    rfl
  · rw [List.getElem?_eq_none (by omega), List.getElem?_eq_none (by rw [tab_len]; omega)]
theorem tab_given (n : Nat) (v : Nat → V) : given n (fun _ => true) v = tab n v := by
  unfold given tab
  rw [List.filter_eq_self.mpr fun _ _ => rfl]
end

/-! ### comprehensions whose items are new lists -/
/-- at p n new lists, the i-th holds row i; all of them apart, none stood in H -/
structure Rows (H H' : Hp) (p : Addr) (n : Nat) (ra : Nat → Addr) (row : Nat → List V) : Prop where
  ex : Ex H H'
  top : H' p = some (.lst (tab n fun i => .ref (ra i)))
  newT : H p = none
  at_ : ∀ i, i < n → H' (ra i) = some (.lst (row i))
  new_ : ∀ i, i < n → H (ra i) = none
  apart : ∀ i j, i < n → j < n → ra i = ra j → i = j
  off : ∀ i, i < n → ra i ≠ p
theorem Rows.more {H H1 H2 : Hp} {p : Addr} {n : Nat} {ra : Nat → Addr} {row : Nat → List V} (R : Rows H H1 p n ra row) (e : Ex H1 H2) : Rows H H2 p n ra row :=
  ⟨R.ex.trans e, e _ _ R.top, R.newT, fun i hi => e _ _ (R.at_ i hi), R.new_, R.apart, R.off⟩
theorem Rows.from_ {H0 H H1 : Hp} {p : Addr} {n : Nat} {ra : Nat → Addr} {row : Nat → List V} (R : Rows H H1 p n ra row) (e : Ex H0 H) : Rows H0 H1 p n ra row :=
  ⟨e.trans R.ex, R.top, fresh_back e R.newT, R.at_, fun i hi => fresh_back e (R.new_ i hi), R.apart, R.off⟩
theorem Rows.start {H : Hp} {p : Addr} (hp : H p = none) (row : Nat → List V) : Rows H (upd H p (.lst [])) p 0 (fun _ => 0) row :=
  ⟨Ex.new hp, upd_same, hp, fun i hi => absurd hi (Nat.not_lt_zero i), fun i hi => absurd hi (Nat.not_lt_zero i), fun i j hi => absurd hi (Nat.not_lt_zero i), fun i hi => absurd hi (Nat.not_lt_zero i)⟩
/-- one more new list q at its end -/
theorem Rows.grow {H H1 H2 : Hp} {p q : Addr} {n : Nat} {ra : Nat → Addr} {row : Nat → List V} (R : Rows H H1 p n ra row) (hq : H1 q = none) (e : Ex H1 H2) (at_ : H2 q = some (.lst (row n))) :
    Rows H (upd H2 p (.lst (tab n (fun i => V.ref (ra i)) ++ [.ref q]))) p (n + 1) (fun i => if i = n then q else ra i) row := by
  have qp : q ≠ p := fun z => by
    rw [z, R.top] at hq
    cases hq
  have old : ∀ i, i < n → ra i ≠ q := fun i hi z => by
    rw [← z, R.at_ i hi] at hq
    cases hq
  have up : ∀ {b}, b ≠ p → upd H2 p (.lst (tab n (fun i => V.ref (ra i)) ++ [.ref q])) b = H2 b := fun hb => upd_ne hb
  refine ⟨fun b o hb => ?_, ?_, R.newT, fun i hi => ?_, fun i hi => ?_, fun i j hi hj eq => ?_, fun i hi => ?_⟩
  · rw [up (ne_of_none hb R.newT)]
    exact e _ _ (R.ex _ _ hb)
  · rw [upd_same, tab_succ, if_pos rfl]
    refine congrArg (fun l => some (HO.lst (l ++ [V.ref q]))) (tab_congr fun i hi => ?_)
    rw [if_neg (Nat.ne_of_lt hi)]
  · by_cases z : i = n
    · rw [if_pos z, up qp, z]
      exact at_
    · rw [if_neg z, up (R.off i (by omega))]
      exact e _ _ (R.at_ i (by omega))
  · by_cases z : i = n
    · rw [if_pos z]
      exact fresh_back R.ex hq
    · rw [if_neg z]
      exact R.new_ i (by omega)
  · by_cases z : i = n
    · by_cases z2 : j = n
      · omega
      · simp only [if_pos z, if_neg z2] at eq
        exact absurd eq.symm (old j (by omega))
    · by_cases z2 : j = n
      · simp only [if_neg z, if_pos z2] at eq
        exact absurd eq (old i (by omega))
      · simp only [if_neg z, if_neg z2] at eq
        exact R.apart i j (by omega) (by omega) eq
  · by_cases z : i = n
    · rw [if_pos z]
      exact qp
    · rw [if_neg z]
      exact R.off i (by omega)
/-- the turns of such a comprehension -/
def Rw (H : Hp) (row : Nat → List V) (D : Addr) (i : Nat) (H' : Hp) : Prop := ∃ ra, Rows H H' D i ra row
section
variable {K : PySem.W.Frag} {σ : L2.St} {H : Hp} {te : TE}
theorem rw_turn {row : Nat → List V} {D : Addr} {i : Nat} {H' : Hp} {σ2 : L2.St} (p : Rw H row D i H') (hi : i < 50000) (he : EvL te σ2 H' (row i)) :
    tYes σ2 H' fun b H3 => if b = true then te σ2 H3 fun y H4 => ∃ acc, H4 D = some (.lst acc) ∧ acc.length < sizeLine ∧ Rw H row D (i + 1) (upd H4 D (.lst (acc ++ [y]))) else Rw H row D (i + 1) H3 := by
  obtain ⟨ra, R⟩ := p
  show te σ2 H' _
  refine he H' (Ex.refl H') _ fun q H4 hq e4 h4 => ?_
  exact ⟨_, e4 _ _ R.top, sz_lt (by rw [tab_len]; omega), _, R.grow hq e4 h4⟩
/-- [new list for j in range(n)] -/
theorem ro_lcR1 {ta : TA} {j : Nat} {vs : List Nat} {n : Nat} {Q : VK} (row : Nat → List V) (h : EvA ta σ H [.int (n : Int)]) (hn : n ≤ 40000) (hw : ∀ x, wipe ((wipe σ vs).set j (some x)) vs = wipe σ vs)
    (he : ∀ (i : Nat) H1, Ex H H1 → i < n → EvL te ((wipe σ vs).set j (some (.int (i : Int)))) H1 (row i)) (k : ∀ D H2 ra, Rows H H2 D n ra row → Q (.ref D) H2) : tLc (iRng1 ta) (gName j) tYes te vs σ H Q :=
  h H (Ex.refl H) _ fun H1 e1 => ⟨n, rfl, by omega, by omega, fun Dl hD =>
    lc_range (lo := 0) (n := (n : Int).toNat) (Rw H1 row Dl) ⟨_, Rows.start hD row⟩ (fun i H' hi p => by
      have e0 : (0 : Int) + (i : Int) = (i : Int) := Int.zero_add _
      show wipe ((wipe σ vs).set j (some (.int ((0 : Int) + (i : Int))))) vs = wipe σ vs ∧ tYes ((wipe σ vs).set j (some (.int ((0 : Int) + (i : Int))))) H' fun b H3 => if b = true then te ((wipe σ vs).set j (some (.int ((0 : Int) + (i : Int))))) H3 fun y H4 => ∃ acc, H4 Dl = some (.lst acc) ∧ acc.length < sizeLine ∧ Rw H1 row Dl (i + 1) (upd H4 Dl (.lst (acc ++ [y]))) else Rw H1 row Dl (i + 1) H3
      rw [e0]
      have hi' : i < n := by omega
      obtain ⟨ra, R⟩ := id p
      exact ⟨hw _, rw_turn p (by omega) (he i H' (e1.trans R.ex) hi')⟩) (fun H' p => by
      obtain ⟨ra, R⟩ := p
      rw [Int.toNat_natCast] at R
      exact k Dl H' ra (R.from_ e1))⟩
/-- [new list for x in xs] -/
theorem ro_lcL {a : Addr} {xs : List V} {tl : TE} {j : Nat} {vs : List Nat} {Q : VK} (row : Nat → List V) (h : Ev tl σ H (.ref a)) (hx : SqL K H a xs) (hz : xs.length ≤ 40000) (hw : ∀ x, wipe ((wipe σ vs).set j (some x)) vs = wipe σ vs)
    (he : ∀ (i : Nat) (x : V) H1, Ex H H1 → xs[i]? = some x → EvL te ((wipe σ vs).set j (some x)) H1 (row i)) (k : ∀ D H2 ra, Rows H H2 D xs.length ra row → Q (.ref D) H2) : tLc (iList K tl) (gName j) tYes te vs σ H Q :=
  h H (Ex.refl H) _ fun H1 e1 => ⟨a, rfl, ⟨xs, ex_l e1 hx⟩, fun Dl hD =>
    lc_list (xs := xs) (Rw H1 row Dl) ⟨_, Rows.start hD row⟩ (fun i H' _ p => by
      obtain ⟨ra, R⟩ := p
      exact ex_l (e1.trans R.ex) hx) (fun i x H' hi p => by
      obtain ⟨ra, R⟩ := id p
      exact ⟨hw x, rw_turn p (by have := (List.getElem?_eq_some_iff.mp hi).1; omega) (he i x H' (e1.trans R.ex) hi)⟩) (fun H' p => by
      obtain ⟨ra, R⟩ := p
      exact k Dl H' ra (R.from_ e1))⟩
end

/-! ### texts -/
theorem op_mulS {X : Cx} : OpR X (binaryOp .Mult) (fun x y H Q => ∃ z n, x = .str z ∧ y = .int n ∧ MulOk z n ∧ Q (.str (Txt.mul z n)) H) := by
  intro pins s σ H x y v u Q I rx ry h
  obtain ⟨z, n, rfl, rfl, ok, q⟩ := h
  obtain ⟨t, rfl⟩ := rx
  obtain ⟨t', rfl⟩ := ry
  exact SB.mul ok fun t' k => ⟨.str _, H, I.tok _, ⟨_, rfl⟩, q⟩
/-- s.index(t), where t is in it -/
def rIndexS : V → List V → Hp → VK → Prop := fun x xs H Q => ∃ a b k rest, x = .str a ∧ xs = [.str b] ∧ Builtin.Str.occurrences a b 0 a.length 1 = k :: rest ∧ Q (.int (k : Nat)) H
theorem mt_indexS {X : Cx} : MtR X "str.index" rIndexS := by
  intro pins s σ H x xs v us Q I rx rs h
  obtain ⟨a, b, k, rest, rfl, rfl, ho, q⟩ := h
  obtain ⟨t, rfl⟩ := rx
  cases rs with
  | cons r1 rs =>
    cases rs
    obtain ⟨u, rfl⟩ := r1
    exact call_gives PySem.F.slot_str_index (typeIs_str _ _ _) PySem.F.entry_str_index (PySem.F.args_str_index_2 _ _) (gives_str_index a b t u k rest ho) ⟨.int (k : Nat), H, I.tok _, ⟨_, rfl⟩, q⟩
end Nt

/-! Rules told of a given written part, for what stands within a comprehension. -/
namespace Nt
open PySem PySem.Spec PyProof.Rows L2 Evl
section
variable {X : Cx} {K : PySem.W.Frag}
theorem ix_listK (h : X.K = K) : IxR X (rIxL K) := by
  subst h
  exact ix_list
theorem ix_tupK (h : X.K = K) : IxR X (rIxT K) := by
  subst h
  exact ix_tup
theorem len_seqK (h : X.K = K) : CallR X (.builtin "len") (rLenS K) := by
  subst h
  exact call_len_seq
theorem list_ofK (h : X.K = K) : CallR X (.type "list") (rListS K) := by
  subst h
  exact call_list_of
theorem sortedK (h : X.K = K) : CallR X (.builtin "sorted") (rSorted K) := by
  subst h
  exact cr_sorted
theorem mt_indexK (h : X.K = K) : MtR X "list.index" (rIndex K) := by
  subst h
  exact mt_index
theorem isiK (h : X.K = K) : CallR X (.builtin "isinstance") (rIsi K) := by
  subst h
  exact call_isi
theorem pi_listK {tg l : Expr} {tl : TE} (h : X.K = K) (hl : PE X l tl) : PI X tg l (iList K tl) := by
  subst h
  exact pi_list hl
theorem pe_bmK {T : String} {name : Str} {id : String} {o e : Expr} {es : List Expr} {to : TE} {t : TA} {r : V → List V → Hp → VK → Prop} {apos cpos : Pos} (h : X.K = K) (pa : PlainAttrs T) (slot : Slot T name id) (hty : typeOf (.builtin id) = pure (.type "method_descriptor")) (hm : MtR X id r) (ho : PE X o to) (ha : PA X (e :: es) t)
    (hbase : attributeBase o name X.env (eval o X.env) = eval o X.env := by rfl)
    (hfew : ((backTo cpos (starEach (e :: es) X.env)).all (fun x => !x.1) && (backToKw cpos (keywordEach [] X.env)).all (fun x => x.1.isSome)
      && decide ((e :: es).length + ([] : List Keyword).length + (if ([] : List Keyword).isEmpty then 0 else 1) < 30)) = true := by rfl)
    (hline : (apos.endLine == cpos.line) = true := by rfl) (hs : starEach (e :: es) X.env = (false, eval e X.env) :: starEach es X.env := by rfl) (hplain : (backTo cpos (starEach es X.env)).any (·.1) = false := by rfl) :
    PE X (.Call (.Attribute o name apos) (e :: es) [] cpos) (tBM K T r to t) := by
  subst h
  exact pe_bm pa slot hty hm ho ha hbase hfew hline hs hplain
end
end Nt

namespace Nt
open PySem PySem.Spec PyProof.Rows L2 Evl
/-! ### more rules of a given written part -/
section
variable {X : Cx} {K : PySem.W.Frag}
theorem pe_fldK {e : Expr} {f : Str} {pos : Pos} {ta : TE} (h : X.K = K) (he : PE X e ta) (hb : attributeBase e f X.env (eval e X.env) = eval e X.env) : PE X (.Attribute e f pos) (tFld K ta f) := by
  subst h
  exact pe_fld he hb
theorem pg_tupK {es : List Expr} {k : Nat} {t : TGs} {n : Nat} {pos : Pos} (h : X.K = K) (hc : X.calm = true) (hg : PGs X es t)
    (hn : (assignEach es X.env).length = n := by rfl) (hst : (assignEach es X.env).findIdx? (·.1) = none := by rfl) : PG X (.Tuple es k pos) (gTup K n t) := by
  subst h
  exact pg_tup hc hg hn hst
theorem pi_zipSLK {e e2 : Expr} {ta : TA} {p pos tpos : Pos} {elts : List Expr} {kk : Nat} (h : X.K = K) (hg : Gl X "zip") (hm : X.mg "zip" = none) (ha : PA X [e, e2] ta)
    (hs : starEach [e, e2] X.env = (false, eval e X.env) :: starEach [e2] X.env := by rfl) (hpl : (backTo pos (starEach [e2] X.env)).any (·.1) = false := by rfl) :
    PI X (.Tuple elts kk tpos) (.Call (.Name "zip" p) [e, e2] [] pos) (iSL K ta) := by
  subst h
  exact pi_zipSL hg hm ha hs hpl
end
/-- a method of the class at C -/
structure MCallee (P : Program) (w : World) (K : PySem.W.Frag) (mg : Str → Option Value) (base : Heap) (CX : CXT) (k : Nat) (C : Addr) (m : Str) (ps : List Str) (sp : Sp) : Prop where
  ex : ∃ f fd, FnOk P w K mg base CX k f fd ps sp ∧ Meth K C m f ∧ PySem.W.fnIn K f = true ∧ Binds K fd ps []
/-! ### walks told once -/
section
variable {K : PySem.W.Frag} {b : Addr} {x : Str} {ys : List V}
theorem walk_SL (hn : x.cps.size = ys.length) : Walk (ItSL K x b) ys.length (fun H => SqL K H b ys) (YPair (fun i => x.cps[i]?.map fun c => V.str ⟨#[c]⟩) (fun i => ys[i]?)) := by
  refine ⟨fun i H hi q => ?_, fun H q => ⟨ys, q, by omega, Nat.le_refl _, Or.inr rfl⟩, fun i H v H' _ q y => ?_⟩
  · have h1 : i < x.cps.size := by omega
    exact ⟨ys, x.cps[i], ys[i], q, by simp [h1], by simp [hi]⟩
  · obtain ⟨T, c, z, h1, h2, h3, h4, h5⟩ := y
    exact ⟨T, .str ⟨#[c]⟩, z, h1, h2, h3, by simp [h4], h5 ys q⟩
end
section
variable {g g1 : TG} {tt tt1 : TT} {wi1 : TI} {tk tv te : TE} {vs vs1 : List Nat} {σ σ2 : L2.St} {Q : VK} {J J1 : It} {D : Addr} {H1 H4 : Hp} {n : Nat} {G : Hp → Prop} {Y : Nat → Hp → V → Hp → Prop}
/-- the inner loop of a dict of two clauses -/
def InT (g1 : TG) (tt1 : TT) (tk tv : TE) (vs1 : List Nat) (σ2 : L2.St) (D : Addr) (J1 : It) (H4 : Hp) (Nx : Hp → Prop) : Prop := ∃ W1 : Nat → Nat → Hp → Prop, (∃ m, W1 0 m H4) ∧ ∀ j k H, W1 j k H →
  (J1.stop j H ∧ Nx H) ∨ (J1.go j H ∧ ∃ Nx1 : Hp → Prop, (∀ H', Nx1 H' → ∃ k', k' < k ∧ W1 (j + 1) k' H') ∧ ∀ x H', J1.yld j H x H' → g1 x (wipe σ2 vs1) H' fun σ3 H5 => wipe σ3 vs1 = wipe σ2 vs1 ∧ tt1 σ3 H5 fun b H6 =>
    if b = true then tk σ3 H6 fun y H7 => tv σ3 H7 fun z H8 => ∃ old ky kp, y = .ref kp ∧ H8 kp = some (.tup (ky.map kV)) ∧ H8 D = some (.dT old) ∧ old.length < sizeLine ∧ Nx1 (upd H8 D (.dT (putK old ky z))) else Nx1 H6)
theorem inT_it (w : Walk J1 n G Y) {Nx : Hp → Prop} (Pv : Nat → Hp → Prop) (h0 : Pv 0 H4) (hG : ∀ j H, j ≤ n → Pv j H → G H)
    (hs : ∀ j x H H', j < n → Pv j H → Y j H x H' → g1 x (wipe σ2 vs1) H' fun σ3 H5 => wipe σ3 vs1 = wipe σ2 vs1 ∧ tt1 σ3 H5 fun b H6 =>
      if b = true then tk σ3 H6 fun y H7 => tv σ3 H7 fun z H8 => ∃ old ky kp, y = .ref kp ∧ H8 kp = some (.tup (ky.map kV)) ∧ H8 D = some (.dT old) ∧ old.length < sizeLine ∧ Pv (j + 1) (upd H8 D (.dT (putK old ky z))) else Pv (j + 1) H6)
    (hd : ∀ H, Pv n H → Nx H) : InT g1 tt1 tk tv vs1 σ2 D J1 H4 Nx := by
  refine ⟨fun i m H => m = n - i ∧ i ≤ n ∧ Pv i H, ⟨n, by simp, Nat.zero_le _, h0⟩, ?_⟩
  rintro i m H ⟨rfl, hi, p⟩
  have q := hG i H hi p
  by_cases hlt : i < n
  · exact .inr ⟨w.goes i H hlt q, Pv (i + 1), fun H' p' => ⟨n - (i + 1), by omega, rfl, hlt, p'⟩, fun x H' y => hs i x H H' hlt p (w.yields i H x H' hlt q y)⟩
  · have e : i = n := by omega
    subst e
    exact .inl ⟨w.stops H q, hd H p⟩
theorem rdT2_it (w : Walk J n G Y) (Pv : Nat → Hp → Prop) (h0 : Pv 0 (upd H1 D (.dT []))) (hG : ∀ j H, j ≤ n → Pv j H → G H)
    (hs : ∀ i x H H', i < n → Pv i H → Y i H x H' → g x (wipe σ vs) H' fun σ2 H2 => wipe σ2 vs = wipe σ vs ∧ tt σ2 H2 fun b H3 => if b = true then wi1 σ2 H3 fun J1 H4 => InT g1 tt1 tk tv vs1 σ2 D J1 H4 (Pv (i + 1)) else Pv (i + 1) H3)
    (hd : ∀ H, Pv n H → Q (.ref D) H) : RdT2 g tt wi1 g1 tt1 tk tv vs vs1 σ Q J D H1 := by
  refine ⟨fun i m H => m = n - i ∧ i ≤ n ∧ Pv i H, ⟨n, by simp, Nat.zero_le _, h0⟩, ?_⟩
  rintro i m H ⟨rfl, hi, p⟩
  have q := hG i H hi p
  by_cases hlt : i < n
  · exact .inr ⟨w.goes i H hlt q, Pv (i + 1), fun H' p' => ⟨n - (i + 1), by omega, rfl, hlt, p'⟩, fun x H' y => hs i x H H' hlt p (w.yields i H x H' hlt q y)⟩
  · have e : i = n := by omega
    subst e
    exact .inl ⟨w.stops H q, hd H p⟩
theorem rdT_it (w : Walk J n G Y) (Pv : Nat → Hp → Prop) (h0 : Pv 0 (upd H1 D (.dT []))) (hG : ∀ j H, j ≤ n → Pv j H → G H)
    (hs : ∀ i x H H', i < n → Pv i H → Y i H x H' → g x (wipe σ vs) H' fun σ2 H2 => wipe σ2 vs = wipe σ vs ∧ tt σ2 H2 fun b H3 =>
      if b = true then tk σ2 H3 fun y H4 => tv σ2 H4 fun z H5 => ∃ old ky kp, y = .ref kp ∧ H5 kp = some (.tup (ky.map kV)) ∧ H5 D = some (.dT old) ∧ old.length < sizeLine ∧ Pv (i + 1) (upd H5 D (.dT (putK old ky z))) else Pv (i + 1) H3)
    (hd : ∀ H, Pv n H → Q (.ref D) H) : RdT g tt tk tv vs σ Q J D H1 := by
  refine ⟨fun i m H => m = n - i ∧ i ≤ n ∧ Pv i H, ⟨n, by simp, Nat.zero_le _, h0⟩, ?_⟩
  rintro i m H ⟨rfl, hi, p⟩
  have q := hG i H hi p
  by_cases hlt : i < n
  · exact .inr ⟨w.goes i H hlt q, Pv (i + 1), fun H' p' => ⟨n - (i + 1), by omega, rfl, hlt, p'⟩, fun x H' y => hs i x H H' hlt p (w.yields i H x H' hlt q y)⟩
  · have e : i = n := by omega
    subst e
    exact .inl ⟨w.stops H q, hd H p⟩
/-- a list of two clauses -/
def InL (g1 : TG) (tt1 : TT) (te : TE) (vs1 : List Nat) (σ2 : L2.St) (D : Addr) (J1 : It) (H4 : Hp) (Nx : Hp → Prop) : Prop := ∃ W1 : Nat → Nat → Hp → Prop, (∃ m, W1 0 m H4) ∧ ∀ j k H, W1 j k H →
  (J1.stop j H ∧ Nx H) ∨ (J1.go j H ∧ ∃ Nx1 : Hp → Prop, (∀ H', Nx1 H' → ∃ k', k' < k ∧ W1 (j + 1) k' H') ∧ ∀ x H', J1.yld j H x H' → g1 x (wipe σ2 vs1) H' fun σ3 H5 => wipe σ3 vs1 = wipe σ2 vs1 ∧ tt1 σ3 H5 fun b H6 =>
    if b = true then te σ3 H6 fun y H7 => ∃ acc, H7 D = some (.lst acc) ∧ acc.length < sizeLine ∧ Nx1 (upd H7 D (.lst (acc ++ [y]))) else Nx1 H6)
theorem inL_it (w : Walk J1 n G Y) {Nx : Hp → Prop} (Pv : Nat → Hp → Prop) (h0 : Pv 0 H4) (hG : ∀ j H, j ≤ n → Pv j H → G H)
    (hs : ∀ j x H H', j < n → Pv j H → Y j H x H' → g1 x (wipe σ2 vs1) H' fun σ3 H5 => wipe σ3 vs1 = wipe σ2 vs1 ∧ tt1 σ3 H5 fun b H6 =>
      if b = true then te σ3 H6 fun y H7 => ∃ acc, H7 D = some (.lst acc) ∧ acc.length < sizeLine ∧ Pv (j + 1) (upd H7 D (.lst (acc ++ [y]))) else Pv (j + 1) H6)
    (hd : ∀ H, Pv n H → Nx H) : InL g1 tt1 te vs1 σ2 D J1 H4 Nx := by
  refine ⟨fun i m H => m = n - i ∧ i ≤ n ∧ Pv i H, ⟨n, by simp, Nat.zero_le _, h0⟩, ?_⟩
  rintro i m H ⟨rfl, hi, p⟩
  have q := hG i H hi p
  by_cases hlt : i < n
  · exact .inr ⟨w.goes i H hlt q, Pv (i + 1), fun H' p' => ⟨n - (i + 1), by omega, rfl, hlt, p'⟩, fun x H' y => hs i x H H' hlt p (w.yields i H x H' hlt q y)⟩
  · have e : i = n := by omega
    subst e
    exact .inl ⟨w.stops H q, hd H p⟩
theorem lc2_it {wi : TI} (Pv : Addr → Nat → Hp → Prop)
    (h : wi σ H1 fun J H2 => ∀ D, H2 D = none → ∃ (n : Nat) (G : Hp → Prop) (Y : Nat → Hp → V → Hp → Prop), Walk J n G Y ∧ Pv D 0 (upd H2 D (.lst [])) ∧ (∀ j H, j ≤ n → Pv D j H → G H) ∧
      (∀ i x H H', i < n → Pv D i H → Y i H x H' → g x (wipe σ vs) H' fun σ2 H2 => wipe σ2 vs = wipe σ vs ∧ tt σ2 H2 fun b H3 => if b = true then wi1 σ2 H3 fun J1 H4 => InL g1 tt1 te vs1 σ2 D J1 H4 (Pv D (i + 1)) else Pv D (i + 1) H3) ∧ (∀ H, Pv D n H → Q (.ref D) H))
    (mono : ∀ {R R' : It → Hp → Prop}, (∀ J H, R J H → R' J H) → wi σ H1 R → wi σ H1 R') : tLc2 wi g tt wi1 g1 tt1 te vs vs1 σ H1 Q := by
  refine mono (fun J H2 k D hD => ?_) h
  obtain ⟨n, G, Y, w, h0, hG, hs, hd⟩ := k D hD
  refine ⟨fun i m H => m = n - i ∧ i ≤ n ∧ Pv D i H, ⟨n, by simp, Nat.zero_le _, h0⟩, ?_⟩
  rintro i m H ⟨rfl, hi, p⟩
  have q := hG i H hi p
  by_cases hlt : i < n
  · exact .inr ⟨w.goes i H hlt q, Pv D (i + 1), fun H' p' => ⟨n - (i + 1), by omega, rfl, hlt, p'⟩, fun x H' y => hs i x H H' hlt p (w.yields i H x H' hlt q y)⟩
  · have e : i = n := by omega
    subst e
    exact .inl ⟨w.stops H q, hd H p⟩
end
/-! ### fields, tables, calls -/
section
variable {K : PySem.W.Frag} {σ : L2.St} {H H' : Hp} {ta tb td ty te : TE} {v : V}
theorem ev_fld {x C dx : Addr} {fs : List (Str × V)} {f : Str} (ha : Ev ta σ H (.ref x)) (hx : H x = some (.ins C dx fs)) (c : Cls K C) (n : NoAttr K C f) (hl : fs.lookup f = some v) : Ev (tFld K ta f) σ H v := fun H1 e Q q =>
  ha H1 e _ fun H2 e2 => ⟨x, C, dx, fs, v, rfl, e2 _ _ (e _ _ hx), c, n, hl, q H2 e2⟩
theorem ev_din {d : Addr} {kvs : List (List Key × V)} {ky : List Key} {xs : List V} (ha : EvU ty σ H xs) (hx : xs = ky.map kV) (hb : ∀ H1, Ex H H1 → Ev td σ H1 (.ref d)) (h : H d = some (.dT kvs)) : Ev (tDIn ty td) σ H (.bl (valV kvs ky).isSome) := fun H1 e Q q =>
  ha H1 e _ fun p H2 hp e2 h2 => hb H2 (e.trans e2) H2 (Ex.refl H2) _ fun H3 e3 => ⟨d, _, rfl, DGet.t (e3 _ _ (e2 _ _ (e _ _ h))) (by rw [e3 _ _ h2, hx]), q H3 (e2.trans e3)⟩
theorem ev_dnin {d : Addr} {kvs : List (List Key × V)} {ky : List Key} {xs : List V} (ha : EvU ty σ H xs) (hx : xs = ky.map kV) (hb : ∀ H1, Ex H H1 → Ev td σ H1 (.ref d)) (h : H d = some (.dT kvs)) : Ev (tDNotIn ty td) σ H (.bl (!(valV kvs ky).isSome)) := fun H1 e Q q =>
  ha H1 e _ fun p H2 hp e2 h2 => hb H2 (e.trans e2) H2 (Ex.refl H2) _ fun H3 e3 => ⟨d, _, rfl, DGet.t (e3 _ _ (e2 _ _ (e _ _ h))) (by rw [e3 _ _ h2, hx]), q H3 (e2.trans e3)⟩
theorem ev_dget {d : Addr} {kvs : List (List Key × V)} {ky : List Key} {xs : List V} (hb : Ev td σ H (.ref d)) (ha : EvU ty σ H xs) (hx : xs = ky.map kV) (h : H d = some (.dT kvs)) (hv : valV kvs ky = some v) : Ev (tDGet td ty) σ H v := fun H1 e Q q =>
  hb H1 e _ fun H2 e2 => ha H2 (e.trans e2) _ fun p H3 hp e3 h3 => ⟨d, v, rfl, by rw [← hv]; exact DGet.t (e3 _ _ (e2 _ _ (e _ _ h))) (by rw [h3, hx]), q H3 (e2.trans e3)⟩
theorem ev_meth {x C dx : Addr} {fs : List (Str × V)} {m : Str} {sp : Sp} {dvs vs : List V} {E : XK} {t : TA} (ha : Ev ta σ H (.ref x)) (hx : H x = some (.ins C dx fs)) (hl : fs.lookup m = none) (ht : EvA t σ H vs) (hs : SpV sp (.ref x :: (vs ++ dvs)) H v) : Ev (tMeth C m sp dvs E ta t) σ H v := fun H1 e Q q =>
  ha H1 e _ fun H2 e2 => ⟨x, dx, fs, rfl, e2 _ _ (e _ _ hx), hl, ht H2 (e.trans e2) _ fun H3 e3 => hs H3 ((e.trans e2).trans e3) Q (fun H4 e4 => q H4 ((e2.trans e3).trans e4)) E⟩
theorem ev_cval {C : Addr} {mc u : Value} {f : Str} (ha : Ev ta σ H (.ref C)) (r : ClX.CRead K C mc) (k : ClX.CVal K C mc f v u) : Ev (ClX.tCVal K ta f) σ H v := fun H1 e Q q =>
  ha H1 e _ fun H2 e2 => ⟨C, mc, v, u, rfl, r, k, q H2 e2⟩
theorem ev_chain {r r' : R2} {x y z : V} {a b : Bool} {tc : TE} (ha : Ev ta σ H x) (hb : Ev tb σ H y) (hr : RV r x y H (.bl a)) (hc : a = true → Ev tc σ H z) (hr' : a = true → RV r' y z H (.bl b)) : Ev (tChain r r' ta tb tc) σ H (.bl (a && b)) := fun H1 e Q q =>
  ha H1 e _ fun H2 e2 => hb H2 (e.trans e2) _ fun H3 e3 => hr H3 ((e.trans e2).trans e3) _ fun H4 e4 => ⟨a, rfl, by
    cases a with
    | false => exact q H4 ((e2.trans e3).trans e4)
    | true => exact hc rfl H4 (((e.trans e2).trans e3).trans e4) _ fun H5 e5 => hr' rfl H5 ((((e.trans e2).trans e3).trans e4).trans e5) _ fun H6 e6 => q H6 ((((e2.trans e3).trans e4).trans e5).trans e6)⟩
end
end Nt

/-! x in o, o of an own class with a __contains__. -/
namespace Nt
open PySem PySem.Spec PyProof.Rows L2 Evl
def rInOwn (C : Addr) (sp : Sp) (E : XK) : R2 := fun x y H Q => ∃ a dx fs, y = .ref a ∧ H a = some (.ins C dx fs) ∧ sp [.ref a, x] H (fun v H' => ∃ b, v = .bl b ∧ Q (.bl b) H') E
theorem op_inOwn {X : Cx} {CX : CXT} {k : Nat} {C f : Addr} {fd : FuncData} {ps : List Str} {sp : Sp} {E : XK} (hm : Meth X.K C "__contains__" f)
    (F : FnOk X.prog X.w X.K X.mg X.base CX k f fd ps sp) (hr : Room k X.A) (hb : Binds X.K fd ps []) (hx : Passes CX X E) : OpR X (compareOp .In) (rInOwn C sp E) := by
  intro pins s σ H x y v u Q I rx ry h
  obtain ⟨p, dx, fs, rfl, ep, hsp⟩ := h
  obtain rfl : u = Value.ref p := ry
  obtain ⟨mA, O, _⟩ := ins_get I.hok ep
  obtain ⟨od, J, _⟩ := O.look
  obtain ⟨m, hF⟩ := I.fr
  refine PySem.W.in_K hF I.ok.mod.kin J hm.at_ hm.fn (wpAny_call ?_)
  have two : ([Value.ref p, v] ++ []).length = ps.length := by rw [← F.len _ _ _ _ hsp]; rfl
  refine codeAny_mono (F.run X.A X.stack s H ⟨[.ref p, v], []⟩ [.ref p, v] [.ref p, x] (fun z H2 => ∃ b, z = .bl b ∧ Q (.bl b) H2) E hr I.env0 (by simpa using hb s [.ref p, v] I.kIn two) (.cons rfl (.cons rx .nil)) hsp) fun r s' hq => ?_
  cases r with
  | error er => exact hx pins σ H s er s' I hq
  | ok fl =>
    cases fl with
    | ret u =>
      obtain ⟨z, H', I', rz, b, rfl, q⟩ := I.after hq
      obtain rfl : u = Value.bool b := rz
      exact wpAny_pure ⟨.bl b, H', I', rfl, q⟩
    | next => exact False.elim hq
    | brk => exact False.elim hq
    | cont => exact False.elim hq
end Nt

/-! a starred last item; own operators; own stores by subscript. -/
namespace Nt
open PySem PySem.Spec PyProof.Rows L2 Evl
section
variable {X : Cx} {pins : List (Addr × Obj)} {σ : L2.St} {H : Hp} {s : Shared}
theorem star_lst {a : Addr} {xs : List V} {E : Value → Shared → Prop} {Q : List Value → Shared → Prop} (I : Inv X pins σ H s) (h : SqL X.K H a xs) (hQ : ∀ us s', Inv X pins σ H s' → Vals xs us → Q us s') :
    PySem.W.StarOf (model X.prog X.w) X.A E (.ref a) Q s := by
  obtain ⟨its, r, ⟨o, n, ho, hc, _, hd⟩, hz⟩ := I.list h
  have hT : s.TypeIs (.ref a) "list" := ⟨o, ho, hc⟩
  have hl := r.length
  have z : wpAny (model X.prog X.w) X.A (collect (.ref a)) Q E s := by
    refine wpAny_collect_seq a (.inl rfl) ho hc hd (fun h' hk => ?_) (by rw [List.size_toArray]; omega)
    have e : its.toArray.toList = its := by simp
    rw [e]
    exact hQ its _ (I.kept (t' := s.toks) hk) r
  unfold PySem.W.StarOf notIterableAtAll
  exact wpAny_bind (wpAny_specialOf hT PySem.F.slot_list_iter.lookup (wpAny_pure ⟨rfl, z⟩))
end
def tStarL (K : PySem.W.Frag) (te : TE) : TA := fun σ H Q => te σ H fun x H1 => ∃ a xs, x = .ref a ∧ SqL K H1 a xs ∧ Q xs H1
theorem pa_starL {X : Cx} {e : Expr} {p : Pos} {te : TE} (he : PE X e te) : PA X [.Starred e p] (tStarL X.K te) := by
  refine ⟨fun pos pins s σ H Q I h => ?_⟩
  refine PySem.W.items_star (thn (he.run pins s σ H _ I h) fun v s1 ⟨x, H1, I1, rx, a, xs, ex, hs, q⟩ => ?_)
  subst ex
  obtain rfl : v = Value.ref a := rx
  refine star_lst I1 hs fun us s2 I2 r => ?_
  show wpAny _ _ (spliced []) _ _ s2
  exact wpAny_pure (by rw [List.append_nil]; exact ⟨xs, H1, I2, r, q⟩)
theorem ea_star {K : PySem.W.Frag} {σ : L2.St} {H : Hp} {te : TE} {a : Addr} {xs : List V} (h : Ev te σ H (.ref a)) (hs : SqL K H a xs) : EvA (tStarL K te) σ H xs := fun H1 e Q q => h H1 e _ fun H2 e2 => ⟨a, xs, rfl, ex_l (e.trans e2) hs, q H2 e2⟩
end Nt

/-! o >> text, o[i] = v, o of an own class. -/
namespace Nt
open PySem PySem.Spec PyProof.Rows L2 Evl
def rShr (C : Addr) (sp : Sp) (E : XK) : R2 := fun x y H Q => ∃ a dx fs z, x = .ref a ∧ y = .str z ∧ H a = some (.ins C dx fs) ∧ sp [.ref a, y] H (fun v H' => ∃ b, v = .ref b ∧ Q (.ref b) H') E
/-- what of the text the class must have -/
structure OwnOp (K : PySem.W.Frag) (C : Addr) (nm : String) : Prop where
  first : PySem.W.selfFirst K C = true
  r0 : PySem.W.findIn K (.ref C) (PySem.dunderR nm) = some none
  s1 : (PySem.W.findIn K (.type "str") (PySem.dunder nm)).isSome = true
  s2 : (PySem.W.findIn K (.type "str") (PySem.dunderR nm)).isSome = true
  sub : PySem.W.subIn K (.type "str") (.ref C) = some false
  seq : PySem.W.noSeq K C = true
theorem op_shr {X : Cx} {CX : CXT} {k : Nat} {C f : Addr} {fd : FuncData} {ps : List Str} {sp : Sp} {E : XK} (O : OwnOp X.K C "rshift") (hm : Meth X.K C "__rshift__" f)
    (F : FnOk X.prog X.w X.K X.mg X.base CX k f fd ps sp) (hr : Room k X.A) (hb : Binds X.K fd ps []) (hx : Passes CX X E) : OpR X (binaryOp .RShift) (rShr C sp E) := by
  intro pins s σ H x y v u Q I rx ry h
  obtain ⟨p, dx, fs, z, rfl, rfl, ep, hsp⟩ := h
  obtain rfl : v = Value.ref p := rx
  obtain ⟨t, rfl⟩ := ry
  obtain ⟨mA, Ob, _⟩ := ins_get I.hok ep
  obtain ⟨od, J, _⟩ := Ob.look
  obtain ⟨m, hF⟩ := I.fr
  obtain ⟨fo, h1⟩ := Option.isSome_iff_exists.mp O.s1
  obtain ⟨ro, h2⟩ := Option.isSome_iff_exists.mp O.s2
  have en : (PySem.dunder Operator.RShift.info.2) = ("__rshift__" : Str) := by decide +kernel
  refine PySem.W.ksp_binT (T := "str") hF I.ok.mod.kin J rfl O.first (by rw [en]; exact hm.at_) hm.fn O.r0 (Or.inl rfl) h1 h2 O.sub (wpAny_call ?_)
  have two : ([Value.ref p, Value.str z t] ++ []).length = ps.length := by rw [← F.len _ _ _ _ hsp]; rfl
  refine codeAny_mono (F.run X.A X.stack s H ⟨[.ref p, .str z t], []⟩ [.ref p, .str z t] [.ref p, .str z] (fun v H2 => ∃ b, v = .ref b ∧ Q (.ref b) H2) E hr I.env0 (by simpa using hb s [.ref p, .str z t] I.kIn two) (.cons rfl (.cons ⟨t, rfl⟩ .nil)) hsp) fun r s' hq => ?_
  cases r with
  | error er => exact hx pins σ H s er s' I hq
  | ok fl =>
    cases fl with
    | ret u =>
      obtain ⟨z, H', I', rz, b, rfl, q⟩ := I.after hq
      obtain rfl : u = Value.ref b := rz
      exact ⟨.ref b, H', I', rfl, q⟩
    | next => exact False.elim hq
    | brk => exact False.elim hq
    | cont => exact False.elim hq
def rSetOwn (C : Addr) (sp : Sp) (E : XK) : V → V → V → Hp → (Hp → Prop) → Prop := fun o i v H Q => ∃ a dx fs, o = .ref a ∧ H a = some (.ins C dx fs) ∧ sp [.ref a, i, v] H (fun _ H' => Q H') E
theorem set_own {X : Cx} {CX : CXT} {k : Nat} {C f : Addr} {fd : FuncData} {ps : List Str} {sp : Sp} {E : XK} (hq0 : PySem.W.noSeq X.K C = true) (hm : Meth X.K C "__setitem__" f)
    (F : FnOk X.prog X.w X.K X.mg X.base CX k f fd ps sp) (hr : Room k X.A) (hb : Binds X.K fd ps []) (hx : Passes CX X E) : PSet X (rSetOwn C sp E) := by
  intro pins s σ H o i v ov iv u Q I ro ri rv h
  obtain ⟨p, dx, fs, rfl, ep, hsp⟩ := h
  obtain rfl : ov = Value.ref p := ro
  obtain ⟨mA, Ob, _⟩ := ins_get I.hok ep
  obtain ⟨od, J, _⟩ := Ob.look
  obtain ⟨m, hF⟩ := I.fr
  refine PySem.W.ksp_setItem hF I.ok.mod.kin J hq0 hm.at_ hm.fn (wpAny_call ?_)
  have two : ([Value.ref p, iv, u] ++ []).length = ps.length := by rw [← F.len _ _ _ _ hsp]; rfl
  refine codeAny_mono (F.run X.A X.stack s H ⟨[.ref p, iv, u], []⟩ [.ref p, iv, u] [.ref p, i, v] (fun _ H' => Q H') E hr I.env0 (by simpa using hb s [.ref p, iv, u] I.kIn two) (.cons rfl (.cons ri (.cons rv .nil))) hsp) fun r s' hq => ?_
  cases r with
  | error er => exact hx pins σ H s er s' I hq
  | ok fl =>
    cases fl with
    | ret u =>
      obtain ⟨z, H', I', rz, q⟩ := I.after hq
      exact ⟨H', I', q⟩
    | next => exact False.elim hq
    | brk => exact False.elim hq
    | cont => exact False.elim hq
end Nt

namespace Nt
open PySem PySem.Spec PyProof.Rows L2 Evl
/-- built-in names that the module leaves alone -/
structure Bi (mg : Str → Option Value) : Prop where
  len : mg "len" = none
  int : mg "int" = none
  range : mg "range" = none
  abs : mg "abs" = none
  min : mg "min" = none
  sorted : mg "sorted" = none
  list : mg "list" = none
  isinstance : mg "isinstance" = none
  enumerate : mg "enumerate" = none
  zip : mg "zip" = none
  bool : mg "bool" = none
  str : mg "str" = none
  tuple : mg "tuple" = none
/-! ### more about tables -/
theorem tab_snoc {α β : Type} {n : Nat} (c : β → α) (g : Nat → β) (z : β) : tab n (fun j => c (g j)) ++ [c z] = tab (n + 1) fun j => c (if j = n then z else g j) := by
  rw [tab_succ, if_pos rfl]
  refine congrArg (· ++ [c z]) (tab_congr fun i hi => ?_)
  rw [if_neg (Nat.ne_of_lt hi)]
theorem et_yes {σ : L2.St} {H : Hp} : EvT tYes σ H true := fun H1 _ _ q => q H1 (Ex.refl H1)
theorem rv_0 {g : Int → Int → V} {i j : Int} {H : Hp} : RV (rI0 g) (.int i) (.int j) H (g i j) := rv_I0
/-! ### a list of ints beside [] -/
theorem ints_dp {K : PySem.W.Frag} {H : Hp} : ∀ ns : List Int, DpAll K H (ns.map V.int) (ns.map PyData.int)
  | [] => .nil
  | n :: ns => .cons (.int n) (ints_dp ns)
theorem ints_lay : ∀ ns : List Int, PyData.canLayAll0 (ns.map PyData.int) = true
  | [] => by simp [PyData.canLayAll0]
  | n :: ns => by simp [PyData.canLayAll0, PyData.canLay0, ints_lay ns]
theorem ints_deep : ∀ ns : List Int, PyData.depthAll (ns.map PyData.int) ≤ 2
  | [] => by simp [PyData.depthAll]
  | n :: ns => by
    have h := ints_deep ns
    simp only [List.map_cons, PyData.depthAll, PyData.depth]
    omega
theorem shaped_by {d : PyData} (h1 : d.canLay0 = true) (h2 : d.depth ≤ 64) : SeqAt.shaped d = true := by
  show (d.canLay0 && decide (d.depth ≤ 64)) = true
  rw [h1, decide_eq_true h2]
  rfl
theorem ints_shaped (ns : List Int) : SeqAt.shaped (.list (ns.map PyData.int)) = true := by
  refine shaped_by (by simp only [PyData.canLay0]; exact ints_lay ns) ?_
  have h := ints_deep ns
  simp only [PyData.depth]
  omega
theorem ints_nil (ns : List Int) : PyData.eqv (.list (ns.map PyData.int)) (.list []) = ns.isEmpty := by
  cases ns with
  | nil => simp [PyData.eqv, PyData.eqvAll]
  | cons n ns => simp [PyData.eqv, PyData.eqvAll]
end Nt

namespace Nt
open PySem PySem.Spec PyProof.Rows L2 Evl TL
/-! ### letters and words by their places in the alphabet -/
def wtx (w : List Nat) : Str := ⟨(w.map (97 + ·)).toArray⟩
def lt1 (c : Nat) : Str := ⟨#[97 + c]⟩
def lets (n : Nat) : Str := wtx (List.range n)
theorem wtx_size (w : List Nat) : (wtx w).cps.size = w.length := by
  unfold wtx
  rw [List.size_toArray, List.length_map]
theorem wtx_len (w : List Nat) : (wtx w).length = w.length := wtx_size w
theorem wtx_get (w : List Nat) (i : Nat) : (wtx w).cps[i]? = w[i]?.map (97 + ·) := by
  unfold wtx
  rw [List.getElem?_toArray, List.getElem?_map]
theorem wtx_list (w : List Nat) : (wtx w).cps.toList = w.map (97 + ·) := rfl
theorem wtx_at {w : List Nat} {i z : Nat} (h : (wtx w).cps[i]? = some z) : ∃ c, w[i]? = some c ∧ (⟨#[z]⟩ : Str) = lt1 c := by
  rw [wtx_get] at h
  cases e : w[i]? with
  | none =>
    rw [e] at h
    cases h
  | some c =>
    rw [e] at h
    cases h
    exact ⟨c, rfl, rfl⟩
theorem lets_len (n : Nat) : (lets n).length = n := by
  unfold lets
  rw [wtx_len, List.length_range]
theorem lets_atI {n c : Nat} (h : c < n) : atI (lets n).cps.toList ((c : Nat) : Int) = some (97 + c) := by
  refine atI_nat ?_
  show ((List.range n).map (97 + ·))[c]? = _
  rw [List.getElem?_map, List.getElem?_range h]
  rfl
theorem lt1_inj {a b : Nat} (h : lt1 a = lt1 b) : a = b := by
  unfold lt1 at h
  injection h with h
  injection h with h
  injection h with h
  omega
theorem joinL_nil : ∀ l : List (List Nat), joinL [] l = l.flatten
  | [] => rfl
  | [p] => by simp [joinL]
  | p :: q :: r => by
    show p ++ ([] ++ joinL [] (q :: r)) = _
    rw [joinL_nil (q :: r)]
    simp
theorem join_lt1 {y : Str} (hy : y.cps.toList = []) (w : List Nat) : Txt.join y (w.map lt1) = wtx w := by
  rw [join_eq]
  have h : (Str.join y (w.map lt1)).cps.toList = (wtx w).cps.toList := by
    rw [show (Str.join y (w.map lt1)).cps.toList = tl (Str.join y (w.map lt1)) from rfl, tl_join, show tl y = [] from hy, joinL_nil, wtx_list]
    clear hy
    induction w with
    | nil => rfl
    | cons c w ih =>
      rw [List.map_cons, List.map_cons, List.flatten_cons, ih, List.map_cons]
      rfl
  cases e1 : Str.join y (w.map lt1) with
  | mk a =>
    rw [e1] at h
    cases e2 : wtx w with
    | mk b =>
      rw [e2] at h
      exact congrArg Str.mk (Array.toList_inj.mp h)
theorem sum_lt1 (w : List Nat) : ((w.map lt1).map (·.length)).sum = w.length := by
  induction w with
  | nil => rfl
  | cons c w ih =>
    rw [List.map_cons, List.map_cons, List.sum_cons, ih, List.length_cons]
    show 1 + w.length = w.length + 1
    omega
theorem abcd_at : ∀ c, c < 4 → ∃ rest, Builtin.Str.occurrences ("abcd" : Str) (lt1 c) 0 ("abcd" : Str).length 1 = c :: rest
  | 0, _ => ⟨[], by decide +kernel⟩
  | 1, _ => ⟨[], by decide +kernel⟩
  | 2, _ => ⟨[], by decide +kernel⟩
  | 3, _ => ⟨[], by decide +kernel⟩
  | n + 4, h => absurd h (by omega)
/-! ### for over a text -/
section
variable {σ : L2.St} {H : Hp} {te : TE} {D : Ends} {tu tz : TS}
theorem s_forS {z : Str} {j : Nat} (h : Ev te σ H (.str z)) (Pv : Nat → L2.St → Hp → Prop) (h0 : ∀ H1, Ex H H1 → Pv 0 σ H1)
    (hs : ∀ i c σ' H', z.cps[i]? = some c → Pv i σ' H' → tu { D with nx := Pv (i + 1), ct := Pv (i + 1), bk := D.nx } (σ'.set j (some (.str ⟨#[c]⟩))) H') (hd : ∀ σ' H', Pv z.cps.size σ' H' → D.nx σ' H') : tFor (iStr te) (gName j) tu D σ H :=
  h H (Ex.refl H) _ fun H1 e => ⟨z, rfl, for_it walk_str Pv (h0 H1 e) (fun _ _ _ _ _ => trivial) (fun i x σ' H' H'' hi p y => by
    obtain ⟨rfl, c, hc, rfl⟩ := y
    exact hs i c σ' _ hc p) hd⟩
theorem q_forS {z : Str} {j : Nat} (h : Ev te σ H (.str z)) (Pv : Nat → L2.St → Hp → Prop) (h0 : ∀ H1, Ex H H1 → Pv 0 σ H1)
    (hs : ∀ i c σ' H', z.cps[i]? = some c → Pv i σ' H' → tu { D with nx := Pv (i + 1), ct := Pv (i + 1), bk := tz D } (σ'.set j (some (.str ⟨#[c]⟩))) H') (hd : ∀ σ' H', Pv z.cps.size σ' H' → tz D σ' H') : tSeq (tFor (iStr te) (gName j) tu) tz D σ H :=
  s_forS (D := { D with nx := tz D }) h Pv h0 hs hd
theorem ev_int1 {i : Int} (h : Ev te σ H (.int i)) : Ev (tCB (fun xs H Q => (∃ i, xs = [V.int i] ∧ Q (.int i) H) ∨ (∃ k, xs = [V.bl k] ∧ Q (.int (b2i k)) H)) (tCons te tNil)) σ H (.int i) := ev_cb (ea_cons h ea_nil) fun H1 _ Q q => .inl ⟨i, rfl, q H1 (Ex.refl H1)⟩
theorem ev_lenS {z : Str} (h : Ev te σ H (.str z)) (hz : z.length ≤ 100000) : Ev (tCB (fun xs H Q => ∃ x, xs = [V.str x] ∧ x.length ≤ sizeLine ∧ Q (.int x.length) H) (tCons te tNil)) σ H (.int (z.length : Nat)) := ev_cb (ea_cons h ea_nil) fun H1 _ Q q => ⟨z, rfl, sz_of hz, q H1 (Ex.refl H1)⟩
end
/-! ### a machine of the law -/
structure Mac where
  many : Nat
  size : Nat
  tg : Nat → Nat → Nat
  mkd : Nat → Nat → Bool
  start : Nat
structure Mac.Ok (m : Mac) : Prop where
  m1 : 1 ≤ m.many
  m4 : m.many ≤ 4
  s1 : 1 ≤ m.size
  s8 : m.size ≤ 8
  st : m.start < m.size
  tg : ∀ s c, m.tg s c < m.size
structure MacBy (H : Hp) (a aT aM : Addr) (rT rM : Nat → Addr) (m : Mac) : Prop where
  top : H a = some (.lst [.str (lets m.many), .ref aT, .ref aM, .int (m.start : Int)])
  tT : H aT = some (.lst (tab m.size fun s => .ref (rT s)))
  tM : H aM = some (.lst (tab m.size fun s => .ref (rM s)))
  row : ∀ s, s < m.size → H (rT s) = some (.lst (tab m.many fun c => .int (m.tg s c : Int)))
  rowM : ∀ s, s < m.size → H (rM s) = some (.lst (tab m.many fun c => .bl (m.mkd s c)))
def MacAt (H : Hp) (a : Addr) (m : Mac) : Prop := ∃ aT aM rT rM, MacBy H a aT aM rT rM m
section
variable {H H' : Hp} {a aT aM : Addr} {rT rM : Nat → Addr} {m : Mac} {K : PySem.W.Frag} {σ : L2.St} {ta ts tc : TE} {s c : Nat}
theorem MacBy.ex (M : MacBy H a aT aM rT rM m) (e : Ex H H') : MacBy H' a aT aM rT rM m := ⟨e _ _ M.top, e _ _ M.tT, e _ _ M.tM, fun s h => e _ _ (M.row s h), fun s h => e _ _ (M.rowM s h)⟩
theorem MacAt.ex (M : MacAt H a m) (e : Ex H H') : MacAt H' a m := let ⟨_, _, _, _, M⟩ := M; ⟨_, _, _, _, M.ex e⟩
theorem MacBy.evL (M : MacBy H a aT aM rT rM m) (ha : Ev ta σ H (.ref a)) : Ev (tOp (rIxL K) ta (tC (.int 0))) σ H (.str (lets m.many)) := ev_op ha ev_c (rv_ixL (sq_of M.top) rfl)
theorem MacBy.evT (M : MacBy H a aT aM rT rM m) (ha : Ev ta σ H (.ref a)) : Ev (tOp (rIxL K) ta (tC (.int 1))) σ H (.ref aT) := ev_op ha ev_c (rv_ixL (sq_of M.top) rfl)
theorem MacBy.evM (M : MacBy H a aT aM rT rM m) (ha : Ev ta σ H (.ref a)) : Ev (tOp (rIxL K) ta (tC (.int 2))) σ H (.ref aM) := ev_op ha ev_c (rv_ixL (sq_of M.top) rfl)
theorem MacBy.evS (M : MacBy H a aT aM rT rM m) (ha : Ev ta σ H (.ref a)) : Ev (tOp (rIxL K) ta (tC (.int 3))) σ H (.int (m.start : Int)) := ev_op ha ev_c (rv_ixL (sq_of M.top) rfl)
theorem MacBy.evTg (M : MacBy H a aT aM rT rM m) (ha : Ev ta σ H (.ref a)) (hs : Ev ts σ H (.int (s : Nat))) (hc : Ev tc σ H (.int (c : Nat))) (h1 : s < m.size) (h2 : c < m.many) :
    Ev (tOp (rIxL K) (tOp (rIxL K) (tOp (rIxL K) ta (tC (.int 1))) ts) tc) σ H (.int (m.tg s c : Int)) := ev_op (ev_op (M.evT ha) hs (rv_ixL (sq_of M.tT) (atI_nat (tab_at h1 _)))) hc (rv_ixL (sq_of (M.row s h1)) (atI_nat (tab_at h2 _)))
theorem MacBy.evMk (M : MacBy H a aT aM rT rM m) (ha : Ev ta σ H (.ref a)) (hs : Ev ts σ H (.int (s : Nat))) (hc : Ev tc σ H (.int (c : Nat))) (h1 : s < m.size) (h2 : c < m.many) :
    Ev (tOp (rIxL K) (tOp (rIxL K) (tOp (rIxL K) ta (tC (.int 2))) ts) tc) σ H (.bl (m.mkd s c)) := ev_op (ev_op (M.evM ha) hs (rv_ixL (sq_of M.tM) (atI_nat (tab_at h1 _)))) hc (rv_ixL (sq_of (M.rowM s h1)) (atI_nat (tab_at h2 _)))
theorem MacBy.evN (M : MacBy H a aT aM rT rM m) (ha : Ev ta σ H (.ref a)) : Ev (tCB (rLenS K) (tCons (tOp (rIxL K) ta (tC (.int 1))) tNil)) σ H (.int (m.size : Int)) := ev_is (ev_len (M.evT ha) (sq_of M.tT)) (by rw [tab_len])
theorem MacBy.evC (o : m.Ok) (M : MacBy H a aT aM rT rM m) (ha : Ev ta σ H (.ref a)) : Ev (tCB (fun xs H Q => ∃ x, xs = [V.str x] ∧ x.length ≤ sizeLine ∧ Q (.int x.length) H) (tCons (tOp (rIxL K) ta (tC (.int 0))) tNil)) σ H (.int (m.many : Int)) :=
  ev_is (ev_lenS (M.evL ha) (by rw [lets_len]; have := o.m4; omega)) (by rw [lets_len])
theorem MacBy.evLt (o : m.Ok) (M : MacBy H a aT aM rT rM m) (ha : Ev ta σ H (.ref a)) (hc : Ev tc σ H (.int (c : Nat))) (h : c < m.many) : Ev (tOp rIxS (tOp (rIxL K) ta (tC (.int 0))) tc) σ H (.str (lt1 c)) :=
  ev_op (M.evL ha) hc (rv_ixS (by rw [lets_len]; have := o.m4; omega) (lets_atI h))
end
/-! ### what the law's helpers tell of a machine -/
def Mac.go (m : Mac) (p : Nat × Bool) (c : Nat) : Nat × Bool := (m.tg p.1 c, p.2 || m.mkd p.1 c)
def Mac.lap (m : Mac) (s : Nat) (w : List Nat) : Nat × Bool := w.foldl m.go (s, false)
theorem Mac.go_lt {m : Mac} (o : m.Ok) : ∀ (w : List Nat) (p : Nat × Bool), p.1 < m.size → (w.foldl m.go p).1 < m.size
  | [], _, h => h
  | c :: w, p, _ => Mac.go_lt o w (m.go p c) (o.tg _ _)
theorem Mac.lap_lt {m : Mac} (o : m.Ok) {s : Nat} (h : s < m.size) (w : List Nat) : (m.lap s w).1 < m.size := Mac.go_lt o w _ h
theorem Mac.lap_snoc {m : Mac} {s c i : Nat} {w : List Nat} (h : w[i]? = some c) : m.lap s (w.take (i + 1)) = m.go (m.lap s (w.take i)) c := by
  unfold Mac.lap
  rw [List.take_succ, h, List.foldl_append]
  rfl
/-- the marked transitions in order -/
def Mac.rowTo (m : Mac) (s : Nat) : Nat → List (Nat × Nat)
  | 0 => []
  | j + 1 => m.rowTo s j ++ (if m.mkd s j then [(s, j)] else [])
def Mac.upto (m : Mac) : Nat → List (Nat × Nat)
  | 0 => []
  | i + 1 => m.upto i ++ m.rowTo i m.many
def Mac.prs (m : Mac) : List (Nat × Nat) := m.upto m.size
theorem Mac.rowTo_len (m : Mac) (s : Nat) : ∀ j, (m.rowTo s j).length ≤ j
  | 0 => Nat.le_refl _
  | j + 1 => by
    have h := Mac.rowTo_len m s j
    show (m.rowTo s j ++ _).length ≤ _
    rw [List.length_append]
    cases m.mkd s j <;> simp <;> omega
theorem Mac.upto_len (m : Mac) : ∀ i, (m.upto i).length ≤ i * m.many
  | 0 => by simp [Mac.upto]
  | i + 1 => by
    have h := Mac.upto_len m i
    have h2 := m.rowTo_len i m.many
    show (m.upto i ++ m.rowTo i m.many).length ≤ _
    rw [List.length_append, Nat.succ_mul]
    omega
theorem Mac.mem_rowTo {m : Mac} {s : Nat} {q : Nat × Nat} : ∀ {j}, q ∈ m.rowTo s j ↔ q.1 = s ∧ q.2 < j ∧ m.mkd s q.2 = true
  | 0 => by simp [Mac.rowTo]
  | j + 1 => by
    rw [Mac.rowTo, List.mem_append, Mac.mem_rowTo (j := j)]
    obtain ⟨x, y⟩ := q
    constructor
    · rintro (⟨h1, h2, h3⟩ | h)
      · exact ⟨h1, by omega, h3⟩
      · cases e : m.mkd s j with
        | false =>
          rw [e] at h
          cases h
        | true =>
          rw [e] at h
          rcases List.mem_singleton.mp h with h
          cases h
          exact ⟨rfl, Nat.lt_succ_self _, e⟩
    · rintro ⟨rfl, h2, h3⟩
      by_cases z : y = j
      · subst z
        exact Or.inr (by rw [show m.mkd _ y = true from h3]; exact List.mem_singleton.mpr rfl)
      · exact Or.inl ⟨rfl, by show y < j; simp only at h2; omega, h3⟩
theorem Mac.mem_upto {m : Mac} {q : Nat × Nat} : ∀ {i}, q ∈ m.upto i ↔ q.1 < i ∧ q.2 < m.many ∧ m.mkd q.1 q.2 = true
  | 0 => by simp [Mac.upto]
  | i + 1 => by
    rw [Mac.upto, List.mem_append, Mac.mem_upto (i := i), Mac.mem_rowTo]
    constructor
    · rintro (⟨h1, h2, h3⟩ | ⟨h1, h2, h3⟩)
      · exact ⟨by omega, h2, h3⟩
      · exact ⟨by omega, h2, by rw [h1]; exact h3⟩
    · rintro ⟨h1, h2, h3⟩
      by_cases z : q.1 = i
      · exact Or.inr ⟨z, h2, by rw [← z]; exact h3⟩
      · exact Or.inl ⟨by omega, h2, h3⟩
theorem Mac.mem_prs {m : Mac} {q : Nat × Nat} : q ∈ m.prs ↔ q.1 < m.size ∧ q.2 < m.many ∧ m.mkd q.1 q.2 = true := Mac.mem_upto
theorem Mac.prs_len {m : Mac} (o : m.Ok) : m.prs.length ≤ 32 := by
  have h := m.upto_len m.size
  have h1 := Nat.mul_le_mul o.s8 o.m4
  show (m.upto m.size).length ≤ 32
  omega
/-- at p a list of pairs (state, letter), each its own tuple -/
def PrsAt (H : Hp) (p : Addr) (l : List (Nat × Nat)) : Prop := ∃ ad : List (Addr × Nat × Nat), H p = some (.lst (ad.map fun x => V.ref x.1)) ∧ ad.map Prod.snd = l ∧ ∀ x ∈ ad, H x.1 = some (.tup [.int (x.2.1 : Nat), .str (lt1 x.2.2)])
theorem PrsAt.ex {H H' : Hp} {p : Addr} {l : List (Nat × Nat)} (h : PrsAt H p l) (e : Ex H H') : PrsAt H' p l := let ⟨ad, h1, h2, h3⟩ := h; ⟨ad, e _ _ h1, h2, fun x hx => e _ _ (h3 x hx)⟩
theorem PrsAt.nil {H : Hp} {p : Addr} (h : H p = some (.lst [])) : PrsAt H p [] := ⟨[], h, rfl, fun _ hx => nomatch hx⟩
theorem PrsAt.len {H : Hp} {p : Addr} {l : List (Nat × Nat)} (h : PrsAt H p l) : ∃ xs, H p = some (.lst xs) ∧ xs.length = l.length := let ⟨ad, h1, h2, _⟩ := h; ⟨_, h1, by rw [List.length_map, ← h2, List.length_map]⟩
theorem PrsAt.snoc {H H1 : Hp} {p q : Addr} {l : List (Nat × Nat)} {s c : Nat} {xs : List V} (h : PrsAt H p l) (e : Ex H H1) (hx : H p = some (.lst xs)) (hq : H1 q = some (.tup [.int (s : Nat), .str (lt1 c)])) : PrsAt (upd H1 p (.lst (xs ++ [.ref q]))) p (l ++ [(s, c)]) := by
  obtain ⟨ad, h1, h2, h3⟩ := h
  have hx2 := e _ _ h1
  rw [h1] at hx
  have ex : (ad.map fun x => V.ref x.1) = xs := by injection hx with hx; injection hx with hx
  refine ⟨ad ++ [(q, s, c)], ?_, ?_, fun x hx => ?_⟩
  · rw [upd_same, List.map_append, ex]
    rfl
  · rw [List.map_append, h2]
    rfl
  · rcases List.mem_append.mp hx with hx | hx
    · have hh := e _ _ (h3 x hx)
      rw [upd_ne (fun z => by rw [z, e _ _ h1] at hh; injection hh with hh; injection hh)]
      exact hh
    · rw [List.mem_singleton.mp hx]
      have hh : H1 q = some (.tup [.int (s : Nat), .str (lt1 c)]) := hq
      have ne : q ≠ p := fun z => by
        rw [z] at hh
        rw [hx2] at hh
        injection hh with hh
        injection hh
      show upd H1 p _ q = _
      rw [upd_ne ne]
      exact hq
end Nt
namespace Nt
open PySem PySem.Spec PyProof.Rows L2 Evl TL
/-- the reading of a join -/
def rJn (K : PySem.W.Frag) : V → List V → Hp → VK → Prop := fun x xs H Q => ∃ a p, ∃ ys : List Str, x = .str a ∧ xs = [.ref p] ∧ (SqL K H p (ys.map V.str) ∨ SqT K H p (ys.map V.str)) ∧ (ys.map (·.length)).sum + ys.length * a.length ≤ 16777216 ∧ Q (.str (Txt.join a ys)) H
theorem ev_join {K : PySem.W.Frag} {σ : L2.St} {H : Hp} {to te : TE} {y : Str} {xs : List V} (ys : List Str) (hs : Ev to σ H (.str y)) (hl : EvL te σ H xs) (hx : xs = ys.map V.str) (hz : (ys.map (·.length)).sum + ys.length * y.length ≤ 16777216) :
    Ev (tM1 (rJn K) to te) σ H (.str (Txt.join y ys)) := fun H1 e Q q => hs H1 e _ fun H2 e2 => ⟨⟨_, rfl⟩, hl H2 (e.trans e2) _ fun p H3 hp e3 h3 => ⟨y, p, ys, rfl, rfl, Or.inl (sq_of (by rw [h3, hx])), hz, q H3 (e2.trans e3)⟩⟩
end Nt

namespace Nt
open PySem PySem.Spec PyProof.Rows L2 Evl TL
section
variable {K : PySem.W.Frag} {σ : L2.St} {H H' : Hp} {ta tb te : TE} {t : TT} {D : Ends} {tu tz : TS} {i : Nat}
theorem q_asgQ (h : te σ H fun v H1 => tz D (σ.set i (some v)) H1) : tSeq (tAsg te (gName i)) tz D σ H := h
theorem ev_lis {xs ys : List V} (h : EvL te σ H xs) (e : xs = ys) : EvL te σ H ys := by
  rw [← e]
  exact h
theorem q_sorted {xs : List V} {ns : List Int} (h : EvL te σ H xs) (hx : xs = ns.map V.int) (hn : ns.length < 64)
    (k : ∀ (ns' : List Int) p H1, ns'.Perm ns → H p = none → Ex H H1 → H1 p = some (.lst (ns'.map V.int)) → tz D (σ.set i (some (.ref p))) H1) : tSeq (tAsg (tCB (rSorted K) (tCons te tNil)) (gName i)) tz D σ H :=
  h H (Ex.refl H) _ fun q H1 hq e1 h1 => ⟨q, ns, rfl, sq_of (by rw [h1, hx]), hn, fun ns' p hp _ hnew => k ns' p _ hp (fresh_back e1 hnew) (e1.trans (Ex.new hnew)) upd_same⟩
theorem el_listRg {n : Nat} (h : Ev ta σ H (.int (n : Nat))) (hn : n ≤ 100000) : EvL (tLstRg (tRg1 ta)) σ H (tab n fun j => .int (j : Nat)) := fun H1 e Q q =>
  h H1 e _ fun H2 e2 => ⟨n, rfl, ⟨by omega, by omega, by omega, by omega, by omega⟩, fun p hp => by
    have eq : rgV 0 (n : Int) = tab n fun j => .int (j : Nat) := by
      unfold rgV tab
      rw [Int.sub_zero, Int.toNat_natCast]
      exact List.map_congr_left fun j _ => congrArg V.int (Int.zero_add _)
    rw [eq]
    exact q p _ (fresh_back e2 hp) (e2.trans (Ex.new hp)) upd_same⟩
theorem ev_slS {tl th : TO} {z : Str} {lo hi : Option Int} (h : Ev te σ H (.str z)) (h1 : EvO tl σ H lo) (h2 : EvO th σ H hi) (hz : z.length ≤ 100000) : Ev (tSl rSlS te tl th) σ H (.str (cutS z lo hi)) := fun H1 e Q q =>
  h H1 e _ fun H2 e2 => h1 H2 (e.trans e2) _ fun H3 e3 => h2 H3 ((e.trans e2).trans e3) _ fun H4 e4 => ⟨z, rfl, sz_of hz, q H4 ((e2.trans e3).trans e4)⟩
theorem ev_min2 {a b : Int} (ha : Ev ta σ H (.int a)) (hb : Ev tb σ H (.int b)) : Ev (tCB (fun xs H Q => ∃ i j, xs = [V.int i, .int j] ∧ Q (.int (if j < i then j else i)) H) (tCons ta (tCons tb tNil))) σ H (.int (if b < a then b else a)) := fun H1 e Q q =>
  ha H1 e _ fun H2 e2 => hb H2 (e.trans e2) _ fun H3 e3 => ⟨a, b, rfl, q H3 (e2.trans e3)⟩
/-- names.index(x), found first at j -/
theorem ev_index {p : Addr} {ys : List V} {y z : V} {j : Nat} (ha : Ev ta σ H (.ref p)) (hs : SqL K H p ys) (hb : Ev tb σ H y) (fy : flatV y = true) (fys : ys.all flatV = true) (hz : ys[j]? = some z) (hzy : eqV z y = true) (hno : ∀ (m : Nat) (z' : V), m < j → ys[m]? = some z' → eqV z' y = false) :
    Ev (tBM K "list" (rIndex K) ta (tCons tb tNil)) σ H (.int (j : Nat)) := fun H1 e Q q =>
  ha H1 e _ fun H2 e2 => ⟨.inl ⟨rfl, ys, ex_l (e.trans e2) hs⟩, hb H2 (e.trans e2) _ fun H3 e3 => ⟨p, ys, y, j, z, rfl, rfl, ex_l ((e.trans e2).trans e3) hs, fy, fys, hz, hzy, hno, q H3 (e2.trans e3)⟩⟩
end
theorem tab_clash {α : Type} {n k : Nat} {f g : Nat → α} (hk : 0 < k) (h : tab k f = tab n g) : f 0 = g 0 := by
  have hn : n = k := by
    have h1 := congrArg List.length h
    rw [tab_len, tab_len] at h1
    exact h1.symm
  subst hn
  have h2 := congrArg (fun l => l[0]?) h
  simp only [tab_at hk] at h2
  exact Option.some.inj h2
theorem tab_setI {n i : Nat} {f : Nat → Nat} {v : Nat} : (tab n fun j => V.int (f j : Nat)).set i (.int (v : Nat)) = tab n fun j => V.int ((if j = i then v else f j : Nat) : Int) := by
  rw [tab_set]
  refine tab_congr fun j _ => ?_
  by_cases e : j = i
  · rw [if_pos e, if_pos e]
  · rw [if_neg e, if_neg e]
theorem tab_setB {n i : Nat} {f : Nat → Bool} {v : Bool} : (tab n fun j => V.bl (f j)).set i (.bl v) = tab n fun j => V.bl (if j = i then v else f j) := by
  rw [tab_set]
  refine tab_congr fun j _ => ?_
  by_cases e : j = i
  · rw [if_pos e, if_pos e]
  · rw [if_neg e, if_neg e]
/-! ### the two tables under way: n rows each of k, all new and apart -/
structure Two (H H' : Hp) (pT pM : Addr) (rT rM : Nat → Addr) (n k : Nat) (tg : Nat → Nat → Nat) (mk : Nat → Nat → Bool) : Prop where
  ex : Ex H H'
  T : H' pT = some (.lst (tab n fun i => .ref (rT i)))
  M : H' pM = some (.lst (tab n fun i => .ref (rM i)))
  tr : ∀ i, i < n → H' (rT i) = some (.lst (tab k fun c => .int (tg i c : Nat)))
  mr : ∀ i, i < n → H' (rM i) = some (.lst (tab k fun c => .bl (mk i c)))
  nT : H pT = none
  nM : H pM = none
  nt : ∀ i, i < n → H (rT i) = none
  nm : ∀ i, i < n → H (rM i) = none
  ta : ∀ i j, i < n → j < n → rT i = rT j → i = j
  ma : ∀ i j, i < n → j < n → rM i = rM j → i = j
  ne : pT ≠ pM
section
variable {H H' H1 H3 : Hp} {pT pM qT qM : Addr} {rT rM : Nat → Addr} {n k i j : Nat} {tg : Nat → Nat → Nat} {mk : Nat → Nat → Bool}
theorem Two.more (Z : Two H H' pT pM rT rM n k tg mk) (e : Ex H' H1) : Two H H1 pT pM rT rM n k tg mk :=
  ⟨Z.ex.trans e, e _ _ Z.T, e _ _ Z.M, fun i h => e _ _ (Z.tr i h), fun i h => e _ _ (Z.mr i h), Z.nT, Z.nM, Z.nt, Z.nm, Z.ta, Z.ma, Z.ne⟩
theorem lst_inj {xs ys : List V} {o : Option HO} (h1 : o = some (.lst xs)) (h2 : o = some (.lst ys)) : xs = ys := by
  rw [h1] at h2
  injection h2 with h2
  injection h2
theorem Two.tT (Z : Two H H' pT pM rT rM n k tg mk) (k0 : 0 < k) (hi : i < n) : rT i ≠ pT := fun e => by
  have h := Z.tr i hi
  rw [e] at h
  cases tab_clash k0 (lst_inj h Z.T)
theorem Two.tM (Z : Two H H' pT pM rT rM n k tg mk) (k0 : 0 < k) (hi : i < n) : rT i ≠ pM := fun e => by
  have h := Z.tr i hi
  rw [e] at h
  cases tab_clash k0 (lst_inj h Z.M)
theorem Two.mT (Z : Two H H' pT pM rT rM n k tg mk) (k0 : 0 < k) (hi : i < n) : rM i ≠ pT := fun e => by
  have h := Z.mr i hi
  rw [e] at h
  cases tab_clash k0 (lst_inj h Z.T)
theorem Two.mM (Z : Two H H' pT pM rT rM n k tg mk) (k0 : 0 < k) (hi : i < n) : rM i ≠ pM := fun e => by
  have h := Z.mr i hi
  rw [e] at h
  cases tab_clash k0 (lst_inj h Z.M)
theorem Two.tm (Z : Two H H' pT pM rT rM n k tg mk) (k0 : 0 < k) (hi : i < n) (hj : j < n) : rT i ≠ rM j := fun e => by
  have h := Z.tr i hi
  rw [e] at h
  cases tab_clash k0 (lst_inj h (Z.mr j hj))
theorem Two.empty {H H' : Hp} {pT pM : Addr} (e : Ex H H') (h1 : H' pT = some (.lst [])) (h2 : H' pM = some (.lst [])) (n1 : H pT = none) (n2 : H pM = none) (ne : pT ≠ pM) (k : Nat) (tg : Nat → Nat → Nat) (mk : Nat → Nat → Bool) : Two H H' pT pM (fun _ => 0) (fun _ => 0) 0 k tg mk :=
  ⟨e, h1, h2, fun i h => absurd h (Nat.not_lt_zero i), fun i h => absurd h (Nat.not_lt_zero i), n1, n2, fun i h => absurd h (Nat.not_lt_zero i), fun i h => absurd h (Nat.not_lt_zero i), fun i j h => absurd h (Nat.not_lt_zero i), fun i j h => absurd h (Nat.not_lt_zero i), ne⟩
theorem Two.setT (Z : Two H H' pT pM rT rM n k tg mk) (k0 : 0 < k) (hi : i < n) (v : Nat) : Two H (upd H' (rT i) (.lst ((tab k fun c => V.int (tg i c : Nat)).set j (.int (v : Nat))))) pT pM rT rM n k (fun s c => if s = i ∧ c = j then v else tg s c) mk := by
  refine ⟨Ex.mut Z.ex (Z.nt i hi), ?_, ?_, fun s hs => ?_, fun s hs => ?_, Z.nT, Z.nM, Z.nt, Z.nm, Z.ta, Z.ma, Z.ne⟩
  · rw [upd_ne (Z.tT k0 hi).symm]
    exact Z.T
  · rw [upd_ne (Z.tM k0 hi).symm]
    exact Z.M
  · by_cases e : s = i
    · subst e
      rw [upd_same, tab_setI]
      refine congrArg (fun l => some (HO.lst l)) (tab_congr fun c _ => ?_)
      by_cases ec : c = j
      · rw [if_pos ec, if_pos ⟨rfl, ec⟩]
      · rw [if_neg ec, if_neg fun z => ec z.2]
    · rw [upd_ne fun z => e (Z.ta s i hs hi z), Z.tr s hs]
      refine congrArg (fun l => some (HO.lst l)) (tab_congr fun c _ => ?_)
      rw [if_neg fun z => e z.1]
  · rw [upd_ne (Z.tm k0 hi hs).symm]
    exact Z.mr s hs
theorem Two.setM (Z : Two H H' pT pM rT rM n k tg mk) (k0 : 0 < k) (hi : i < n) (v : Bool) : Two H (upd H' (rM i) (.lst ((tab k fun c => V.bl (mk i c)).set j (.bl v)))) pT pM rT rM n k tg (fun s c => if s = i ∧ c = j then v else mk s c) := by
  refine ⟨Ex.mut Z.ex (Z.nm i hi), ?_, ?_, fun s hs => ?_, fun s hs => ?_, Z.nT, Z.nM, Z.nt, Z.nm, Z.ta, Z.ma, Z.ne⟩
  · rw [upd_ne (Z.mT k0 hi).symm]
    exact Z.T
  · rw [upd_ne (Z.mM k0 hi).symm]
    exact Z.M
  · rw [upd_ne (Z.tm k0 hs hi)]
    exact Z.tr s hs
  · by_cases e : s = i
    · subst e
      rw [upd_same, tab_setB]
      refine congrArg (fun l => some (HO.lst l)) (tab_congr fun c _ => ?_)
      by_cases ec : c = j
      · rw [if_pos ec, if_pos ⟨rfl, ec⟩]
      · rw [if_neg ec, if_neg fun z => ec z.2]
    · rw [upd_ne fun z => e (Z.ma s i hs hi z), Z.mr s hs]
      refine congrArg (fun l => some (HO.lst l)) (tab_congr fun c _ => ?_)
      rw [if_neg fun z => e z.1]
/-- one more row in both -/
theorem Two.grow (Z : Two H H' pT pM rT rM n k tg mk) (k0 : 0 < k) {a : Nat → Nat} {b : Nat → Bool} (hq : H' qT = none) (e1 : Ex H' H1) (h1 : H1 qT = some (.lst (tab k fun c => .int (a c : Nat)))) (hr : upd H1 pT (.lst (tab n (fun i => V.ref (rT i)) ++ [.ref qT])) qM = none)
    (e3 : Ex (upd H1 pT (.lst (tab n (fun i => V.ref (rT i)) ++ [.ref qT]))) H3) (h3 : H3 qM = some (.lst (tab k fun c => .bl (b c)))) :
    Two H (upd H3 pM (.lst (tab n (fun i => V.ref (rM i)) ++ [.ref qM]))) pT pM (fun i => if i = n then qT else rT i) (fun i => if i = n then qM else rM i) (n + 1) k (fun s => if s = n then a else tg s) (fun s => if s = n then b else mk s) := by
  have qTp : qT ≠ pT := fun z => by
    rw [z, Z.T] at hq
    cases hq
  have qTm : qT ≠ pM := fun z => by
    rw [z, Z.M] at hq
    cases hq
  have st : ∀ x o, x ≠ pT → H1 x = some o → H3 x = some o := fun x o hx h => e3 x o (by rw [upd_ne hx]; exact h)
  have qMp : qM ≠ pT := fun z => by
    rw [z, upd_same] at hr
    cases hr
  have qMm : qM ≠ pM := fun z => by
    rw [z, upd_ne Z.ne.symm, e1 _ _ Z.M] at hr
    cases hr
  have old : ∀ x o, x ≠ pT → H' x = some o → qM ≠ x := fun x o hx h z => by
    rw [z, upd_ne hx, e1 _ _ h] at hr
    cases hr
  have up : ∀ x o, x ≠ pT → x ≠ pM → H' x = some o → upd H3 pM (.lst (tab n (fun i => V.ref (rM i)) ++ [.ref qM])) x = some o := fun x o h1 h2 h => by
    rw [upd_ne h2]
    exact st x o h1 (e1 _ _ h)
  refine ⟨fun x o h => ?_, ?_, ?_, fun i hi => ?_, fun i hi => ?_, Z.nT, Z.nM, fun i hi => ?_, fun i hi => ?_, fun i j hi hj eq => ?_, fun i j hi hj eq => ?_, Z.ne⟩
  · exact up x o (ne_of_none h Z.nT) (ne_of_none h Z.nM) (Z.ex _ _ h)
  · rw [upd_ne Z.ne, e3 pT _ upd_same, tab_succ, if_pos rfl]
    refine congrArg (fun l => some (HO.lst (l ++ [V.ref qT]))) (tab_congr fun i hi => ?_)
    rw [if_neg (Nat.ne_of_lt hi)]
  · rw [upd_same, tab_succ, if_pos rfl]
    refine congrArg (fun l => some (HO.lst (l ++ [V.ref qM]))) (tab_congr fun i hi => ?_)
    rw [if_neg (Nat.ne_of_lt hi)]
  · by_cases z : i = n
    · simp only [if_pos z]
      rw [upd_ne qTm]
      exact st _ _ qTp h1
    · simp only [if_neg z]
      exact up _ _ (Z.tT k0 (by omega)) (Z.tM k0 (by omega)) (Z.tr i (by omega))
  · by_cases z : i = n
    · simp only [if_pos z]
      rw [upd_ne qMm]
      exact h3
    · simp only [if_neg z]
      exact up _ _ (Z.mT k0 (by omega)) (Z.mM k0 (by omega)) (Z.mr i (by omega))
  · by_cases z : i = n
    · simp only [if_pos z]
      exact fresh_back Z.ex hq
    · simp only [if_neg z]
      exact Z.nt i (by omega)
  · by_cases z : i = n
    · simp only [if_pos z]
      cases hh : H qM with
      | none => rfl
      | some o => exact absurd rfl (old qM o qMp (Z.ex _ _ hh))
    · simp only [if_neg z]
      exact Z.nm i (by omega)
  · by_cases z : i = n
    · by_cases z2 : j = n
      · omega
      · simp only [if_pos z, if_neg z2] at eq
        rw [eq, Z.tr j (by omega)] at hq
        cases hq
    · by_cases z2 : j = n
      · simp only [if_neg z, if_pos z2] at eq
        rw [← eq, Z.tr i (by omega)] at hq
        cases hq
      · simp only [if_neg z, if_neg z2] at eq
        exact Z.ta i j (by omega) (by omega) eq
  · by_cases z : i = n
    · by_cases z2 : j = n
      · omega
      · simp only [if_pos z, if_neg z2] at eq
        exact absurd eq (old _ _ (Z.mT k0 (by omega)) (Z.mr j (by omega)))
    · by_cases z2 : j = n
      · simp only [if_neg z, if_pos z2] at eq
        exact absurd eq.symm (old _ _ (Z.mT k0 (by omega)) (Z.mr i (by omega)))
      · simp only [if_neg z, if_neg z2] at eq
        exact Z.ma i j (by omega) (by omega) eq
end
theorem perm_col {S : Nat} {g : Nat → Nat} {ns' : List Int} (s1 : 0 < S) (hg : ∀ i, g i < S) (hp : ns'.Perm (tab S fun s => (g s : Int))) : ∃ cv : Nat → Nat, (∀ s, cv s < S) ∧ ns'.map V.int = tab S fun s => .int (cv s : Nat) := by
  have len' : ns'.length = S := by rw [hp.length_eq, tab_len]
  have bnd : ∀ s, 0 ≤ ns'.getD s 0 ∧ ns'.getD s 0 < S := fun s => by
    by_cases hs : s < ns'.length
    · have hm : ns'.getD s 0 ∈ tab S fun s => (g s : Int) := hp.mem_iff.mp (by
        rw [List.getD_eq_getElem?_getD, List.getElem?_eq_getElem hs]
        exact List.getElem_mem hs)
      obtain ⟨i, _, e⟩ := tab_mem.mp hm
      rw [← e]
      have := hg i
      omega
    · rw [List.getD_eq_getElem?_getD, List.getElem?_eq_none (by omega)]
      show (0 : Int) ≤ 0 ∧ (0 : Int) < S
      omega
  refine ⟨fun s => (ns'.getD s 0).toNat, fun s => (by have h := bnd s; show (ns'.getD s 0).toNat < S; omega), ?_⟩
  have e := congrArg (List.map V.int) (tab_of (0 : Int) ns')
  rw [e, tab_map, len']
  exact tab_congr fun s _ => congrArg V.int (Int.toNat_of_nonneg (bnd s).1).symm
theorem tab_flatI {n : Nat} {f : Nat → Nat} : (tab n fun j => V.int (f j : Nat)).all flatV = true := List.all_eq_true.mpr fun x hx => by
  obtain ⟨i, _, rfl⟩ := tab_mem.mp hx
  rfl
/-! ### a renaming and the way back -/
structure Ren (S : Nat) (nm iv : Nat → Nat) : Prop where
  b : ∀ i, nm i < S
  ib : ∀ i, iv i < S
  l : ∀ i, i < S → iv (nm i) = i
  r : ∀ i, i < S → nm (iv i) = i
theorem Ren.start {S : Nat} (s1 : 0 < S) : Ren S (fun i => if i < S then i else 0) (fun i => if i < S then i else 0) :=
  ⟨fun i => by by_cases h : i < S <;> simp only [h, if_true, if_false] <;> omega, fun i => by by_cases h : i < S <;> simp only [h, if_true, if_false] <;> omega, fun i h => by simp only [h, if_true], fun i h => by simp only [h, if_true]⟩
theorem Ren.swap {S s t : Nat} {nm iv : Nat → Nat} (R : Ren S nm iv) (hs : s < S) (ht : t < S) :
    Ren S (fun j => if j = t then nm s else if j = s then nm t else nm j) (fun x => if x = nm s then t else if x = nm t then s else iv x) := by
  refine ⟨fun i => ?_, fun i => ?_, fun i hi => ?_, fun i hi => ?_⟩
  · show (if i = t then nm s else if i = s then nm t else nm i) < S
    split
    · exact R.b _
    · split
      · exact R.b _
      · exact R.b _
  · show (if i = nm s then t else if i = nm t then s else iv i) < S
    split
    · exact ht
    · split
      · exact hs
      · exact R.ib _
  · have inj : ∀ a b, a < S → b < S → nm a = nm b → a = b := fun a b ha hb e => by rw [← R.l a ha, e, R.l b hb]
    by_cases h1 : i = t
    · simp only [if_pos h1, if_true]
      exact h1.symm
    · by_cases h2 : i = s
      · have ne : nm t ≠ nm s := fun e => h1 (h2.trans (inj t s ht hs e).symm)
        simp only [if_neg h1, if_pos h2, if_neg ne, if_true]
        exact h2.symm
      · have n1 : nm i ≠ nm s := fun e => h2 (inj i s hi hs e)
        have n2 : nm i ≠ nm t := fun e => h1 (inj i t hi ht e)
        simp only [if_neg h1, if_neg h2, if_neg n1, if_neg n2]
        exact R.l i hi
  · by_cases h1 : i = nm s
    · simp only [if_pos h1, if_true]
      exact h1.symm
    · by_cases h2 : i = nm t
      · have ne : s ≠ t := fun e => h1 (by rw [h2, e])
        simp only [if_neg h1, if_pos h2, if_neg ne, if_true]
        exact h2.symm
      · have n1 : iv i ≠ t := fun e => h2 (by rw [← e, R.r i hi])
        have n2 : iv i ≠ s := fun e => h1 (by rw [← e, R.r i hi])
        simp only [if_neg h1, if_neg h2, if_neg n1, if_neg n2]
        exact R.r i hi
theorem cut_abcd : ∀ G : Nat, 1 ≤ G → G ≤ 4 → cutS ("abcd" : Str) none (some (G : Int)) = lets G
  | 0, h, _ => absurd h (by decide)
  | 1, _, _ => by decide +kernel
  | 2, _, _ => by decide +kernel
  | 3, _, _ => by decide +kernel
  | 4, _, _ => by decide +kernel
  | n + 5, _, h => absurd h (by omega)
end Nt

namespace Nt
open PySem PySem.Spec PyProof.Rows L2 Evl TL
/-! ### tables by state and letter -/
abbrev ky (s c : Nat) : List Key := [.inl (s : Nat), .inr (lt1 c)]
theorem ky_inj {s c s' c' : Nat} (h : ky s c = ky s' c') : s = s' ∧ c = c' := by
  injection h with h1 h2
  injection h2 with h2 _
  injection h1 with h1
  injection h2 with h2
  exact ⟨by omega, lt1_inj h2⟩
structure Tab2 (kvs : List (List Key × V)) (φ : Nat → Nat → Option V) : Prop where
  at_ : ∀ s c, valV kvs (ky s c) = φ s c
  only : ∀ k v, valV kvs k = some v → ∃ s c, k = ky s c
theorem Tab2.nil : Tab2 [] fun _ _ => none := ⟨fun _ _ => rfl, fun _ _ h => by cases h⟩
theorem Tab2.put {kvs : List (List Key × V)} {φ : Nat → Nat → Option V} (t : Tab2 kvs φ) (s c : Nat) (v : V) : Tab2 (putK kvs (ky s c) v) fun s' c' => if s' = s ∧ c' = c then some v else φ s' c' := by
  refine ⟨fun s' c' => ?_, fun k x h => ?_⟩
  · rw [valV_put]
    by_cases e : s' = s ∧ c' = c
    · rw [if_pos e, if_pos (by rw [e.1, e.2])]
    · rw [if_neg e, if_neg fun z => e (ky_inj z)]
      exact t.at_ s' c'
  · rw [valV_put] at h
    by_cases e : k = ky s c
    · exact ⟨s, c, e⟩
    · rw [if_neg e] at h
      exact t.only k x h
theorem Tab2.congr {kvs : List (List Key × V)} {φ ψ : Nat → Nat → Option V} (t : Tab2 kvs φ) (h : ∀ s c, φ s c = ψ s c) : Tab2 kvs ψ := ⟨fun s c => (t.at_ s c).trans (h s c), t.only⟩
theorem put_len (kvs : List (List Key × V)) (k : List Key) (v : V) : (putK kvs k v).length ≤ kvs.length + 1 := by
  unfold putK
  split
  · rw [List.length_map]
    omega
  · rw [List.length_append]
    exact Nat.le_refl _
def Mac.tN (m : Mac) (s c : Nat) : Option V := if s < m.size ∧ c < m.many then some (.int (m.tg s c : Nat)) else none
def Mac.mN (m : Mac) (s c : Nat) : Option V := if s < m.size ∧ c < m.many ∧ m.mkd s c = true then some (.bl true) else none
theorem Mac.tN_in {m : Mac} {s c : Nat} (h1 : s < m.size) (h2 : c < m.many) : m.tN s c = some (.int (m.tg s c : Nat)) := if_pos ⟨h1, h2⟩
theorem Mac.mN_in {m : Mac} {s c : Nat} (h1 : s < m.size) (h2 : c < m.many) : (m.mN s c).isSome = m.mkd s c := by
  unfold Mac.mN
  cases e : m.mkd s c with
  | true => rw [if_pos ⟨h1, h2, rfl⟩]; rfl
  | false => rw [if_neg fun z => by cases z.2.2]; rfl
/-- the facts of the class -/
structure WF (K : PySem.W.Frag) (mg : Str → Option Value) (C tS : Addr) (mc : Value) : Prop where
  cl : Cls K C
  mgC : mg "Wish" = some (.ref C)
  nL : NoAttr K C "letters"
  nZ : NoAttr K C "size"
  nS : NoAttr K C "start"
  nT : NoAttr K C "_targets"
  nM : NoAttr K C "_marks"
  gS : mg "LETTER_SETS" = some (.ref tS)
  sets : ∀ H, SqT K H tS [.str "a", .str "ab", .str "abc", .str "abcd"]
  cr : ClX.CRead K C mc
  most : ∃ u, ClX.CVal K C mc "MOST_STATES" (.int 8) u
abbrev wfs (m : Mac) (dT dM : Addr) : List (Str × V) := [("letters", .str (lets m.many)), ("size", .int (m.size : Int)), ("start", .int (m.start : Int)), ("_targets", .ref dT), ("_marks", .ref dM)]
/-- a wish of the machine m stands at x -/
structure WishBy (C : Addr) (H : Hp) (x dx dT dM : Addr) (kT kM : List (List Key × V)) (m : Mac) : Prop where
  ins : H x = some (.ins C dx (wfs m dT dM))
  T : H dT = some (.dT kT)
  M : H dM = some (.dT kM)
  tT : Tab2 kT m.tN
  tM : Tab2 kM m.mN
  lT : kT.length ≤ 1000
  lM : kM.length ≤ 1000
def WishAt (C : Addr) (H : Hp) (x : Addr) (m : Mac) : Prop := ∃ dx dT dM kT kM, WishBy C H x dx dT dM kT kM m
/-- the same, its two tables told -/
def WishOf (C : Addr) (H : Hp) (x dT dM : Addr) (m : Mac) : Prop := ∃ dx kT kM, WishBy C H x dx dT dM kT kM m
theorem WishOf.any {C : Addr} {H : Hp} {x dT dM : Addr} {m : Mac} (W : WishOf C H x dT dM m) : WishAt C H x m := let ⟨dx, kT, kM, W⟩ := W; ⟨dx, dT, dM, kT, kM, W⟩
section
variable {K : PySem.W.Frag} {mg : Str → Option Value} {C tS x dx dT dM : Addr} {mc : Value} {H H' : Hp} {kT kM : List (List Key × V)} {m : Mac} {σ : L2.St} {ta : TE}
theorem WishBy.ex (W : WishBy C H x dx dT dM kT kM m) (e : Ex H H') : WishBy C H' x dx dT dM kT kM m := ⟨e _ _ W.ins, e _ _ W.T, e _ _ W.M, W.tT, W.tM, W.lT, W.lM⟩
theorem WishOf.ex (W : WishOf C H x dT dM m) (e : Ex H H') : WishOf C H' x dT dM m := let ⟨_, _, _, W⟩ := W; ⟨_, _, _, W.ex e⟩
theorem WishAt.ex (W : WishAt C H x m) (e : Ex H H') : WishAt C H' x m := let ⟨_, _, _, _, _, W⟩ := W; ⟨_, _, _, _, _, W.ex e⟩
theorem WishBy.evL (T : WF K mg C tS mc) (W : WishBy C H x dx dT dM kT kM m) (ha : Ev ta σ H (.ref x)) : Ev (tFld K ta "letters") σ H (.str (lets m.many)) := ev_fld ha W.ins T.cl T.nL (by rfl)
theorem WishBy.evZ (T : WF K mg C tS mc) (W : WishBy C H x dx dT dM kT kM m) (ha : Ev ta σ H (.ref x)) : Ev (tFld K ta "size") σ H (.int (m.size : Int)) := ev_fld ha W.ins T.cl T.nZ (by rfl)
theorem WishBy.evS (T : WF K mg C tS mc) (W : WishBy C H x dx dT dM kT kM m) (ha : Ev ta σ H (.ref x)) : Ev (tFld K ta "start") σ H (.int (m.start : Int)) := ev_fld ha W.ins T.cl T.nS (by rfl)
theorem WishBy.evT (T : WF K mg C tS mc) (W : WishBy C H x dx dT dM kT kM m) (ha : Ev ta σ H (.ref x)) : Ev (tFld K ta "_targets") σ H (.ref dT) := ev_fld ha W.ins T.cl T.nT (by rfl)
theorem WishBy.evM (T : WF K mg C tS mc) (W : WishBy C H x dx dT dM kT kM m) (ha : Ev ta σ H (.ref x)) : Ev (tFld K ta "_marks") σ H (.ref dM) := ev_fld ha W.ins T.cl T.nM (by rfl)
end
theorem sets_in : ∀ G : Nat, 1 ≤ G → G ≤ 4 → inV (.str (lets G)) [V.str "a", .str "ab", .str "abc", .str "abcd"] = true
  | 0, h, _ => absurd h (by decide)
  | 1, _, _ => by decide +kernel
  | 2, _, _ => by decide +kernel
  | 3, _, _ => by decide +kernel
  | 4, _, _ => by decide +kernel
  | n + 5, _, h => absurd h (by omega)
/-- rows of targets -/
structure RowsAt (H : Hp) (a : Addr) (r : Nat → Addr) (n k : Nat) (tg : Nat → Nat → Nat) : Prop where
  top : H a = some (.lst (tab n fun s => .ref (r s)))
  row : ∀ s, s < n → H (r s) = some (.lst (tab k fun c => .int (tg s c : Int)))
theorem RowsAt.ex {H H' : Hp} {a : Addr} {r : Nat → Addr} {n k : Nat} {tg : Nat → Nat → Nat} (R : RowsAt H a r n k tg) (e : Ex H H') : RowsAt H' a r n k tg := ⟨e _ _ R.top, fun s h => e _ _ (R.row s h)⟩
theorem PrsAt.at_ {H : Hp} {p : Addr} {l : List (Nat × Nat)} (h : PrsAt H p l) : ∃ xs : List V, H p = some (.lst xs) ∧ xs.length = l.length ∧ ∀ (i : Nat) (x : V), xs[i]? = some x → ∃ (t : Addr) (s c : Nat), x = V.ref t ∧ l[i]? = some (s, c) ∧ H t = some (.tup [.int (s : Nat), .str (lt1 c)]) := by
  obtain ⟨ad, h1, h2, h3⟩ := h
  refine ⟨_, h1, by rw [List.length_map, ← h2, List.length_map], fun i x hx => ?_⟩
  rw [List.getElem?_map] at hx
  cases e : ad[i]? with
  | none =>
    rw [e] at hx
    cases hx
  | some y =>
    rw [e] at hx
    cases hx
    exact ⟨y.1, y.2.1, y.2.2, rfl, by rw [← h2, List.getElem?_map, e]; rfl, h3 y (List.mem_of_getElem? e)⟩
theorem t_yes {σ : L2.St} {H : Hp} {F G : Hp → Prop} (h : F H) : tYes σ H fun b H3 => if b = true then F H3 else G H3 := h
end Nt

namespace Nt
open PySem PySem.Spec PyProof.Rows L2 Evl TL
/-- n numbers below 5040, whatever the script -/
def spDraws (K : PySem.W.Frag) : Sp := fun vs H Q _ => ∃ (a : Addr) (ns : List Int) (k n : Nat), vs = [.ref a, .int (k : Int), .int (n : Int)] ∧ SqL K H a (ns.map V.int) ∧ ns.length ≤ 63 ∧ k ≤ 1000 ∧ n ≤ 1000 ∧
  ∀ f : Nat → Int, (∀ i, 0 ≤ f i ∧ f i < 5040) → RetL (tab n fun i => .int (f i)) H Q
section
variable {P : Program} {w : World} {K : PySem.W.Frag} {mg : Str → Option Value} {base : Heap}
end
/-! ### small helpers of the law -/
section
variable {P : Program} {w : World} {K : PySem.W.Frag} {mg : Str → Option Value} {base : Heap} {H : Hp}
theorem rc_isi {x c : V} {t u : Value} {b : Bool} (hc : ClsV c u) (ht : ∀ H1, Ex H H1 → TyX K H1 x t) (hk : PySem.W.kitOne K t u = some b) : RC (rIsi K) [x, c] H (.bl b) := fun H1 e Q q => ⟨x, c, t, u, b, rfl, hc, ht H1 e, hk, q H1 (Ex.refl H1)⟩
def spIsInt : Sp := fun vs H Q _ => ∃ i : Int, vs = [.int i] ∧ RetV (.bl true) H Q
theorem sv_isint {i : Int} : SpV spIsInt [.int i] H (.bl true) := fun H1 _ Q q E => ⟨i, rfl, fun H2 e2 => q H2 e2⟩

def spLap : Sp := fun vs H Q _ => ∃ (a : Addr) (m : Mac) (s : Nat) (z : List Nat), vs = [.ref a, .int (s : Nat), .str (wtx z)] ∧ MacAt H a m ∧ m.Ok ∧ s < m.size ∧ (∀ c ∈ z, c < m.many) ∧
  RetL [.int ((m.lap s z).1 : Nat), .bl (m.lap s z).2] H Q
theorem sl_lap {a : Addr} {m : Mac} {s : Nat} {z : List Nat} (M : MacAt H a m) (o : m.Ok) (hs : s < m.size) (hz : ∀ c ∈ z, c < m.many) : SpL spLap [.ref a, .int (s : Nat), .str (wtx z)] H [.int ((m.lap s z).1 : Nat), .bl (m.lap s z).2] :=
  fun H1 e Q q E => ⟨a, m, s, z, rfl, M.ex e, o, hs, hz, fun p H2 hp e2 h2 => q p H2 hp e2 h2⟩

/-- a new list of new pairs -/
def RetP (l : List (Nat × Nat)) (H : Hp) (Q : VK) : Prop := ∀ p H2, H p = none → Ex H H2 → PrsAt H2 p l → Q (.ref p) H2
def spPairs : Sp := fun vs H Q _ => ∃ (a : Addr) (m : Mac), vs = [.ref a] ∧ MacAt H a m ∧ m.Ok ∧ RetP m.prs H Q
def spWord (K : PySem.W.Frag) : Sp := fun vs H Q _ => ∃ (a : Addr) (n g t : Nat) (f : Nat → Int), vs = [.ref a, .str (lets g), .int (t : Nat)] ∧ SqL K H a (tab n fun i => .int (f i)) ∧ (∀ i, 0 ≤ f i ∧ f i < 5040) ∧ t < n ∧ n ≤ 1000 ∧ 1 ≤ g ∧ g ≤ 4 ∧
  ∀ z : List Nat, z.length ≤ t → (∀ c ∈ z, c < g) → RetV (.str (wtx z)) H Q
end
section
variable {P : Program} {w : World} {K : PySem.W.Frag} {mg : Str → Option Value} {base : Heap}
/-- a new machine -/
def RetM (m : Mac) (H : Hp) (Q : VK) : Prop := ∀ p H2, H p = none → Ex H H2 → MacAt H2 p m → Q (.ref p) H2
def spMachine (K : PySem.W.Frag) : Sp := fun vs H Q _ => ∃ (a : Addr) (n t : Nat) (f : Nat → Int), vs = [.ref a, .int (t : Nat)] ∧ SqL K H a (tab n fun i => .int (f i)) ∧ (∀ i, 0 ≤ f i ∧ f i < 5040) ∧ 51 ≤ n ∧ 1 ≤ t ∧ t ≤ 8 ∧
  ∀ m : Mac, m.Ok → m.size ≤ t → RetM m H Q
end
/-! ### the class Wish: its making and its methods, where nothing is refused -/
section
variable {P : Program} {w : World} {K : PySem.W.Frag} {mg : Str → Option Value} {base : Heap} {C tS : Addr} {mc : Value}
def spShape : Sp := fun vs H Q _ => ∃ (a : Addr) (m : Mac) (r : Nat → Addr), vs = [.str (lets m.many), .ref a, .int (m.start : Nat)] ∧ m.Ok ∧ RowsAt H a r m.size m.many m.tg ∧ RetV .non H Q
theorem sv_shape {H : Hp} {a : Addr} {m : Mac} {r : Nat → Addr} (o : m.Ok) (R : RowsAt H a r m.size m.many m.tg) : SpV spShape [.str (lets m.many), .ref a, .int (m.start : Nat)] H .non := fun H1 e Q q E => ⟨a, m, r, rfl, o, R.ex e, fun H2 e2 => q H2 e2⟩

/-- a new table with φ -/
def RetT (φ : Nat → Nat → Option V) (H : Hp) (Q : VK) : Prop := ∀ p H2 kvs, H p = none → Ex H H2 → H2 p = some (.dT kvs) → Tab2 kvs φ → kvs.length ≤ 1000 → Q (.ref p) H2
def spTable : Sp := fun vs H Q _ => ∃ (a : Addr) (m : Mac) (r : Nat → Addr), vs = [.str (lets m.many), .ref a] ∧ m.Ok ∧ RowsAt H a r m.size m.many m.tg ∧ RetT m.tN H Q
end
section
variable {P : Program} {w : World} {K : PySem.W.Frag} {mg : Str → Option Value} {base : Heap} {C tS : Addr} {mc : Value}
theorem eu_2 {σ : L2.St} {H : Hp} {ta tb : TE} {x y : V} (ha : Ev ta σ H x) (hb : Ev tb σ H y) : EvU (tTup (tCons ta (tCons tb tNil))) σ H [x, y] := eu_tup (ea_cons ha (ea_cons hb ea_nil)) (Nat.le_of_ble_eq_true rfl)
/-- a new table with φ -/
def RetT' (φ : Nat → Nat → Option V) (H : Hp) (Q : VK) : Prop := ∀ p H2 kvs, H p = none → Ex H H2 → H2 p = some (.dT kvs) → Tab2 kvs φ → kvs.length ≤ 1000 → Q (.ref p) H2
def spMarkT : Sp := fun vs H Q _ => ∃ (p d : Addr) (m : Mac) (l : List (Nat × Nat)) (kT : List (List Key × V)), vs = [.ref p, .ref d] ∧ PrsAt H p l ∧ H d = some (.dT kT) ∧ Tab2 kT m.tN ∧ (∀ q ∈ l, q.1 < m.size ∧ q.2 < m.many) ∧ l.length ≤ 1000 ∧
  RetT' (fun s c => if (s, c) ∈ l then some (.bl true) else none) H Q
def spUnk (C : Addr) : Sp := fun vs H Q _ => ∃ (x : Addr) (m : Mac) (s c : Nat), vs = [.ref x, .int (s : Nat), .str (lt1 c)] ∧ WishAt C H x m ∧ s < m.size ∧ c < m.many ∧ RetV .non H Q
theorem sv_unk {H : Hp} {x : Addr} {m : Mac} {s c : Nat} (W : WishAt C H x m) (h1 : s < m.size) (h2 : c < m.many) : SpV (spUnk C) [.ref x, .int (s : Nat), .str (lt1 c)] H .non := fun H1 e Q q E => ⟨x, m, s, c, rfl, W.ex e, h1, h2, fun H2 e2 => q H2 e2⟩
def spMarked (C : Addr) : Sp := fun vs H Q _ => ∃ (x : Addr) (m : Mac) (s c : Nat), vs = [.ref x, .int (s : Nat), .str (lt1 c)] ∧ WishAt C H x m ∧ s < m.size ∧ c < m.many ∧ RetV (.bl (m.mkd s c)) H Q
theorem sv_marked {H : Hp} {x : Addr} {m : Mac} {s c : Nat} (W : WishAt C H x m) (h1 : s < m.size) (h2 : c < m.many) : SpV (spMarked C) [.ref x, .int (s : Nat), .str (lt1 c)] H (.bl (m.mkd s c)) := fun H1 e Q q E => ⟨x, m, s, c, rfl, W.ex e, h1, h2, fun H2 e2 => q H2 e2⟩
def spGet (C : Addr) : Sp := fun vs H Q _ => ∃ (x t : Addr) (m : Mac) (s c : Nat), vs = [.ref x, .ref t] ∧ WishAt C H x m ∧ H t = some (.tup [.int (s : Nat), .str (lt1 c)]) ∧ s < m.size ∧ c < m.many ∧ RetV (.int (m.tg s c : Nat)) H Q
def spReach (C : Addr) : Sp := fun vs H Q _ => ∃ (x : Addr) (m : Mac) (z : List Nat), vs = [.ref x, .str (wtx z)] ∧ WishAt C H x m ∧ m.Ok ∧ (∀ c ∈ z, c < m.many) ∧ RetV (.int ((m.lap m.start z).1 : Nat)) H Q
theorem mem_lets {n c : Nat} (h : c < n) : 97 + c ∈ (lets n).cps.toList := by
  show 97 + c ∈ (List.range n).map (97 + ·)
  exact List.mem_map.mpr ⟨c, List.mem_range.mpr h, rfl⟩
theorem sv_reach {H : Hp} {x : Addr} {m : Mac} {z : List Nat} (W : WishAt C H x m) (o : m.Ok) (hz : ∀ c ∈ z, c < m.many) : SpV (spReach C) [.ref x, .str (wtx z)] H (.int ((m.lap m.start z).1 : Nat)) := fun H1 e Q q E => ⟨x, m, z, rfl, W.ex e, o, hz, fun H2 e2 => q H2 e2⟩
end
theorem walk_range0 {n : Nat} : Walk (Itr 0 n) n (fun _ => True) (YFn fun i => .int (i : Nat)) := walk_range.mono (fun _ h => h) fun i H x H' _ _ y => ⟨y.1, y.2.trans (congrArg V.int (Int.zero_add _))⟩
theorem ite_yes {A B : Prop} (h : A) : if true = true then A else B := h
theorem ite_no {A B : Prop} (h : B) : if false = true then A else B := h
section
variable {g g1 : TG} {tt tt1 : TT} {wi1 : TI} {te : TE} {vs vs1 : List Nat} {σ : L2.St} {Q : VK} {J : It} {D : Addr} {H1 : Hp} {n : Nat} {G : Hp → Prop} {Y : Nat → Hp → V → Hp → Prop}
def RdL2 (g : TG) (tt : TT) (wi1 : TI) (g1 : TG) (tt1 : TT) (te : TE) (vs vs1 : List Nat) (σ : L2.St) (Q : VK) (J : It) (D : Addr) (H1 : Hp) : Prop := ∃ W : Nat → Nat → Hp → Prop, (∃ m, W 0 m (upd H1 D (.lst []))) ∧ ∀ i m H, W i m H →
  (J.stop i H ∧ Q (.ref D) H) ∨ (J.go i H ∧ ∃ Nx : Hp → Prop, (∀ H', Nx H' → ∃ m', m' < m ∧ W (i + 1) m' H') ∧ ∀ x H', J.yld i H x H' → g x (wipe σ vs) H' fun σ2 H2 => wipe σ2 vs = wipe σ vs ∧ tt σ2 H2 fun b H3 =>
    if b = true then wi1 σ2 H3 fun J1 H4 => InL g1 tt1 te vs1 σ2 D J1 H4 Nx else Nx H3)
theorem rdL2_it (w : Walk J n G Y) (Pv : Nat → Hp → Prop) (h0 : Pv 0 (upd H1 D (.lst []))) (hG : ∀ j H, j ≤ n → Pv j H → G H)
    (hs : ∀ i x H H', i < n → Pv i H → Y i H x H' → g x (wipe σ vs) H' fun σ2 H2 => wipe σ2 vs = wipe σ vs ∧ tt σ2 H2 fun b H3 => if b = true then wi1 σ2 H3 fun J1 H4 => InL g1 tt1 te vs1 σ2 D J1 H4 (Pv (i + 1)) else Pv (i + 1) H3)
    (hd : ∀ H, Pv n H → Q (.ref D) H) : RdL2 g tt wi1 g1 tt1 te vs vs1 σ Q J D H1 := by
  refine ⟨fun i m H => m = n - i ∧ i ≤ n ∧ Pv i H, ⟨n, by simp, Nat.zero_le _, h0⟩, ?_⟩
  rintro i m H ⟨rfl, hi, p⟩
  have q := hG i H hi p
  by_cases hlt : i < n
  · exact .inr ⟨w.goes i H hlt q, Pv (i + 1), fun H' p' => ⟨n - (i + 1), by omega, rfl, hlt, p'⟩, fun x H' y => hs i x H H' hlt p (w.yields i H x H' hlt q y)⟩
  · have e : i = n := by omega
    subst e
    exact .inl ⟨w.stops H q, hd H p⟩
end
section
variable {σ : L2.St} {H : Hp} {te : TE} {tr t : TA} {Q : List V → Hp → Prop} {Qv : VK} {sp : Sp} {dvs vs : List V} {E : XK}
theorem ta_consQ (h : te σ H fun v H1 => tr σ H1 fun vs H2 => Q (v :: vs) H2) : tCons te tr σ H Q := h
theorem call_go (h : t σ H fun vs H1 => sp (vs ++ dvs) H1 Qv E) : tCall sp dvs E t σ H Qv := h
theorem call_A (ht : EvA t σ H vs) (h : ∀ H1, Ex H H1 → sp (vs ++ dvs) H1 Qv E) : tCall sp dvs E t σ H Qv := ht H (Ex.refl H) _ h
end
section
variable {P : Program} {w : World} {K : PySem.W.Frag} {mg : Str → Option Value} {base : Heap} {C tS : Addr} {mc : Value}
def spGetter (C : Addr) : Sp := fun vs H Q _ => ∃ (x : Addr) (m : Mac), vs = [.ref x] ∧ WishAt C H x m ∧ m.Ok ∧ RetP m.prs H Q
/-! ### making -/
/-- all but x stays -/
def Off (H H' : Hp) (x : Addr) : Prop := ∀ b o, b ≠ x → H b = some o → H' b = some o
theorem Off.ex {H H' : Hp} {x : Addr} (e : Ex H H') : Off H H' x := fun b o _ h => e b o h
theorem Off.trans {H H1 H2 : Hp} {x : Addr} (a : Off H H1 x) (b : Off H1 H2 x) : Off H H2 x := fun c o n h => b c o n (a c o n h)
theorem Off.upd {H : Hp} {x : Addr} {o : HO} : Off H (upd H x o) x := fun b u n h => by
  rw [upd_ne n]
  exact h
theorem Off.rows {H H' : Hp} {x C dx : Addr} {fs : List (Str × V)} {a : Addr} {r : Nat → Addr} {n k : Nat} {tg : Nat → Nat → Nat} (e : Off H H' x) (hx : H x = some (.ins C dx fs)) (R : RowsAt H a r n k tg) : RowsAt H' a r n k tg := by
  have ne : ∀ {b l}, H b = some (.lst l) → b ≠ x := fun h z => by
    rw [z, hx] at h
    cases h
  exact ⟨e _ _ (ne R.top) R.top, fun s hs => e _ _ (ne (R.row s hs)) (R.row s hs)⟩
theorem Off.prs {H H' : Hp} {x C dx : Addr} {fs : List (Str × V)} {p : Addr} {l : List (Nat × Nat)} (e : Off H H' x) (hx : H x = some (.ins C dx fs)) (h : PrsAt H p l) : PrsAt H' p l := by
  obtain ⟨ad, h1, h2, h3⟩ := h
  refine ⟨ad, e _ _ (fun z => by rw [z, hx] at h1; cases h1) h1, h2, fun y hy => e _ _ (fun z => ?_) (h3 y hy)⟩
  have h := h3 y hy
  rw [z, hx] at h
  cases h
theorem q_fld {σ : L2.St} {H : Hp} {ta tv : TE} {D : Ends} {tz : TS} {v : V} {x C dx : Addr} {fs : List (Str × V)} {f : Str} (hv : Ev tv σ H v) (ha : Ev ta σ H (.ref x)) (hx : H x = some (.ins C dx fs)) (c : Cls K C) (n : NoAttr K C f) (hl : fs.length < 1000)
    (k : ∀ H1, Ex H H1 → tz D σ (upd H1 x (.ins C dx (putF f v fs)))) : tSeq (sFld K ta tv f) tz D σ H := hv H (Ex.refl H) _ fun H1 e1 => ha H1 e1 _ fun H2 e2 => ⟨x, C, dx, fs, rfl, e2 _ _ (e1 _ _ hx), c, n, hl, k H2 (e1.trans e2)⟩
abbrev N_init : List Str := ["self","letters","targets","marks","start"]
def spInit (C : Addr) : Sp := fun vs H Q _ => ∃ (x dx a p : Addr) (m : Mac) (r : Nat → Addr), vs = [.ref x, .str (lets m.many), .ref a, .ref p, .int (m.start : Nat)] ∧ H x = some (.ins C dx []) ∧ m.Ok ∧ RowsAt H a r m.size m.many m.tg ∧ PrsAt H p m.prs ∧
  ∀ H2 dT dM, Off H H2 x → H dT = none → H dM = none → WishOf C H2 x dT dM m → Q .non H2
end
section
variable {σ : L2.St} {H : Hp} {te : TE} {t tk : TA} {Q : List V → Hp → Prop} {Qv : VK} {sp : Sp} {D : Ends} {E : XK} {C : Addr} {n m : Nat} {gV : List V → List V → List V}
theorem ta_nilQ (h : Q [] H) : tNil σ H Q := h
theorem s_retQ (h : te σ H D.rt) : tRet te D σ H := h
theorem make_go (h : t σ H fun vs H1 => tk σ H1 fun zs H2 => vs.length = n ∧ zs.length = m ∧ ∀ x dx, H2 x = none → H2 dx = none → dx ≠ x → sp (gV (.ref x :: vs) zs) (upd (upd H2 dx (.own x)) x (.ins C dx [])) (fun v H3 => v = .non ∧ Qv (.ref x) H3) E) : tMakeK C n m sp gV E t tk σ H Qv := h
end
/-! ### long words -/
theorem str_ext {x y : Str} (h : x.cps.toList = y.cps.toList) : x = y := by
  cases x
  cases y
  exact congrArg Str.mk (Array.toList_inj.mp h)
theorem foldl_cat : ∀ (l : List (Array Nat)) (acc : Array Nat), (l.foldl (· ++ ·) acc).toList = acc.toList ++ (l.map Array.toList).flatten
  | [], acc => by simp
  | a :: l, acc => by
    rw [List.foldl_cons, foldl_cat l (acc ++ a)]
    simp
theorem flat_map (u : List Nat) : ∀ n : Nat, ((List.replicate n (wtx u).cps).map Array.toList).flatten = ((List.replicate n u).flatten).map (97 + ·)
  | 0 => rfl
  | n + 1 => by
    rw [List.replicate_succ, List.map_cons, List.flatten_cons, flat_map u n, List.replicate_succ, List.flatten_cons, List.map_append]
    rfl
theorem mul_wtx (u : List Nat) (n : Nat) (hn : 2 ≤ n) (hu : u ≠ []) : Txt.mul (wtx u) (n : Int) = wtx (List.replicate n u).flatten := by
  unfold Txt.mul
  rw [if_neg (by omega), if_neg]
  · refine str_ext ?_
    show ((List.replicate (n : Int).toNat (wtx u).cps).foldl (· ++ ·) #[]).toList = _
    rw [foldl_cat, Int.toNat_natCast, flat_map]
    rfl
  · rw [Bool.or_eq_true, not_or]
    refine ⟨fun h => ?_, fun h => ?_⟩
    · have := beq_iff_eq.mp h
      omega
    · have h2 := beq_iff_eq.mp h
      rw [wtx_len] at h2
      exact hu (List.length_eq_zero_iff.mp h2)
theorem cat_wtx (u v : List Nat) : wtx u ++ wtx v = wtx (u ++ v) := by
  refine str_ext ?_
  show tl (wtx u ++ wtx v) = _
  rw [tl_append]
  show (u.map (97 + ·)) ++ (v.map (97 + ·)) = (u ++ v).map (97 + ·)
  rw [List.map_append]
theorem cut_wtx (z : List Nat) (k : Nat) : cutS (wtx z) none (some (k : Int)) = wtx (z.take k) := by
  refine str_ext ?_
  show ((z.map (97 + ·)).drop (HT.sIx (wtx z).length 0 none)).take (HT.sIx (wtx z).length (wtx z).length (some (k : Int)) - HT.sIx (wtx z).length 0 none) = (z.take k).map (97 + ·)
  rw [HT.sIx_none, HT.sIx_nat, List.drop_zero, Nat.sub_zero, wtx_len, List.map_take]
  by_cases h : k ≤ z.length
  · rw [Nat.min_eq_left h]
  · rw [Nat.min_eq_right (by omega), List.take_of_length_le (by rw [List.length_map]; exact Nat.le_refl _), List.take_of_length_le (by rw [List.length_map]; omega)]
/-! ### the pairs as data -/
def pD (q : Nat × Nat) : PyData := .tuple [.int (q.1 : Nat), .str (lt1 q.2)]
theorem lt1_ok : ∀ c, c < 4 → PyData.strOk (lt1 c) = true
  | 0, _ => by decide +kernel
  | 1, _ => by decide +kernel
  | 2, _ => by decide +kernel
  | 3, _ => by decide +kernel
  | n + 4, h => absurd h (by omega)
theorem pD_lay : ∀ l : List (Nat × Nat), (∀ q ∈ l, q.2 < 4) → PyData.canLayAll0 (l.map pD) = true
  | [], _ => by simp [PyData.canLayAll0]
  | q :: l, h => by simp [PyData.canLayAll0, PyData.canLay0, pD, pD_lay l fun x hx => h x (List.mem_cons_of_mem _ hx), lt1_ok _ (h q (List.mem_cons_self ..))]
theorem prs_4 {m : Mac} (o : m.Ok) : ∀ q ∈ m.prs, q.2 < 4 := fun q hq => by
  have h := (Mac.mem_prs.mp hq).2.1
  have := o.m4
  omega
theorem pD_deep : ∀ l : List (Nat × Nat), PyData.depthAll (l.map pD) ≤ 8
  | [] => by simp [PyData.depthAll]
  | q :: l => by
    have h := pD_deep l
    simp only [List.map_cons, PyData.depthAll, PyData.depth, pD]
    omega
theorem pD_shaped (l : List (Nat × Nat)) (h : ∀ q ∈ l, q.2 < 4) : SeqAt.shaped (.list (l.map pD)) = true := by
  refine shaped_by (by simp only [PyData.canLay0]; exact pD_lay l h) ?_
  have h := pD_deep l
  simp only [PyData.depth]
  omega
theorem PrsAt.dp {K : PySem.W.Frag} {H : Hp} {p : Addr} {l : List (Nat × Nat)} (h : PrsAt H p l) : Dp K H (.ref p) (.list (l.map pD)) := by
  obtain ⟨ad, h1, h2, h3⟩ := h
  refine .lst (sq_of h1) ?_
  rw [← h2]
  clear h1 h2
  induction ad with
  | nil => exact .nil
  | cons y ad ih => exact .cons (.tup (st_of (h3 y (List.mem_cons_self ..))) (.cons (.int _) (.cons (.str _) .nil))) (ih fun x hx => h3 x (List.mem_cons_of_mem _ hx))
section
variable {P : Program} {w : World} {K : PySem.W.Frag} {mg : Str → Option Value} {base : Heap} {C tS : Addr} {mc : Value} {H : Hp}
/-- C(.., start = ..) -/
structure Making (P : Program) (w : World) (K : PySem.W.Frag) (mg : Str → Option Value) (base : Heap) (k : Nat) (C : Addr) : Prop where
  ex : ∃ f fd g, FnOk P w K mg base CX0 k f fd N_init (spInit C) ∧ Mk K C f ∧ KBn K fd N_init 4 ["start"] g (fun vs zs => vs ++ zs)
def spMade (C : Addr) : Sp := fun vs H Q _ => ∃ (a : Addr) (m : Mac), vs = [.ref a] ∧ MacAt H a m ∧ m.Ok ∧ ∀ x dT dM H2, H x = none → H dT = none → H dM = none → Ex H H2 → WishOf C H2 x dT dM m → Q (.ref x) H2
def spFits (C : Addr) : Sp := fun vs H Q _ => ∃ (x a : Addr) (m : Mac), vs = [.ref x, .ref a] ∧ WishAt C H x m ∧ MacAt H a m ∧ m.Ok ∧ RetV (.bl true) H Q
theorem rv_own {x t dx : Addr} {fs : List (Str × V)} {m : Mac} {s c : Nat} {E : XK} (W : WishAt C H x m) (hx : H x = some (.ins C dx fs)) (ht : H t = some (.tup [.int (s : Nat), .str (lt1 c)])) (h1 : s < m.size) (h2 : c < m.many) : RV (rOwn C (spGet C) E) (.ref x) (.ref t) H (.int (m.tg s c : Nat)) :=
  fun H1 e Q q => ⟨x, dx, fs, rfl, e _ _ hx, x, t, m, s, c, rfl, W.ex e, e _ _ ht, h1, h2, fun H2 e2 => q H2 e2⟩
theorem sv_fits {x a : Addr} {m : Mac} (W : WishAt C H x m) (M : MacAt H a m) (o : m.Ok) : SpV (spFits C) [.ref x, .ref a] H (.bl true) := fun H1 e Q q E => ⟨x, a, m, rfl, W.ex e, M.ex e, o, fun H2 e2 => q H2 e2⟩
def spFM : Sp := fun vs H Q _ => ∃ (p a : Addr) (m : Mac), vs = [.ref p, .ref a] ∧ PrsAt H p m.prs ∧ MacAt H a m ∧ m.Ok ∧ RetV (.bl true) H Q
theorem sv_fm {p a : Addr} {m : Mac} (hP : PrsAt H p m.prs) (M : MacAt H a m) (o : m.Ok) : SpV spFM [.ref p, .ref a] H (.bl true) := fun H1 e Q q E => ⟨p, a, m, rfl, hP.ex e, M.ex e, o, fun H2 e2 => q H2 e2⟩
end
/-- a property of the class at C -/
structure PCallee (P : Program) (w : World) (K : PySem.W.Frag) (mg : Str → Option Value) (base : Heap) (k : Nat) (C : Addr) (x : Str) (sp : Sp) : Prop where
  ex : ∃ p f fd, FnOk P w K mg base CX0 k f fd ["self"] sp ∧ PropOf K C x p f ∧ Binds K fd ["self"] []
theorem rep_len (u : List Nat) : ∀ n : Nat, (List.replicate n u).flatten.length = n * u.length
  | 0 => by simp
  | n + 1 => by rw [List.replicate_succ, List.flatten_cons, List.length_append, rep_len u n, Nat.succ_mul, Nat.add_comm]
theorem rep_mem {u : List Nat} {c : Nat} : ∀ n : Nat, c ∈ (List.replicate n u).flatten → c ∈ u
  | 0, h => by simp at h
  | n + 1, h => by
    rw [List.replicate_succ, List.flatten_cons, List.mem_append] at h
    exact h.elim id (rep_mem n)
section
variable {P : Program} {w : World} {K : PySem.W.Frag} {mg : Str → Option Value} {base : Heap} {C tS : Addr} {mc : Value} {H : Hp}
abbrev N_law : List Str := ["_law_script","_law_m","_law_wish","_law_word_here","_law_k","_law_state","_law_longest","_law_told"]
def spLaw (K : PySem.W.Frag) : Sp := fun vs H Q _ => ∃ (a : Addr) (ns : List Int), vs = [.ref a] ∧ SqL K H a (ns.map V.int) ∧ ns.length ≤ 63 ∧ ∀ H', Q (.bl true) H'
end
end Nt

namespace Nt
open PySem PySem.Spec PyProof.Rows L2 Evl TL
/-! ### the same word again and again -/
def rep (n : Nat) (v : List Nat) : List Nat := (List.replicate n v).flatten
theorem rep_zero (v : List Nat) : rep 0 v = [] := rfl
theorem rep_succ (n : Nat) (v : List Nat) : rep (n + 1) v = rep n v ++ v := by
  unfold rep
  rw [List.replicate_succ', List.flatten_append]
  simp
theorem rep_length (n : Nat) (v : List Nat) : (rep n v).length = n * v.length := rep_len v n
theorem rep_in {n : Nat} {v : List Nat} {c : Nat} (h : c ∈ rep n v) : c ∈ v := rep_mem n h
section
variable {m : Mac}
theorem Mac.fold_or (w : List Nat) (s : Nat) (b : Bool) : (w.foldl m.go (s, b)).1 = (m.lap s w).1 ∧ (w.foldl m.go (s, b)).2 = (b || (m.lap s w).2) := by
  induction w generalizing s b with
  | nil => exact ⟨rfl, (Bool.or_false b).symm⟩
  | cons c w ih =>
    have h1 := ih (m.tg s c) (b || m.mkd s c)
    have h2 := ih (m.tg s c) (false || m.mkd s c)
    refine ⟨h1.1.trans h2.1.symm, ?_⟩
    show (w.foldl m.go (m.tg s c, b || m.mkd s c)).2 = (b || (w.foldl m.go (m.tg s c, false || m.mkd s c)).2)
    rw [h1.2, h2.2, Bool.false_or, Bool.or_assoc]
theorem Mac.lap_app (s : Nat) (u v : List Nat) : m.lap s (u ++ v) = ((m.lap (m.lap s u).1 v).1, (m.lap s u).2 || (m.lap (m.lap s u).1 v).2) := by
  unfold Mac.lap
  rw [List.foldl_append]
  have h := Mac.fold_or (m := m) v (u.foldl m.go (s, false)).1 (u.foldl m.go (s, false)).2
  exact Prod.ext h.1 h.2
theorem Mac.lap_app1 (s : Nat) (u v : List Nat) : (m.lap s (u ++ v)).1 = (m.lap (m.lap s u).1 v).1 := by rw [Mac.lap_app]
theorem Mac.lap_app2 (s : Nat) (u v : List Nat) : (m.lap s (u ++ v)).2 = ((m.lap s u).2 || (m.lap (m.lap s u).1 v).2) := by rw [Mac.lap_app]
theorem Mac.lap_mark {s c i : Nat} {w : List Nat} (h : w[i]? = some c) (hm : m.mkd (m.lap s (w.take i)).1 c = true) : (m.lap s w).2 = true := by
  have e : w = w.take (i + 1) ++ w.drop (i + 1) := (List.take_append_drop (i + 1) w).symm
  rw [e, Mac.lap_app2, Mac.lap_snoc h]
  show (((m.lap s (w.take i)).2 || m.mkd (m.lap s (w.take i)).1 c) || _) = true
  rw [hm, Bool.or_true, Bool.true_or]
/-- a run that is good, as it is read -/
def Mac.good (m : Mac) (s : Nat) (u v : List Nat) : Bool := (m.lap (m.lap (m.lap s u).1 (rep m.size v)).1 (rep m.size v)).2
/-! ### in words of again and again -/
def it (f : Nat → Nat) : Nat → Nat → Nat
  | 0, s => s
  | i + 1, s => f (it f i s)
theorem it_add (f : Nat → Nat) (i : Nat) (s : Nat) : ∀ j, it f (i + j) s = it f j (it f i s)
  | 0 => rfl
  | j + 1 => congrArg f (it_add f i s j)
theorem it_first (f : Nat → Nat) (s : Nat) : ∀ i, it f (i + 1) s = it f i (f s)
  | 0 => rfl
  | i + 1 => congrArg f (it_first f s i)
theorem lap_rep1 (s : Nat) (v : List Nat) : ∀ k, (m.lap s (rep k v)).1 = it (fun x => (m.lap x v).1) k s
  | 0 => rfl
  | k + 1 => by
    rw [rep_succ, Mac.lap_app1, lap_rep1 s v k]
    rfl
theorem lap_rep2 (s : Nat) (v : List Nat) : ∀ k, (m.lap s (rep k v)).2 = true ↔ ∃ i, i < k ∧ (m.lap (it (fun x => (m.lap x v).1) i s) v).2 = true
  | 0 => ⟨fun h => (by cases h), fun ⟨i, h, _⟩ => absurd h (Nat.not_lt_zero i)⟩
  | k + 1 => by
    rw [rep_succ, Mac.lap_app2, lap_rep1, Bool.or_eq_true, lap_rep2 s v k]
    constructor
    · rintro (⟨i, h1, h2⟩ | h)
      · exact ⟨i, by omega, h2⟩
      · exact ⟨k, by omega, h⟩
    · rintro ⟨i, h1, h2⟩
      by_cases e : i = k
      · subst e
        exact Or.inr h2
      · exact Or.inl ⟨i, by omega, h2⟩
theorem pigeon : ∀ (n : Nat) (x : Nat → Nat), (∀ i, i ≤ n → x i < n) → ∃ i j, i < j ∧ j ≤ n ∧ x i = x j
  | 0, x, h => absurd (h 0 (Nat.le_refl 0)) (Nat.not_lt_zero _)
  | n + 1, x, h => by
    by_cases e : ∃ i, i ≤ n ∧ x i = x (n + 1)
    · obtain ⟨i, h1, h2⟩ := e
      exact ⟨i, n + 1, by omega, Nat.le_refl _, h2⟩
    · have e2 : ∀ i, i ≤ n → x i ≠ x (n + 1) := fun i hi z => e ⟨i, hi, z⟩
      have hv := h (n + 1) (Nat.le_refl _)
      obtain ⟨i, j, h1, h2, h3⟩ := pigeon n (fun i => if x i = n then x (n + 1) else x i) fun i hi => by
        by_cases z : x i = n
        · simp only [if_pos z]
          have := e2 i hi
          omega
        · simp only [if_neg z]
          have := h i (by omega)
          omega
      refine ⟨i, j, h1, by omega, ?_⟩
      by_cases z1 : x i = n
      · by_cases z2 : x j = n
        · rw [z1, z2]
        · simp only [if_pos z1, if_neg z2] at h3
          exact absurd h3.symm (e2 j h2)
      · by_cases z2 : x j = n
        · simp only [if_neg z1, if_pos z2] at h3
          exact absurd h3 (e2 i (by omega))
        · simp only [if_neg z1, if_neg z2] at h3
          exact h3
/-- again and again -/
def IO (f : Nat → Nat) (g : Nat → Bool) (s : Nat) : Prop := ∀ N, ∃ i, N ≤ i ∧ g (it f i s) = true
theorem io_of {n : Nat} {f : Nat → Nat} {g : Nat → Bool} {s : Nat} (hs : ∀ i, it f i s < n) : IO f g s ↔ ∃ i, i < n ∧ g (it f i (it f n s)) = true := by
  obtain ⟨a, b, ab, bn, e⟩ := pigeon n (fun i => it f i s) fun i _ => hs i
  have e : it f a s = it f b s := e
  have per : ∀ k, a ≤ k → it f (k + (b - a)) s = it f k s := fun k hk => by
    have h1 : k + (b - a) = b + (k - a) := by omega
    have h2 : k = a + (k - a) := by omega
    rw [h1, it_add, ← e, ← it_add, ← h2]
  have pers : ∀ t k, a ≤ k → it f (k + t * (b - a)) s = it f k s := fun t => by
    induction t with
    | zero =>
      intro k _
      rw [Nat.zero_mul, Nat.add_zero]
    | succ t ih =>
      intro k hk
      rw [Nat.succ_mul, ← Nat.add_assoc, per _ (by omega), ih k hk]
  constructor
  · intro h
    obtain ⟨i, hi, hg⟩ := h n
    refine ⟨(i - n) % (b - a), Nat.lt_of_lt_of_le (Nat.mod_lt _ (by omega)) (by omega), ?_⟩
    rw [← it_add]
    have h1 : i = (n + (i - n) % (b - a)) + (i - n) / (b - a) * (b - a) := by
      have := Nat.mod_add_div (i - n) (b - a)
      rw [Nat.mul_comm] at this
      omega
    rw [h1, pers _ _ (by omega)] at hg
    exact hg
  · rintro ⟨i, hi, hg⟩ N
    rw [← it_add] at hg
    refine ⟨(n + i) + N * (b - a), ?_, ?_⟩
    · have : N * 1 ≤ N * (b - a) := Nat.mul_le_mul_left N (by omega)
      omega
    · rw [pers _ _ (by omega)]
      exact hg
theorem Mac.it_lt (o : m.Ok) {v : List Nat} {s : Nat} (hs : s < m.size) : ∀ i, it (fun x => (m.lap x v).1) i s < m.size
  | 0 => hs
  | i + 1 => Mac.lap_lt o (Mac.it_lt o hs i) v
theorem Mac.good_io (o : m.Ok) {s : Nat} (hs : s < m.size) (u v : List Nat) : m.good s u v = true ↔ IO (fun x => (m.lap x v).1) (fun x => (m.lap x v).2) (m.lap s u).1 := by
  rw [io_of (n := m.size) (Mac.it_lt o (Mac.lap_lt o hs u))]
  unfold Mac.good
  rw [lap_rep1, lap_rep2]
theorem beq_of {a b : Bool} (h : a = true ↔ b = true) : a = b := by
  cases a <;> cases b <;> simp_all
/-- the stem longer by the loop -/
theorem Mac.good_stem (o : m.Ok) {s : Nat} (hs : s < m.size) (u v : List Nat) : m.good s (u ++ v) v = m.good s u v := beq_of (by
  rw [Mac.good_io o hs, Mac.good_io o hs, Mac.lap_app1]
  constructor
  · intro h N
    obtain ⟨i, hi, hg⟩ := h N
    exact ⟨i + 1, by omega, by rw [it_first]; exact hg⟩
  · intro h N
    obtain ⟨i, hi, hg⟩ := h (N + 1)
    obtain ⟨j, rfl⟩ : ∃ j, i = j + 1 := ⟨i - 1, by omega⟩
    rw [it_first] at hg
    exact ⟨j, by omega, hg⟩)
theorem it_two (f : Nat → Nat) (s : Nat) : ∀ i, it (fun x => f (f x)) i s = it f (2 * i) s
  | 0 => rfl
  | i + 1 => by
    show f (f (it (fun x => f (f x)) i s)) = _
    rw [it_two f s i, show 2 * (i + 1) = 2 * i + 1 + 1 by omega]
    rfl
/-- the loop doubled -/
theorem Mac.good_twice (o : m.Ok) {s : Nat} (hs : s < m.size) (u v : List Nat) : m.good s u (v ++ v) = m.good s u v := beq_of (by
  rw [Mac.good_io o hs, Mac.good_io o hs]
  have ef : (fun x => (m.lap x (v ++ v)).1) = fun x => (m.lap (m.lap x v).1 v).1 := funext fun x => Mac.lap_app1 x v v
  have eg : (fun x => (m.lap x (v ++ v)).2) = fun x => ((m.lap x v).2 || (m.lap (m.lap x v).1 v).2) := funext fun x => Mac.lap_app2 x v v
  rw [ef, eg]
  generalize (m.lap s u).1 = x0
  constructor
  · intro h N
    obtain ⟨i, hi, hg⟩ := h N
    rw [it_two (fun x => (m.lap x v).1)] at hg
    rcases Bool.or_eq_true_iff.mp hg with hg | hg
    · exact ⟨2 * i, by omega, hg⟩
    · exact ⟨2 * i + 1, by omega, hg⟩
  · intro h N
    obtain ⟨i, hi, hg⟩ := h (2 * N)
    refine ⟨i / 2, by omega, ?_⟩
    rw [it_two (fun x => (m.lap x v).1)]
    by_cases e : i = 2 * (i / 2)
    · rw [← e]
      exact Bool.or_eq_true_iff.mpr (Or.inl hg)
    · have e2 : i = 2 * (i / 2) + 1 := by omega
      rw [e2] at hg
      exact Bool.or_eq_true_iff.mpr (Or.inr hg))
/-- the loop turned by one letter -/
theorem Mac.good_turn (o : m.Ok) {s : Nat} (hs : s < m.size) (u v : List Nat) (c : Nat) : m.good s (u ++ [c]) (v ++ [c]) = m.good s u (c :: v) := beq_of (by
  rw [Mac.good_io o hs, Mac.good_io o hs, Mac.lap_app1]
  have ef : (fun x => (m.lap x (v ++ [c])).1) = fun x => m.tg (m.lap x v).1 c := funext fun x => Mac.lap_app1 x v [c]
  have eg : (fun x => (m.lap x (v ++ [c])).2) = fun x => ((m.lap x v).2 || m.mkd (m.lap x v).1 c) := funext fun x => by
    rw [Mac.lap_app2]
    show ((m.lap x v).2 || (false || m.mkd (m.lap x v).1 c)) = _
    rw [Bool.false_or]
  have ec : ∀ x, m.lap x (c :: v) = ((m.lap (m.tg x c) v).1, m.mkd x c || (m.lap (m.tg x c) v).2) := fun x => by
    have h := Mac.lap_app (m := m) x [c] v
    have h2 : m.lap x [c] = (m.tg x c, false || m.mkd x c) := rfl
    rw [h2, Bool.false_or] at h
    exact h
  have ef2 : (fun x => (m.lap x (c :: v)).1) = fun x => (m.lap (m.tg x c) v).1 := funext fun x => by rw [ec x]
  have eg2 : (fun x => (m.lap x (c :: v)).2) = fun x => (m.mkd x c || (m.lap (m.tg x c) v).2) := funext fun x => by rw [ec x]
  have e1 : ∀ x, (m.lap x [c]).1 = m.tg x c := fun x => rfl
  rw [ef, eg, ef2, eg2, e1]
  generalize (m.lap s u).1 = x0
  have sh : ∀ i, it (fun x => m.tg (m.lap x v).1 c) i (m.tg x0 c) = m.tg (it (fun x => (m.lap (m.tg x c) v).1) i x0) c := fun i => by
    induction i with
    | zero => rfl
    | succ i ih =>
      show m.tg (m.lap (it (fun x => m.tg (m.lap x v).1 c) i (m.tg x0 c)) v).1 c = _
      rw [ih]
      rfl
  constructor
  · intro h N
    obtain ⟨i, hi, hg⟩ := h N
    rw [sh] at hg
    rcases Bool.or_eq_true_iff.mp hg with hg | hg
    · exact ⟨i, hi, Bool.or_eq_true_iff.mpr (Or.inr hg)⟩
    · exact ⟨i + 1, by omega, Bool.or_eq_true_iff.mpr (Or.inl hg)⟩
  · intro h N
    obtain ⟨i, hi, hg⟩ := h (N + 1)
    rcases Bool.or_eq_true_iff.mp hg with hg | hg
    · obtain ⟨j, rfl⟩ : ∃ j, i = j + 1 := ⟨i - 1, by omega⟩
      refine ⟨j, by omega, ?_⟩
      rw [sh]
      exact Bool.or_eq_true_iff.mpr (Or.inr hg)
    · refine ⟨i, by omega, ?_⟩
      rw [sh]
      exact Bool.or_eq_true_iff.mpr (Or.inl hg))
end
theorem mul_rep (v : List Nat) (n : Nat) (hn : 1 ≤ n) : Txt.mul (wtx v) (n : Int) = wtx (rep n v) := by
  by_cases h1 : n = 1
  · subst h1
    unfold Txt.mul
    rw [if_neg (by omega), if_pos (by rfl), rep_succ, rep_zero, List.nil_append]
  · by_cases h2 : v = []
    · subst h2
      have e : rep n [] = [] := List.length_eq_zero_iff.mp (by rw [rep_length]; rfl)
      rw [e]
      unfold Txt.mul
      rw [if_neg (by omega), if_pos (by rw [Bool.or_eq_true]; exact Or.inr rfl)]
    · exact mul_wtx v n (by omega) h2
end Nt

namespace Nt
open PySem PySem.Spec PyProof.Rows L2 Evl TL
theorem wtx_ne {v : List Nat} (h : v ≠ []) : V.str (wtx v) ≠ V.str ("" : Str) := fun e => by
  injection e with e
  have h2 := congrArg Str.length e
  rw [wtx_len] at h2
  exact h (List.length_eq_zero_iff.mp h2)
theorem mulOk_wtx {v : List Nat} {n : Nat} (hv : v.length ≤ 1000) (hn : n ≤ 300) : MulOk (wtx v) (n : Int) := by
  have hp : v.length * n ≤ 1000 * 300 := Nat.mul_le_mul hv hn
  refine ⟨?_, fun h _ => ?_, fun _ _ => ?_⟩
  · rw [Bool.or_eq_false_iff]
    exact ⟨decide_eq_false (by omega), decide_eq_false (by omega)⟩
  · rw [wtx_len]
    have h2 : (v.length : Int) ≤ (2 ^ 63 - 1) / (n : Int) := Int.le_ediv_of_mul_le (by omega) (by
      have h3 : ((v.length * n : Nat) : Int) ≤ 300000 := by omega
      push_cast at h3
      omega)
    omega
  · show decide ((wtx v).length * (n : Int).toNat > sizeLine) = false
    rw [wtx_len, Int.toNat_natCast]
    exact decide_eq_false (Nat.not_lt.mpr (by rw [sizeLine_eq]; omega))
theorem cut_tail (c : Nat) (v : List Nat) : cutS (wtx (c :: v)) (some 1) none = wtx v := by
  refine str_ext ?_
  show (((c :: v).map (97 + ·)).drop (HT.sIx (wtx (c :: v)).length 0 (some ((1 : Nat) : Int)))).take (HT.sIx (wtx (c :: v)).length (wtx (c :: v)).length none - HT.sIx (wtx (c :: v)).length 0 (some ((1 : Nat) : Int))) = v.map (97 + ·)
  rw [HT.sIx_none, HT.sIx_nat, wtx_len, List.length_cons, Nat.min_eq_left (by omega), List.map_cons, List.drop_succ_cons, List.drop_zero]
  exact List.take_of_length_le (by rw [List.length_map]; omega)
section
variable {K : PySem.W.Frag} {C : Addr} {H : Hp}
def spContains (C : Addr) : Sp := fun vs H Q _ => ∃ (x t : Addr) (m : Mac) (u v : List Nat), vs = [.ref x, .ref t] ∧ WishAt C H x m ∧ m.Ok ∧ H t = some (.tup [.str (wtx u), .str (wtx v)]) ∧ v ≠ [] ∧ (∀ c ∈ u, c < m.many) ∧ (∀ c ∈ v, c < m.many) ∧ u.length ≤ 700 ∧ v.length ≤ 700 ∧
  RetV (.bl (m.good m.start u v)) H Q
theorem ev_inOwn {σ : L2.St} {ta tb : TE} {x dx : Addr} {fs : List (Str × V)} {m : Mac} {u v : List Nat} {E : XK} (hx : H x = some (.ins C dx fs)) (W : WishAt C H x m) (o : m.Ok) (ha : EvU ta σ H [.str (wtx u), .str (wtx v)]) (hb : Ev tb σ H (.ref x)) (hv : v ≠ []) (h1 : ∀ c ∈ u, c < m.many) (h2 : ∀ c ∈ v, c < m.many) (l1 : u.length ≤ 700) (l2 : v.length ≤ 700) :
    Ev (tOp (rInOwn C (spContains C) E) ta tb) σ H (.bl (m.good m.start u v)) := fun H1 e Q q =>
  ha H1 e _ fun p H2 hp e2 h2' => hb H2 (e.trans e2) _ fun H3 e3 => ⟨x, dx, fs, rfl, e3 _ _ (e2 _ _ (e _ _ hx)), x, p, m, u, v, rfl, W.ex ((e.trans e2).trans e3), o, e3 _ _ h2', hv, h1, h2, l1, l2, fun H4 e4 => ⟨_, rfl, q H4 ((e2.trans e3).trans e4)⟩⟩
def spGood : Sp := fun vs H Q _ => ∃ (a : Addr) (m : Mac) (s : Nat) (u v : List Nat), vs = [.ref a, .int (s : Nat), .str (wtx u), .str (wtx v)] ∧ MacAt H a m ∧ m.Ok ∧ s < m.size ∧ (∀ c ∈ u, c < m.many) ∧ (∀ c ∈ v, c < m.many) ∧ RetV (.bl (m.good s u v)) H Q
theorem sv_good {a : Addr} {m : Mac} {s : Nat} {u v : List Nat} (M : MacAt H a m) (o : m.Ok) (hs : s < m.size) (h1 : ∀ c ∈ u, c < m.many) (h2 : ∀ c ∈ v, c < m.many) : SpV spGood [.ref a, .int (s : Nat), .str (wtx u), .str (wtx v)] H (.bl (m.good s u v)) := fun H1 e Q q E => ⟨a, m, s, u, v, rfl, M.ex e, o, hs, h1, h2, fun H2 e2 => q H2 e2⟩
def spAsked (C : Addr) : Sp := fun vs H Q _ => ∃ (x a : Addr) (m : Mac) (u v : List Nat), vs = [.ref x, .ref a, .str (wtx u), .str (wtx v)] ∧ WishAt C H x m ∧ MacAt H a m ∧ m.Ok ∧ v ≠ [] ∧ (∀ c ∈ u, c < m.many) ∧ (∀ c ∈ v, c < m.many) ∧ u.length ≤ 300 ∧ v.length ≤ 300 ∧ RetV (.bl true) H Q
theorem sv_asked {x a : Addr} {m : Mac} {u v : List Nat} (W : WishAt C H x m) (M : MacAt H a m) (o : m.Ok) (hv : v ≠ []) (h1 : ∀ c ∈ u, c < m.many) (h2 : ∀ c ∈ v, c < m.many) (l1 : u.length ≤ 300) (l2 : v.length ≤ 300) : SpV (spAsked C) [.ref x, .ref a, .str (wtx u), .str (wtx v)] H (.bl true) :=
  fun H1 e Q q E => ⟨x, a, m, u, v, rfl, W.ex e, M.ex e, o, hv, h1, h2, l1, l2, fun H2 e2 => q H2 e2⟩
end
end Nt

namespace Nt
open PySem PySem.Spec PyProof.Rows L2 Evl TL
/-! ### the text of a machine -/
def iS (i : Nat) : Str := toString (i : Int)
theorem str_assoc (a b c : Str) : (a ++ b) ++ c = a ++ (b ++ c) := str_ext (by
  show tl ((a ++ b) ++ c) = tl (a ++ (b ++ c))
  rw [tl_append, tl_append, tl_append, tl_append, List.append_assoc])
theorem str_empty (a : Str) : Str.empty ++ a = a := str_ext (by
  show tl (Str.empty ++ a) = tl a
  rw [tl_append]
  rfl)
theorem str_len (a b : Str) : (a ++ b).length = a.length + b.length := by
  show (a ++ b).cps.size = a.cps.size + b.cps.size
  have h := congrArg List.length (tl_append a b)
  rw [List.length_append] at h
  exact h
def Mac.cell (m : Mac) (s c : Nat) : Str := iS (m.tg s c) ++ (if m.mkd s c = true then ("*" : Str) else ("" : Str))
def Mac.lineTo (m : Mac) (s : Nat) : Nat → Str
  | 0 => iS s ++ (":" : Str)
  | c + 1 => (m.lineTo s c ++ (" " : Str)) ++ m.cell s c
def Mac.line (m : Mac) (s : Nat) : Str := m.lineTo s m.many
def Mac.lines (m : Mac) (n : Nat) : List Str := (("letters " : Str) ++ lets m.many) :: (("start " : Str) ++ iS m.start) :: tab n m.line
def Mac.text (m : Mac) : Str := Txt.join ("\n" : Str) (m.lines m.size)
theorem iS_len : ∀ n, n < 10 → (iS n).length = 1
  | 0, _ => by decide +kernel
  | 1, _ => by decide +kernel
  | 2, _ => by decide +kernel
  | 3, _ => by decide +kernel
  | 4, _ => by decide +kernel
  | 5, _ => by decide +kernel
  | 6, _ => by decide +kernel
  | 7, _ => by decide +kernel
  | 8, _ => by decide +kernel
  | 9, _ => by decide +kernel
  | n + 10, h => absurd h (by omega)
theorem iS_log : ∀ n : Nat, n < 10 → (n : Int).natAbs.log2 < 1920
  | 0, _ => by decide +kernel
  | 1, _ => by decide +kernel
  | 2, _ => by decide +kernel
  | 3, _ => by decide +kernel
  | 4, _ => by decide +kernel
  | 5, _ => by decide +kernel
  | 6, _ => by decide +kernel
  | 7, _ => by decide +kernel
  | 8, _ => by decide +kernel
  | 9, _ => by decide +kernel
  | n + 10, h => absurd h (by omega)
theorem Mac.cell_len {m : Mac} (o : m.Ok) (s c : Nat) : (m.cell s c).length ≤ 2 := by
  have h := o.tg s c
  have h8 := o.s8
  unfold Mac.cell
  rw [str_len, iS_len _ (by omega)]
  by_cases e : m.mkd s c = true
  · rw [if_pos e]
    decide
  · rw [if_neg e]
    decide
theorem Mac.lineTo_len {m : Mac} (o : m.Ok) {s : Nat} (hs : s < 10) : ∀ c, (m.lineTo s c).length ≤ 2 + 3 * c
  | 0 => by
    show (iS s ++ (":" : Str)).length ≤ 2
    rw [str_len, iS_len s hs]
    decide
  | c + 1 => by
    have h1 := Mac.lineTo_len o hs c
    have h2 := m.cell_len o s c
    show ((m.lineTo s c ++ (" " : Str)) ++ m.cell s c).length ≤ _
    rw [str_len, str_len, show (" " : Str).length = 1 from rfl]
    omega
theorem Mac.line_len {m : Mac} (o : m.Ok) {s : Nat} (hs : s < 10) : (m.line s).length ≤ 14 := by
  have h := Mac.lineTo_len o hs m.many
  have := o.m4
  unfold Mac.line
  omega
theorem sum_tab {n k : Nat} {f : Nat → Nat} (h : ∀ i, i < n → f i ≤ k) : (tab n f).sum ≤ n * k := by
  induction n with
  | zero => exact Nat.zero_le _
  | succ n ih =>
    rw [tab_succ, List.sum_append, List.sum_cons, List.sum_nil, Nat.succ_mul]
    have h1 := ih fun i hi => h i (by omega)
    have h2 := h n (by omega)
    omega
theorem Mac.lines_len {m : Mac} (o : m.Ok) : ((m.lines m.size).map (·.length)).sum + (m.lines m.size).length * ("\n" : Str).length ≤ 16777216 := by
  have s8 := o.s8
  have st := o.st
  have m4 := o.m4
  have h : (tab m.size fun i => (m.line i).length).sum ≤ m.size * 14 := sum_tab fun i hi => m.line_len o (by omega)
  show (("letters " ++ lets m.many : Str).length + (("start " ++ iS m.start : Str).length + ((tab m.size m.line).map (·.length)).sum)) + (((tab m.size m.line).length + 1) + 1) * 1 ≤ _
  rw [tab_map, tab_len, str_len, str_len, lets_len, iS_len _ (by omega), show ("letters " : Str).length = 8 from rfl, show ("start " : Str).length = 6 from rfl]
  have h2 : m.size * 14 ≤ 8 * 14 := Nat.mul_le_mul_right _ s8
  omega
/-- a join, item by item -/
theorem join_fold (y : Str) : ∀ (x : Str) (l : List Str), Txt.join y (x :: l) = l.foldl (fun a z => (a ++ y) ++ z) x
  | x, [] => by
    rw [join_eq]
    rfl
  | x, z :: l => by
    have h := join_fold y ((x ++ y) ++ z) l
    rw [List.foldl_cons, ← h, join_eq, join_eq]
    cases l with
    | nil => rfl
    | cons z2 l =>
      show x ++ y ++ Str.join y (z :: z2 :: l) = ((x ++ y) ++ z) ++ y ++ Str.join y (z2 :: l)
      show x ++ y ++ (z ++ y ++ Str.join y (z2 :: l)) = _
      rw [str_assoc, str_assoc, str_assoc, str_assoc, str_assoc]
theorem Mac.join_line (m : Mac) (s : Nat) : ∀ k, Txt.join (" " : Str) ((iS s ++ (":" : Str)) :: tab k (m.cell s)) = m.lineTo s k
  | 0 => join_fold _ _ []
  | k + 1 => by
    have h := Mac.join_line m s k
    rw [join_fold] at h ⊢
    rw [tab_succ, List.foldl_append, h]
    rfl
section
variable {K : PySem.W.Frag} {σ : L2.St} {H : Hp} {te ta tb to : TE}
theorem ev_int1B {b : Bool} (h : Ev te σ H (.bl b)) : Ev (tCB (fun xs H Q => (∃ i, xs = [V.int i] ∧ Q (.int i) H) ∨ (∃ k, xs = [V.bl k] ∧ Q (.int (b2i k)) H)) (tCons te tNil)) σ H (.int (b2i b)) := ev_cb (ea_cons h ea_nil) fun H1 _ Q q => .inr ⟨b, rfl, q H1 (Ex.refl H1)⟩
theorem ev_str1 {n : Nat} (hn : n < 10) (h : Ev te σ H (.int (n : Nat))) : Ev (tCB (fun xs H Q => ∃ i, xs = [V.int i] ∧ i.natAbs.log2 < 1920 ∧ Q (.str (toString i)) H) (tCons te tNil)) σ H (.str (iS n)) := ev_cb (ea_cons h ea_nil) fun H1 _ Q q => ⟨(n : Int), rfl, iS_log n hn, q H1 (Ex.refl H1)⟩
theorem ev_cat {a b : Str} (ha : Ev ta σ H (.str a)) (hb : Ev tb σ H (.str b)) (hz : a.length + b.length ≤ 100000) : Ev (tOp (fun x y H Q => ∃ i j, x = .str i ∧ y = .str j ∧ i.length + j.length ≤ sizeLine ∧ Q (.str (i ++ j)) H) ta tb) σ H (.str (a ++ b)) :=
  ev_op ha hb fun H1 e Q q => ⟨_, _, rfl, rfl, sz_of hz, q H1 (Ex.refl H1)⟩
theorem ev_fmtS {a : Str} (h : Ev te σ H (.str a)) (hz : a.length ≤ 100000) : Ev (tFmt te) σ H (.str a) := fun H1 e Q q => h H1 e _ fun H2 e2 => .inl ⟨a, rfl, sz_of hz, q H2 e2⟩
theorem ev_fmtI {n : Nat} (hn : n < 10) (h : Ev te σ H (.int (n : Nat))) : Ev (tFmt te) σ H (.str (iS n)) := fun H1 e Q q => h H1 e _ fun H2 e2 => .inr ⟨(n : Int), rfl, iS_log n hn, q H2 e2⟩
theorem ev_js2 {a b : Str} (ha : Ev ta σ H (.str a)) (hb : Ev tb σ H (.str b)) (hz : a.length + b.length ≤ 100000) : Ev (fun σ H Q => tJs [ta, tb] Str.empty σ H fun out H1 => Q (.str out) H1) σ H (.str (a ++ b)) := fun H1 e Q q =>
  ha H1 e _ fun H2 e2 => ⟨a, rfl, sz_of (by rw [str_empty]; omega), hb H2 (e.trans e2) _ fun H3 e3 => ⟨b, rfl, sz_of (by rw [str_empty, str_len]; exact hz), by
    rw [str_empty]
    exact q H3 (e2.trans e3)⟩⟩
/-- [e for c in text] -/
theorem el_lcS {z : Str} {j : Nat} {vs : List Nat} (v : Nat → V) (h : Ev to σ H (.str z)) (hz : z.length ≤ 40000) (hw : ∀ x, wipe ((wipe σ vs).set j (some x)) vs = wipe σ vs)
    (he : ∀ (i c : Nat) H1, Ex H H1 → z.cps[i]? = some c → Ev te ((wipe σ vs).set j (some (.str ⟨#[c]⟩))) H1 (v i)) : EvL (tLc (iStr to) (gName j) tYes te vs) σ H (tab z.length v) := fun H0 e Q q =>
  h H0 e _ fun H1 e1 => ⟨z, rfl, fun Dl hD => lc_it (walk_str (z := z)) (Cw H1 (fun _ => true) v Dl) ⟨hD, Ex.new hD, upd_same⟩ (fun _ _ _ _ => trivial) (fun i x H2 H3 hi p y => by
    obtain ⟨rfl, c, hc, rfl⟩ := y
    exact ⟨hw _, cw_turn p (by have h9 : i < z.length := hi; omega) et_yes (fun _ => he i c H1 (e.trans e1) hc)⟩) (fun H' p => by
    have h3 := p.2.2
    rw [tab_given] at h3
    exact q Dl H' (fresh_back e1 p.1) (e1.trans p.2.1) h3)⟩
end
theorem star_cell {b : Bool} : Txt.mul ("*" : Str) (b2i b) = if b = true then ("*" : Str) else ("" : Str) := by
  cases b <;> decide +kernel
theorem star_ok (b : Bool) : MulOk ("*" : Str) (b2i b) := by
  cases b
  · exact ⟨by decide, fun h => absurd (show b2i false < 1 by decide) h, fun h => absurd (show b2i false < 1 by decide) h⟩
  · exact ⟨by decide, fun _ h => absurd h (by decide), fun _ h => absurd h (by decide)⟩
section
variable {H : Hp} {C : Addr}
def spLText : Sp := fun vs H Q _ => ∃ (a : Addr) (m : Mac), vs = [.ref a] ∧ MacAt H a m ∧ m.Ok ∧ RetV (.str m.text) H Q
theorem sv_ltext {a : Addr} {m : Mac} (M : MacAt H a m) (o : m.Ok) : SpV spLText [.ref a] H (.str m.text) := fun H1 e Q q E => ⟨a, m, rfl, M.ex e, o, fun H2 e2 => q H2 e2⟩
def spStep (C : Addr) : Sp := fun vs H Q _ => ∃ (x : Addr) (m : Mac) (s c : Nat), vs = [.ref x, .int (s : Nat), .str (lt1 c)] ∧ WishAt C H x m ∧ m.Ok ∧ s < m.size ∧ c < m.many ∧ RetV (.str (m.cell s c)) H Q
theorem sv_step {x : Addr} {m : Mac} {s c : Nat} (W : WishAt C H x m) (o : m.Ok) (h1 : s < m.size) (h2 : c < m.many) : SpV (spStep C) [.ref x, .int (s : Nat), .str (lt1 c)] H (.str (m.cell s c)) := fun H1 e Q q E => ⟨x, m, s, c, rfl, W.ex e, o, h1, h2, fun H2 e2 => q H2 e2⟩
def spText (C : Addr) : Sp := fun vs H Q _ => ∃ (x : Addr) (m : Mac), vs = [.ref x] ∧ WishAt C H x m ∧ m.Ok ∧ RetV (.str m.text) H Q
theorem sv_text {x : Addr} {m : Mac} (W : WishAt C H x m) (o : m.Ok) : SpV (spText C) [.ref x] H (.str m.text) := fun H1 e Q q E => ⟨x, m, rfl, W.ex e, o, fun H2 e2 => q H2 e2⟩
end
end Nt

namespace Nt
open PySem PySem.Spec PyProof.Rows L2 Evl TL
/-! ### machines that differ by a start, by marks, by a target -/
def Mac.from_ (m : Mac) (t : Nat) : Mac := { m with start := t }
def Mac.withMarks (m : Mac) (l : List (Nat × Nat)) : Mac := { m with mkd := fun s c => decide ((s, c) ∈ l) }
def Mac.put (m : Mac) (s c t : Nat) : Mac := { m with tg := fun s' c' => if s' = s ∧ c' = c then t else m.tg s' c' }
section
variable {m : Mac}
theorem Mac.from_ok (o : m.Ok) {t : Nat} (h : t < m.size) : (m.from_ t).Ok := ⟨o.m1, o.m4, o.s1, o.s8, h, o.tg⟩
theorem Mac.marks_ok (o : m.Ok) (l : List (Nat × Nat)) : (m.withMarks l).Ok := ⟨o.m1, o.m4, o.s1, o.s8, o.st, o.tg⟩
theorem Mac.put_ok (o : m.Ok) {s c t : Nat} (h : t < m.size) : (m.put s c t).Ok := ⟨o.m1, o.m4, o.s1, o.s8, o.st, fun s' c' => by
  show (if s' = s ∧ c' = c then t else m.tg s' c') < m.size
  split
  · exact h
  · exact o.tg s' c'⟩
theorem Mac.from_good (t s : Nat) (u v : List Nat) : (m.from_ t).good s u v = m.good s u v := rfl
theorem Mac.from_same : m.from_ m.start = m := rfl
theorem Mac.good_word (s : Nat) (u v : List Nat) : m.good s u v = m.good (m.lap s u).1 [] v := rfl
theorem Mac.good_two (s : Nat) (u v z : List Nat) : m.good s (u ++ v) z = m.good (m.lap (m.lap s u).1 v).1 [] z := by
  rw [Mac.good_word, Mac.lap_app1]
theorem Mac.marks_mN {l : List (Nat × Nat)} (h : ∀ q ∈ l, q.1 < m.size ∧ q.2 < m.many) (s c : Nat) : (if (s, c) ∈ l then some (V.bl true) else none) = (m.withMarks l).mN s c := by
  unfold Mac.mN
  by_cases e : (s, c) ∈ l
  · rw [if_pos e, if_pos ⟨(h _ e).1, (h _ e).2, decide_eq_true e⟩]
  · rw [if_neg e, if_neg fun z => e (of_decide_eq_true z.2.2)]
theorem Mac.put_tN {s0 c0 t : Nat} (h1 : s0 < m.size) (h2 : c0 < m.many) (s c : Nat) : (if s = s0 ∧ c = c0 then some (V.int (t : Nat)) else m.tN s c) = (m.put s0 c0 t).tN s c := by
  unfold Mac.tN
  by_cases e : s = s0 ∧ c = c0
  · rw [if_pos e, if_pos (show s < (m.put s0 c0 t).size ∧ c < (m.put s0 c0 t).many by rw [e.1, e.2]; exact ⟨h1, h2⟩)]
    show _ = some (V.int ((if s = s0 ∧ c = c0 then t else m.tg s c : Nat) : Int))
    rw [if_pos e]
  · rw [if_neg e]
    by_cases e2 : s < m.size ∧ c < m.many
    · rw [if_pos e2, if_pos (show s < (m.put s0 c0 t).size ∧ c < (m.put s0 c0 t).many from e2)]
      show _ = some (V.int ((if s = s0 ∧ c = c0 then t else m.tg s c : Nat) : Int))
      rw [if_neg e]
    · rw [if_neg e2, if_neg (show ¬ (s < (m.put s0 c0 t).size ∧ c < (m.put s0 c0 t).many) from e2)]
end
theorem put_len_old {kvs : List (List Key × V)} {k : List Key} {v y : V} (h : valV kvs k = some v) : (putK kvs k y).length = kvs.length := by
  unfold putK
  rw [if_pos (by rw [valV_any, h]; rfl), List.length_map]
theorem Mac.from_rowTo (m : Mac) (t s : Nat) : ∀ j, (m.from_ t).rowTo s j = m.rowTo s j
  | 0 => rfl
  | j + 1 => by
    show (m.from_ t).rowTo s j ++ _ = m.rowTo s j ++ _
    rw [Mac.from_rowTo m t s j]
    rfl
theorem Mac.from_upto (m : Mac) (t : Nat) : ∀ i, (m.from_ t).upto i = m.upto i
  | 0 => rfl
  | i + 1 => by
    show (m.from_ t).upto i ++ (m.from_ t).rowTo i m.many = m.upto i ++ m.rowTo i m.many
    rw [Mac.from_upto m t i, Mac.from_rowTo]
theorem Mac.from_prs (m : Mac) (t : Nat) : (m.from_ t).prs = m.prs := Mac.from_upto m t m.size
/-! ### what a change leaves -/
section
variable {C : Addr} {H H' : Hp} {x y dT dM d : Addr} {m : Mac}
theorem WishOf.offIns (W : WishOf C H x dT dM m) (e : Off H H' y) (n : x ≠ y) {C' dx' : Addr} {fs : List (Str × V)} (hy : H y = some (.ins C' dx' fs)) : WishOf C H' x dT dM m := by
  obtain ⟨dx, kT, kM, W⟩ := W
  have nT : dT ≠ y := fun z => by
    have h := W.T
    rw [z, hy] at h
    cases h
  have nM : dM ≠ y := fun z => by
    have h := W.M
    rw [z, hy] at h
    cases h
  exact ⟨dx, kT, kM, ⟨e _ _ n W.ins, e _ _ nT W.T, e _ _ nM W.M, W.tT, W.tM, W.lT, W.lM⟩⟩
theorem WishOf.offTab (W : WishOf C H x dT dM m) (e : Off H H' d) (n1 : dT ≠ d) (n2 : dM ≠ d) {kd : List (List Key × V)} (hd : H d = some (.dT kd)) : WishOf C H' x dT dM m := by
  obtain ⟨dx, kT, kM, W⟩ := W
  have nx : x ≠ d := fun z => by
    have h := W.ins
    rw [z, hd] at h
    cases h
  exact ⟨dx, kT, kM, ⟨e _ _ nx W.ins, e _ _ n1 W.T, e _ _ n2 W.M, W.tT, W.tM, W.lT, W.lM⟩⟩
theorem MacAt.offIns {a : Addr} (M : MacAt H a m) (e : Off H H' y) {C' dx' : Addr} {fs : List (Str × V)} (hy : H y = some (.ins C' dx' fs)) : MacAt H' a m := by
  obtain ⟨aT, aM, rT, rM, M⟩ := M
  have ne : ∀ {b l}, H b = some (.lst l) → b ≠ y := fun h z => by
    rw [z, hy] at h
    cases h
  exact ⟨aT, aM, rT, rM, ⟨e _ _ (ne M.top) M.top, e _ _ (ne M.tT) M.tT, e _ _ (ne M.tM) M.tM, fun s h => e _ _ (ne (M.row s h)) (M.row s h), fun s h => e _ _ (ne (M.rowM s h)) (M.rowM s h)⟩⟩
theorem MacAt.offTab {a : Addr} (M : MacAt H a m) (e : Off H H' d) {kd : List (List Key × V)} (hd : H d = some (.dT kd)) : MacAt H' a m := by
  obtain ⟨aT, aM, rT, rM, M⟩ := M
  have ne : ∀ {b l}, H b = some (.lst l) → b ≠ d := fun h z => by
    rw [z, hd] at h
    cases h
  exact ⟨aT, aM, rT, rM, ⟨e _ _ (ne M.top) M.top, e _ _ (ne M.tT) M.tT, e _ _ (ne M.tM) M.tM, fun s h => e _ _ (ne (M.row s h)) (M.row s h), fun s h => e _ _ (ne (M.rowM s h)) (M.rowM s h)⟩⟩
theorem WishOf.tab (W : WishOf C H x dT dM m) : ∃ k, H dT = some (.dT k) := let ⟨_, kT, _, W⟩ := W; ⟨kT, W.T⟩
theorem WishOf.tabM (W : WishOf C H x dT dM m) : ∃ k, H dM = some (.dT k) := let ⟨_, _, kM, W⟩ := W; ⟨kM, W.M⟩
theorem WishOf.obj (W : WishOf C H x dT dM m) : ∃ dx fs, H x = some (.ins C dx fs) := let ⟨dx, _, _, W⟩ := W; ⟨dx, _, W.ins⟩
end
/-! ### promises -/
/-- a new wish of the machine m -/
def RetW (C : Addr) (m : Mac) (H : Hp) (Q : VK) : Prop := ∀ y dT dM H2, H y = none → H dT = none → H dM = none → Ex H H2 → WishOf C H2 y dT dM m → Q (.ref y) H2
def EvW (C : Addr) (te : TE) (σ : L2.St) (H : Hp) (m : Mac) : Prop := ∀ H1, Ex H H1 → ∀ Q : VK, (∀ y dT dM H2, H1 y = none → H1 dT = none → H1 dM = none → Ex H1 H2 → WishOf C H2 y dT dM m → Q (.ref y) H2) → te σ H1 Q
section
variable {C : Addr} {σ : L2.St} {H : Hp} {te ta tb tl : TE} {m : Mac} {D : Ends} {tz : TS} {i : Nat} {K : PySem.W.Frag}
theorem q_asgW (h : EvW C te σ H m) (k : ∀ y dT dM H1, H y = none → H dT = none → H dM = none → Ex H H1 → WishOf C H1 y dT dM m → tz D (σ.set i (some (.ref y))) H1) : tSeq (tAsg te (gName i)) tz D σ H := h H (Ex.refl H) _ k
def spRsh (C : Addr) : Sp := fun vs H Q _ => ∃ (x : Addr) (m : Mac) (z : List Nat), vs = [.ref x, .str (wtx z)] ∧ WishAt C H x m ∧ m.Ok ∧ (∀ c ∈ z, c < m.many) ∧ RetW C (m.from_ (m.lap m.start z).1) H Q
theorem ew_rsh {x : Addr} {z : List Nat} {E : XK} (W : WishAt C H x m) (o : m.Ok) (hz : ∀ c ∈ z, c < m.many) (ha : Ev ta σ H (.ref x)) (hb : Ev tb σ H (.str (wtx z))) : EvW C (tOp (rShr C (spRsh C) E) ta tb) σ H (m.from_ (m.lap m.start z).1) := fun H1 e Q q =>
  ha H1 e _ fun H2 e2 => hb H2 (e.trans e2) _ fun H3 e3 => by
    have W3 := W.ex ((e.trans e2).trans e3)
    obtain ⟨dx, dT, dM, kT, kM, Wb⟩ := id W3
    exact ⟨x, dx, _, _, rfl, rfl, Wb.ins, x, m, z, rfl, W3, o, hz, fun y dT dM H4 n1 n2 n3 e4 Wo => ⟨y, rfl, q y dT dM H4 (fresh_back (e2.trans e3) n1) (fresh_back (e2.trans e3) n2) (fresh_back (e2.trans e3) n3) ((e2.trans e3).trans e4) Wo⟩⟩
/-- the text of a wish, of a new one, of a machine made on the way -/
theorem ev_text {x : Addr} {E : XK} (W : WishAt C H x m) (o : m.Ok) (ha : Ev ta σ H (.ref x)) : Ev (tMeth C "text" (spText C) [] E ta tNil) σ H (.str m.text) := by
  obtain ⟨dx, dT, dM, kT, kM, Wb⟩ := id W
  exact ev_meth ha Wb.ins (by rfl) ea_nil (sv_text W o)
theorem ev_textW {E : XK} (h : EvW C ta σ H m) (o : m.Ok) : Ev (tMeth C "text" (spText C) [] E ta tNil) σ H (.str m.text) := fun H1 e Q q => h H1 e _ fun y dT dM H2 _ _ _ e2 Wo => by
  obtain ⟨dx, kT, kM, Wb⟩ := id Wo
  exact ⟨y, dx, _, rfl, Wb.ins, by rfl, y, m, rfl, Wo.any, o, fun H3 e3 => q H3 (e2.trans e3)⟩
theorem ev_ltextL {E : XK} {xs : List V} (h : EvL tl σ H xs) (hM : ∀ p H1, Ex H H1 → H1 p = some (.lst xs) → MacAt H1 p m) (o : m.Ok) : Ev (tCall spLText [] E (tCons tl tNil)) σ H (.str m.text) := fun H1 e Q q =>
  h H1 e _ fun p H2 _ e2 hp => ⟨p, m, rfl, hM p H2 (e.trans e2) hp, o, fun H3 e3 => q H3 (e2.trans e3)⟩
def spRemark (C : Addr) : Sp := fun vs H Q _ => ∃ (x dT dM p : Addr) (m : Mac) (l : List (Nat × Nat)), vs = [.ref x, .ref p] ∧ WishOf C H x dT dM m ∧ PrsAt H p l ∧ (∀ q ∈ l, q.1 < m.size ∧ q.2 < m.many) ∧ l.length ≤ 1000 ∧
  ∀ H2 dM2, Off H H2 x → H dM2 = none → WishOf C H2 x dT dM2 (m.withMarks l) → Q .non H2
def spSet (C : Addr) : Sp := fun vs H Q _ => ∃ (x dT dM t : Addr) (m : Mac) (s c v : Nat), vs = [.ref x, .ref t, .int (v : Nat)] ∧ WishOf C H x dT dM m ∧ dT ≠ dM ∧ H t = some (.tup [.int (s : Nat), .str (lt1 c)]) ∧ s < m.size ∧ c < m.many ∧ v < m.size ∧
  ∀ H2, Off H H2 dT → WishOf C H2 x dT dM (m.put s c v) → Q .non H2
end
theorem empW : V.str ("" : Str) = V.str (wtx []) := by decide +kernel
theorem aW : V.str ("a" : Str) = V.str (lt1 0) := by decide +kernel
theorem WishOf.ne {C : Addr} {H : Hp} {x dT dM : Addr} {m : Mac} (W : WishOf C H x dT dM m) (o : m.Ok) : dT ≠ dM := fun z => by
  obtain ⟨dx, kT, kM, W⟩ := W
  have h := W.T
  rw [z, W.M] at h
  injection h with h
  injection h with h
  have h1 := W.tT.at_ 0 0
  rw [← h, W.tM.at_, Mac.tN_in o.s1 o.m1] at h1
  unfold Mac.mN at h1
  split at h1
  · cases h1
  · cases h1
theorem MacBy.from_at {H : Hp} {a aT aM p : Addr} {rT rM : Nat → Addr} {m : Mac} {t : Nat} (M : MacBy H a aT aM rT rM m) (hp : H p = some (.lst [.str (lets m.many), .ref aT, .ref aM, .int (t : Nat)])) : MacAt H p (m.from_ t) := ⟨aT, aM, rT, rM, ⟨hp, M.tT, M.tM, M.row, M.rowM⟩⟩
section
variable {C : Addr} {σ : L2.St} {H : Hp} {te ta tb tl tv te1 te2 : TE} {m : Mac} {D : Ends} {tz : TS} {i : Nat} {K : PySem.W.Frag} {tt : TT} {g : TG}
theorem q_asgG (h : te σ H fun v H1 => g v σ H1 fun σ2 H2 => tz D σ2 H2) : tSeq (tAsg te g) tz D σ H := h
theorem q_dropQ (h : te σ H fun _ H1 => tz D σ H1) : tSeq (tDrop te) tz D σ H := h
theorem ev_ltf {a aT aM : Addr} {rT rM : Nat → Addr} {t : Nat} {E : XK} (M : MacBy H a aT aM rT rM m) (o : m.Ok) (ht : t < m.size) (hi : σ[i]? = some (some (.ref a))) (hv : Ev tv σ H (.int (t : Nat))) :
    Ev (tCall spLText [] E (tCons (tLst (tCons (tOp (rIxL K) (tVar i) (tC (.int 0))) (tCons (tOp (rIxL K) (tVar i) (tC (.int 1))) (tCons (tOp (rIxL K) (tVar i) (tC (.int 2))) (tCons tv tNil))))) tNil)) σ H (.str (m.from_ t).text) :=
  ev_ltextL (el_lst (ea_cons (M.evL (ev_var hi)) (ea_cons (M.evT (ev_var hi)) (ea_cons (M.evM (ev_var hi)) (ea_cons hv ea_nil)))) (Nat.le_of_ble_eq_true rfl)) (fun p H1 e hp => (M.ex e).from_at hp) (Mac.from_ok o ht)
theorem ev_inW {x : Addr} {u v : List Nat} {E : XK} (W : WishAt C H x m) (o : m.Ok) (ha : EvU ta σ H [.str (wtx u), .str (wtx v)]) (hb : Ev tb σ H (.ref x)) (hv : v ≠ []) (h1 : ∀ c ∈ u, c < m.many) (h2 : ∀ c ∈ v, c < m.many) (l1 : u.length ≤ 700) (l2 : v.length ≤ 700) :
    Ev (tOp (rInOwn C (spContains C) E) ta tb) σ H (.bl (m.good m.start u v)) := by
  obtain ⟨dx, dT, dM, kT, kM, Wb⟩ := id W
  exact ev_inOwn Wb.ins W o ha hb hv h1 h2 l1 l2
def sel (f : Nat → Bool) (c n : Nat) : List (Nat × Nat) := ((List.range n).filter f).map fun s => (s, c)
theorem sel_len (f : Nat → Bool) (c n : Nat) : (sel f c n).length ≤ n := by
  unfold sel
  rw [List.length_map]
  have h := List.length_filter_le f (List.range n)
  rw [List.length_range] at h
  exact h
theorem sel_in {f : Nat → Bool} {c n : Nat} {q : Nat × Nat} (h : q ∈ sel f c n) : q.1 < n ∧ q.2 = c := by
  obtain ⟨s, hs, rfl⟩ := List.mem_map.mp h
  exact ⟨List.mem_range.mp (List.mem_filter.mp hs).1, rfl⟩
theorem sel_yes {f : Nat → Bool} {c n : Nat} (h : f n = true) : sel f c (n + 1) = sel f c n ++ [(n, c)] := by
  unfold sel
  rw [List.range_succ, List.filter_append, List.map_append, List.filter_cons, if_pos h]
  rfl
theorem sel_no {f : Nat → Bool} {c n : Nat} (h : f n = false) : sel f c (n + 1) = sel f c n := by
  unfold sel
  rw [List.range_succ, List.filter_append, List.map_append, List.filter_cons, if_neg (by rw [h]; decide)]
  show _ ++ [] = _
  rw [List.append_nil]
/-- [(s, c) for s in range(n) if ..] -/
theorem prs_lcR1 {t : TA} {j : Nat} {vs : List Nat} {n : Nat} {Q : VK} (f : Nat → Bool) (c : Nat) (h : EvA t σ H [.int (n : Int)]) (hn : n ≤ 1000) (hw : ∀ x, wipe ((wipe σ vs).set j (some x)) vs = wipe σ vs)
    (ht : ∀ (i : Nat) H1, Ex H H1 → i < n → EvT tt ((wipe σ vs).set j (some (.int (i : Int)))) H1 (f i)) (he1 : ∀ (i : Nat) H1, Ev te1 ((wipe σ vs).set j (some (.int (i : Int)))) H1 (.int (i : Nat))) (he2 : ∀ (i : Nat) H1, Ev te2 ((wipe σ vs).set j (some (.int (i : Int)))) H1 (.str (lt1 c)))
    (k : ∀ p H2, H p = none → Ex H H2 → PrsAt H2 p (sel f c n) → Q (.ref p) H2) : tLc (iRng1 t) (gName j) tt (tTup (tCons te1 (tCons te2 tNil))) vs σ H Q :=
  h H (Ex.refl H) _ fun H1 e1 => ⟨n, rfl, by omega, by omega, fun Dl hD =>
    lc_range (lo := 0) (n := (n : Int).toNat) (fun i H' => Ex H1 H' ∧ PrsAt H' Dl (sel f c i)) ⟨Ex.new hD, PrsAt.nil upd_same⟩ (fun i H' hi p => by
      have e0 : (0 : Int) + (i : Int) = (i : Int) := Int.zero_add _
      obtain ⟨p1, p2⟩ := p
      have hi' : i < n := by omega
      show wipe ((wipe σ vs).set j (some (.int ((0 : Int) + (i : Int))))) vs = wipe σ vs ∧ tt ((wipe σ vs).set j (some (.int ((0 : Int) + (i : Int))))) H' _
      rw [e0]
      refine ⟨hw _, ht i H' (e1.trans p1) hi' H' (Ex.refl H') _ fun H3 e3 => ?_⟩
      cases hb : f i with
      | true =>
        refine ite_yes ?_
        have p3 := p2.ex e3
        obtain ⟨xs, hx, hl⟩ := p3.len
        refine eu_2 (he1 i H3) (he2 i H3) H3 (Ex.refl H3) _ fun q H4 hq e4 h4 => ⟨xs, e4 _ _ hx, sz_lt (by rw [hl]; have := sel_len f c i; omega), Ex.mut ((p1.trans e3).trans e4) hD, ?_⟩
        rw [sel_yes hb]
        exact p3.snoc e4 hx h4
      | false =>
        refine ite_no ⟨p1.trans e3, ?_⟩
        rw [sel_no hb]
        exact p2.ex e3) (fun H' p => by
      have p2 := p.2
      rw [Int.toNat_natCast] at p2
      exact k Dl H' (fresh_back e1 hD) (e1.trans p.1) p2)⟩
end
theorem q_norm {t : TS} {D : Ends} {σ σ' : L2.St} {H : Hp} (e : σ = σ') (h : t D σ' H) : t D σ H := by
  rw [e]
  exact h
end Nt

/-! The class in the head's facts. -/
namespace Nt
open PySem PySem.W PySem.Calls PyProof.Rows
def obsX (fa : List He.Fa) (fn : List He5.DefA) (ex : Frag → Bool) (K : Frag) : He.AlD × Bool := (He5.obsA fa fn K, ex K)
def SaysX (fa : List He.Fa) (fn : List He5.DefA) (ex : Frag → Bool) (K : Frag) : Prop := obsX fa fn ex K = (He5.valA fn, true)
def obsXG (n : Nat) (fa : List He.Fa) (fn : List He5.DefA) (ex : Frag → Bool) (g : Addr → Option Obj) : He.AlD × Bool := obsX fa fn ex (He.frG g (He5.asA g n))
def hookX (n : Nat) (fa : List He.Fa) (fn : List He5.DefA) (ex : Frag → Bool) : PySem.W.Hook where
  α := He.AlD × Bool
  obs := fun s => obsXG n fa fn ex s.heap.get?
  val := fun _ => (He5.valA fn, true)
  says := fun _ h => ∃ K : Frag, K.In h ∧ SaysX fa fn ex K
  of := fun _ _ e => ⟨_, He.frG_in, e⟩
  keeps := fun _ _ _ ⟨K, hK, c⟩ k => ⟨K, Frag.In.keeps hK k, c⟩
theorem obsXG_eq {n : Nat} {fa : List He.Fa} {fn : List He5.DefA} {ex : Frag → Bool} {g : Addr → Option Obj} {s : Shared} (h : ∀ a, g a = s.heap.get? a) : obsXG n fa fn ex g = (hookX n fa fn ex).obs s := by
  have e : g = s.heap.get? := funext h
  rw [e] <;> rfl
section
variable {fa : List He.Fa} {fn : List He5.DefA} {ex : Frag → Bool} {K : Frag}
theorem SaysX.d (c : SaysX fa fn ex K) : He5.SaysA fa fn K := congrArg (fun z : He.AlD × Bool => z.1) c
theorem SaysX.e (c : SaysX fa fn ex K) : ex K = true := congrArg (fun z : He.AlD × Bool => z.2) c
end
/-! ### the class Wish -/
def cW (K : Frag) : Addr := He.ga K "Wish"
def wishB (K : Frag) : Bool := readsIn K (cW K) (.type "type") && ((match findCls K (.ref (cW K)) (.type "type") "MOST_STATES" with
    | some (.val u) => He.relB (.int 8) u
    | _ => false) && He.tupB K "LETTER_SETS" [.str "a", .str "ab", .str "abc", .str "abcd"])
def propB (K : Frag) : Bool := He.eqO (findIn K (.ref (cW K)) "marks") (some (some (.ref (He.ma K (cW K) "marks")))) && (He.eqO (specialIn K (.ref (He.ma K (cW K) "marks")) "__get__") (some (some (.builtin "property.__get__"))) &&
  (decide (takesIn K (.ref (He.ma K (cW K) "marks")) = some true) && (match recIn K (He.ma K (cW K) "marks") "property" with
    | some (.ref _ :: _) => true
    | _ => false)))
theorem propB_ok {K : Frag} (h : propB K = true) : L2.PropOf K (cW K) "marks" (He.ma K (cW K) "marks") (He5.wf K (cW K) "property" "marks") := by
  obtain ⟨h1, h⟩ := He.ba h
  obtain ⟨h2, h⟩ := He.ba h
  obtain ⟨h3, h4⟩ := He.ba h
  refine ⟨He.eqO_ok h1, He.eqO_ok h2, of_decide_eq_true h3, ?_⟩
  unfold He5.wf
  split at h4
  · rename_i f r e
    exact ⟨r, by rw [e]⟩
  · cases h4
theorem cread_ok {K : Frag} {C : Addr} (h0 : readsIn K C (.type "type") = true) : ClX.CRead K C (.type "type") := by
  refine ⟨h0, ?_⟩
  have h := h0
  unfold readsIn at h
  obtain ⟨h, _⟩ := He.ba h
  obtain ⟨h, _⟩ := He.ba h
  obtain ⟨h, h3⟩ := He.ba h
  obtain ⟨_, h2⟩ := He.ba h
  unfold specialIn
  rw [beq_iff_eq.mp h2, Option.bind_some]
  exact beq_iff_eq.mp h3
theorem wishB_ok {K : Frag} (h : wishB K = true) : ClX.CRead K (cW K) (.type "type") ∧ (∃ u, ClX.CVal K (cW K) (.type "type") "MOST_STATES" (.int 8) u) ∧ ∀ H, L2.SqT K H (He.ga K "LETTER_SETS") [.str "a", .str "ab", .str "abc", .str "abcd"] := by
  obtain ⟨h1, h⟩ := He.ba h
  obtain ⟨h2, h3⟩ := He.ba h
  refine ⟨cread_ok h1, ?_, fun H => He.tupB_ok h3 H⟩
  split at h2
  · rename_i u e
    exact ⟨u, e, He.relB_ok h2⟩
  · cases h2
/-- methods as functions -/
def fnsB (ms : List Str) (K : Frag) : Bool := ms.all fun m => fnIn K (He.ma K (cW K) m)
def wishX (ms : List Str) (K : Frag) : Bool := wishB K && (propB K && fnsB ms K)
end Nt

namespace Nt
open PySem PySem.Spec PyProof.Rows L2 Evl TL
def top (i : Nat) : Stmt := PySem.Challenge.pw_noteless_k01_words_lead_to_states.main.body.getD i (.Pass ⟨0, 0, 0, 0⟩)
abbrev FnP (K : PySem.W.Frag) (x : Str) (st : Stmt) (f : Addr) (fd : FuncData) : Prop := FunD K x x (defArgs st) (defBody st) (defScope st) [] [] f fd
abbrev FnW (K : PySem.W.Frag) (x qual : Str) (j : Nat) (dvs : List V) (kws : List (Str × V)) (f : Addr) (fd : FuncData) : Prop := FunD K x qual (defArgs (inClass (top 18) j)) (defBody (inClass (top 18) j)) (defScope (inClass (top 18) j)) dvs kws f fd
abbrev scW (j : Nat) : Scope := defScope (inClass (top 18) j)
end Nt

namespace Nt
open PySem PySem.Spec PyProof.Rows L2 Evl TL
section
variable {P : Program} {w : World} {K : PySem.W.Frag} {mg : Str → Option Value} {base : Heap} {C tS : Addr} {mc : Value}
abbrev sDraws : Stmt := top 29
theorem scDraws : FnScope ["_law_script", "_law_k", "_law_many", "_law_i", "_law_cell", "_law_left", "_law_row", "_law_x"] ["_law_script", "_law_k", "_law_many"] (defScope sDraws) := ⟨rfl, rfl, rfl, by decide +kernel, rfl, by decide +kernel, by decide +kernel⟩
theorem ok_draws {f : Addr} {fd : FuncData} (F : FnP K "_law_draws" sDraws f fd) (B : Bi mg) : FnOk P w K mg base CX0 1 f fd ["_law_script", "_law_k", "_law_many"] (spDraws K) := by
  refine FunD.ok0 F scDraws (fun vs H Q E h => ?_) (fun cdv A outer s H vs Q E hr h => ?_)
  · obtain ⟨a, ns, k, n, rfl, _⟩ := h
    rfl
  · obtain ⟨a, ns, k, n, rfl, hS, hl, hk, hn, q⟩ := h
    have nd := scDraws.nd
    refine ⟨_, (pss_cons (ps_if (pt_cmpR (op_eqD hr.units) (pv 0) (pe_lst pa_nil) (nomark _)) (pss_one (ps_ret (pe_lc (own := [("_law_i", 3)]) rfl nd (pi_range1 (by rfl) B.range (pa_cons (pv 2) pa_nil)) (blkOk_by (own := [("_law_i", 3)]) (by kernel_rfl)) (fun _ _ _ _ _ => (pg_name (i := 3) nd rfl (Or.inl rfl))) (fun _ _ _ _ _ => pts_nil) (fun _ _ _ _ _ => pe_int)))) pss_nil)
      (pss_cons (ps_set (i := 4) nd rfl (Or.inl rfl) (pe_callTy call_int1 (by rfl) B.int (by decide +kernel) (pa_cons (pe_ix ix_list (pv 0) (pe_op op_mod (pe_callTy call_int1 (by rfl) B.int (by decide +kernel) (pa_cons (pv 1) pa_nil)) (pe_callB call_len_seq (by rfl) B.len (by decide +kernel) (pa_cons (pv 0) pa_nil))) (fun _ _ => rfl)) pa_nil)))
      (pss_cons (ps_if (pt_cmpR op_ge (pv 1) (pe_callB call_len_seq (by rfl) B.len (by decide +kernel) (pa_cons (pv 0) pa_nil)) (nomark _)) (pss_one (ps_set (i := 4) nd rfl (Or.inl rfl) (pe_op op_add (pe_op op_mod (pv 4) pe_int) (pe_op op_mul pe_int (pv 1))))) pss_nil)
      (pss_cons (ps_set (i := 5) nd rfl (Or.inl rfl) (pe_callB call_abs (by rfl) B.abs (by decide +kernel) (pa_cons (pv 4) pa_nil)))
      (pss_cons (ps_set (i := 6) nd rfl (Or.inl rfl) (pe_lst pa_nil))
      (pss_cons (ps_for PassesOwn.never rfl (pi_range1 (by rfl) B.range (pa_cons (pv 2) pa_nil)) (pg_name (i := 3) nd rfl (Or.inl rfl))
      (pss_one (ps_if (pt_cmpR op_ge (pe_callB call_abs (by rfl) B.abs (by decide +kernel) (pa_cons (pv 4) pa_nil)) (pe_op op_pow pe_int pe_int) (nomark _)) (pss_cons (ps_expr (pe_bm PySem.F.plainAttrs_list PySem.F.slot_list_append PySem.F.type_list_append mt_append (pv 6) (pa_cons (pe_op op_mod (pv 5) pe_int) pa_nil)))
      (pss_one (ps_set (i := 5) nd rfl (Or.inl rfl) (pe_op op_fdiv (pv 5) pe_int)))) (pss_cons (ps_set (i := 7) nd rfl (Or.inl rfl) (pe_op op_mod (pe_op op_add (pe_op op_add (pe_op op_mul (pe_op op_mod (pv 4) pe_int) pe_int) (pe_op op_mul (pv 3) pe_int)) pe_int) pe_int))
      (pss_one (ps_expr (pe_bm PySem.F.plainAttrs_list PySem.F.slot_list_append PySem.F.type_list_append mt_append (pv 6) (pa_cons (pe_op op_mod (pe_op op_mod (pe_op op_add (pe_op op_add (pe_op op_mul (pe_op op_mul pe_int (pv 7)) (pv 7)) (pv 7)) pe_int) pe_int) pe_int) pa_nil))))))))
      (pss_one (ps_ret (pv 6))))))))), ?_⟩
    -- if script == []
    refine q_when (b := ns.isEmpty) (et_test (ev_opL (ev_var rfl) (el_lst ea_nil (by decide)) fun p H1 hp e => rv_val fun H2 e2 Q q => ⟨.list (ns.map .int), .list [], .lst (ex_l (e.trans e2) hS) (ints_dp ns), .lst (sq_of (e2 _ _ hp)) .nil, ints_shaped ns, ints_shaped [], by rw [ints_nil]; exact q⟩)) (fun hb H1 e1 => ?_) (fun hb H1 e1 => ?_)
    · refine s_retL (el_lcR1 (fun _ => true) (fun _ => .int 0) (ea_cons (ev_var rfl) ea_nil) ⟨by omega, by omega⟩ (fun _ => rfl) (fun _ _ _ _ => et_yes) (fun _ _ _ _ _ => ev_c)) (fun p H2 hp e h => ?_)
      refine q (fun _ => 0) (fun _ => ⟨Int.le_refl 0, by show (0 : Int) < 5040; decide⟩) p H2 (fresh_back e1 hp) (e1.trans e) ?_
      rw [Int.toNat_natCast, tab_given] at h
      exact h
    · have hpos : 0 < ns.length := by
        cases ns with
        | nil => cases hb
        | cons x r => exact Nat.succ_pos _
      have hS1 : SqL K H1 a (ns.map V.int) := ex_l e1 hS
      have hm : k % ns.length < ns.length := Nat.mod_lt _ hpos
      have hat : (ns.map V.int)[k % ns.length]? = some (.int ns[k % ns.length]) := by
        rw [List.getElem?_map, List.getElem?_eq_getElem hm]
        rfl
      -- the cell
      refine q_asg (v := .int ns[k % ns.length]) (ev_cb (ea_cons (ev_op (ev_var rfl) (ev_is (ev_op (ev_cb (ea_cons (ev_var rfl) ea_nil) (fun H1 _ Q q => .inl ⟨_, rfl, q H1 (Ex.refl H1)⟩)) (ev_len (ev_var rfl) hS1) (rv_I (by rw [List.length_map]; omega)))
        (w := .int ((k % ns.length : Nat) : Int)) (by rw [List.length_map]; rfl)) (rv_ixL hS1 (atI_nat hat))) ea_nil) (fun H1 _ Q q => .inl ⟨_, rfl, q H1 (Ex.refl H1)⟩)) (fun H2 e2 => ?_)
      have hS2 := ex_l e2 hS1
      generalize ns[k % ns.length] = c0
      -- behind the script the cell is another
      refine q_ifAsg (b := decide ((ns.length : Int) ≤ (k : Int))) (v := .int (if (ns.length : Int) ≤ (k : Int) then c0 % 9973 + 7 * (k : Int) else c0))
        (et_test (ev_is (ev_op (ev_var rfl) (ev_len (ev_var rfl) hS2) rv_0) (by rw [List.length_map])))
        (fun hb => ev_is (ev_op (ev_op (ev_var rfl) ev_c (rv_I (by decide))) (ev_op ev_c (ev_var rfl) (rv_I (.inl ⟨by decide, by decide⟩))) rv_0) (by rw [if_pos (of_decide_eq_true hb)]))
        (fun hb => by rw [if_neg (of_decide_eq_false hb)]; rfl) (fun H3 e3 => ?_)
      generalize (if (ns.length : Int) ≤ (k : Int) then c0 % 9973 + 7 * (k : Int) else c0) = c
      refine q_asg (ev_cb (ea_cons (ev_var rfl) ea_nil) (fun H1 _ Q q => ⟨c, rfl, q H1 (Ex.refl H1)⟩)) (fun H4 e4 => ?_)
      refine q_asgL (el_lst ea_nil (by decide)) (fun p H5 hp e5 h5 => ?_)
      have new : H p = none := fresh_back e1 (fresh_back e2 (fresh_back e3 (fresh_back e4 hp)))
      have ex5 : Ex H H5 := (((e1.trans e2).trans e3).trans e4).trans e5
      refine q_forR1 (n := (n : Int)) (ea_cons (ev_var rfl) ea_nil) ⟨by omega, by omega⟩
        (fun i σ' H' => ∃ (g : Nat → Int) (l : Int) (u3 u7 : Option V), σ' = [some (.ref a), some (.int (k : Int)), some (.int (n : Int)), u3, some (.int c), some (.int l), some (.ref p), u7] ∧ (∀ j, 0 ≤ g j ∧ g j < 5040) ∧ Ex H H' ∧ H' p = some (.lst (tab i fun j => .int (g j))))
        (fun H6 e6 => ⟨fun _ => 0, _, none, none, rfl, fun _ => ⟨Int.le_refl 0, by show (0 : Int) < 5040; decide⟩, ex5.trans e6, e6 _ _ h5⟩) ?_ ?_
      · rintro i σ' H' hi ⟨g, l, u3, u7, rfl, hg, eH, hp'⟩
        have room : (tab i fun j => V.int (g j)).length < 100000 := by
          rw [tab_len]
          omega
        have next : ∀ z : Int, 0 ≤ z → z < 5040 → ∀ j, 0 ≤ (if j = i then z else g j) ∧ (if j = i then z else g j) < 5040 := by
          intro z z0 z1 j
          by_cases e : j = i
          · rw [if_pos e]
            exact ⟨z0, z1⟩
          · rw [if_neg e]
            exact hg j
        refine s_if (b := decide ((10 : Int) ^ 18 ≤ if c < 0 then -c else c)) (et_test (ev_op (ev_cb (ea_cons (ev_var rfl) ea_nil) (fun H1 _ Q q => ⟨c, rfl, q H1 (Ex.refl H1)⟩)) (ev_op ev_c ev_c (rv_I ⟨by decide, by decide, by decide⟩)) rv_0)) (fun hb H6 e6 => ?_) (fun hb H6 e6 => ?_)
        · refine q_app (e6 _ _ hp') (ev_var rfl) (ev_op (ev_var rfl) ev_c (rv_I (by decide))) room (fun H7 e7 => ?_)
          refine s_asg (ev_op (ev_var rfl) ev_c (rv_I ⟨by decide, by decide⟩)) (fun H8 e8 => ?_)
          refine ⟨fun j => if j = i then l % 5040 else g j, _, _, _, rfl, next _ (by omega) (by omega), (Ex.mut (eH.trans (e6.trans e7)) new).trans e8, ?_⟩
          rw [← tab_snoc V.int g]
          exact e8 _ _ upd_same
        · refine q_asg (ev_op (ev_op (ev_op (ev_op (ev_op (ev_var rfl) ev_c (rv_I (by decide))) ev_c (rv_I (.inl ⟨by omega, by omega⟩))) (ev_op (ev_var rfl) ev_c (rv_I (.inl ⟨by omega, by omega⟩))) rv_0) ev_c rv_0) ev_c (rv_I (by decide))) (fun H7 e7 => ?_)
          generalize hx : (c % 9973 * 37 + (i : Int) * 101 + 11) % 997 = x
          have x0 : 0 ≤ x := by omega
          have x1 : x < 997 := by omega
          refine s_app (e7 _ _ (e6 _ _ hp')) (ev_var rfl) (ev_op (ev_op (ev_op (ev_op (ev_op (ev_op ev_c (ev_var rfl) (rv_I (.inl ⟨by decide, by decide⟩))) (ev_var rfl) (rv_I (.inl ⟨by omega, by omega⟩))) (ev_var rfl) rv_0) ev_c rv_0) ev_c (rv_I (by decide))) ev_c (rv_I (by decide))) room (fun H8 e8 => ?_)
          refine ⟨fun j => if j = i then (3 * x * x + x + 577) % 7919 % 5040 else g j, _, _, _, rfl, next _ (by omega) (by omega), Ex.mut (eH.trans ((e6.trans e7).trans e8)) new, ?_⟩
          rw [← tab_snoc V.int g]
          exact upd_same
      · rintro σ' H' ⟨g, l, u3, u7, rfl, hg, eH, hp'⟩
        refine s_ret (ev_var rfl) (fun H6 e6 => ?_)
        rw [Int.toNat_natCast] at hp'
        exact q g hg p H6 new (eH.trans e6) (e6 _ _ hp')
end
section
variable {P : Program} {w : World} {K : PySem.W.Frag} {mg : Str → Option Value} {base : Heap} {C tS : Addr} {mc : Value}
abbrev sWord : Stmt := top 33
theorem scWord : FnScope ["_law_row","_law_letters","_law_top","_law_size","_law_k"] ["_law_row","_law_letters","_law_top"] (defScope sWord) := ⟨rfl, rfl, rfl, by decide +kernel, rfl, by decide +kernel, by decide +kernel⟩
theorem ok_word {f : Addr} {fd : FuncData} (F : FnP K "_law_word" sWord f fd) (B : Bi mg) : FnOk P w K mg base CX0 1 f fd ["_law_row","_law_letters","_law_top"] (spWord K) := by
  refine FunD.ok0 F scWord (fun vs H Q E h => ?_) (fun cdv A outer s H vs Q E hr h => ?_)
  · obtain ⟨a, n, g, t, v, rfl, _⟩ := h
    rfl
  · obtain ⟨a, n, g, t, v, rfl, hS, hv, ht, hn, g1, g4, q⟩ := h
    have nd := scWord.nd
    refine ⟨_, (pss_cons (ps_set (i := 3) nd rfl (Or.inl rfl) (pe_op op_mod (pe_callTy call_int1 (by rfl) B.int (by decide +kernel) (pa_cons (pe_ix ix_list (pv 0) pe_int (fun _ _ => rfl)) pa_nil)) (pe_op op_add (pv 2) pe_int)))
      (pss_one (ps_ret (pe_join pe_str (pe_lc (own := [("_law_k", 4)]) rfl nd (pi_range1 (by rfl) B.range (pa_cons (pv 3) pa_nil)) (blkOk_by (own := [("_law_k", 4)]) (by kernel_rfl)) (fun _ _ _ _ _ => (pg_name (i := 4) nd rfl (Or.inl rfl))) (fun _ _ _ _ _ => pts_nil) (fun _ _ _ _ _ => (pe_ix ix_str (pv 1) (pe_op op_mod (pe_callTy call_int1 (by rfl) B.int (by decide +kernel) (pa_cons (pe_ix (ix_listK (K := K) rfl) (pv 0) (pe_op op_add pe_int (pv 4)) (fun _ _ => rfl)) pa_nil)) (pe_callB call_len_str (by rfl) B.len (by decide +kernel) (pa_cons (pv 1) pa_nil))) (fun _ _ => rfl)))))))), ?_⟩
    have v0 := hv 0
    have zl : ∀ x : Int, 0 ≤ x % (g : Int) ∧ x % (g : Int) < g := fun x => ⟨Int.emod_nonneg _ (by omega), Int.emod_lt_of_pos _ (by omega)⟩
    refine q_asg (ev_op (ev_int1 (ev_op (ev_var rfl) ev_c (rv_ixL hS (atI_nat (tab_at (show 0 < n by omega) _))))) (ev_op (ev_var rfl) ev_c rv_0) (rv_I (by omega))) fun H1 e1 => ?_
    have len0 : 0 ≤ v 0 % ((t : Int) + 1) ∧ v 0 % ((t : Int) + 1) < (t : Int) + 1 := ⟨Int.emod_nonneg _ (by omega), Int.emod_lt_of_pos _ (by omega)⟩
    generalize hlen : v 0 % ((t : Int) + 1) = L at len0
    obtain ⟨k, rfl⟩ := Int.eq_ofNat_of_zero_le len0.1
    have hk : k ≤ t := by omega
    let ch : Nat → Nat := fun j => (v (1 + j) % (g : Int)).toNat
    have hch : ∀ j, ch j < g := fun j => by
      have h := zl (v (1 + j))
      show (v (1 + j) % (g : Int)).toNat < g
      omega
    have hS1 := ex_l e1 hS
    have e0 : (tab k fun j => lt1 (ch j)) = (tab k ch).map lt1 := (tab_map lt1).symm
    refine s_ret (ev_join (tab k fun j => lt1 (ch j)) ev_c (el_lcR1 (n := (k : Int)) (fun _ => true) (fun j => .str (lt1 (ch j))) (ea_cons (ev_var rfl) ea_nil) ⟨by omega, by omega⟩ (fun _ => rfl) (fun _ _ _ _ => et_yes) (fun j H2 e2 hj _ =>
      ev_op (ev_var rfl) (ev_is (ev_op (ev_int1 (ev_op (ev_var rfl) (ev_is (ev_op ev_c (ev_var rfl) rv_0) (w := .int ((1 + j : Nat) : Int)) (congrArg V.int (by push_cast; rfl))) (rv_ixL (ex_l e2 hS1) (atI_nat (tab_at (show 1 + j < n by omega) _))))) (ev_lenS (ev_var rfl) (by rw [lets_len]; omega)) (rv_I (by rw [lets_len]; omega)))
        (w := .int ((ch j : Nat) : Int)) (by rw [lets_len]; exact congrArg V.int (Int.toNat_of_nonneg (zl (v (1 + j))).1).symm)) (rv_ixS (by rw [lets_len]; omega) (lets_atI (hch j))))) ?_ ?_) fun H2 e2 => ?_
    · rw [tab_given, Int.toNat_natCast, tab_map]
    · rw [e0, sum_lt1, List.length_map, tab_len]
      show k + k * 0 ≤ _
      omega
    · rw [e0, join_lt1 (by rfl)]
      refine q (tab k ch) (by rw [tab_len]; exact hk) (fun c hc => ?_) H2 (e1.trans e2)
      obtain ⟨j, _, rfl⟩ := tab_mem.mp hc
      exact hch j
end
section
variable {P : Program} {w : World} {K : PySem.W.Frag} {mg : Str → Option Value} {base : Heap} {C tS : Addr} {mc : Value}
abbrev sLap : Stmt := top 34
theorem scLap : FnScope ["_law_m","_law_state","_law_word_here","_law_seen","_law_letter","_law_c"] ["_law_m","_law_state","_law_word_here"] (defScope sLap) := ⟨rfl, rfl, rfl, by decide +kernel, rfl, by decide +kernel, by decide +kernel⟩
theorem ok_lap {f : Addr} {fd : FuncData} (F : FnP K "_law_lap" sLap f fd) (B : Bi mg) : FnOk P w K mg base CX0 1 f fd ["_law_m","_law_state","_law_word_here"] spLap := by
  refine FunD.ok0 F scLap (fun vs H Q E h => ?_) (fun cdv A outer s H vs Q E hr h => ?_)
  · obtain ⟨a, m, s, z, rfl, _⟩ := h
    rfl
  · obtain ⟨a, m, s, z, rfl, M, o, hs, hz, q⟩ := h
    have nd := scLap.nd
    refine ⟨_, (pss_cons (ps_set (i := 3) nd rfl (Or.inl rfl) pe_bl)
      (pss_cons (ps_for PassesOwn.never rfl (pi_str (pv 2)) (pg_name (i := 4) nd rfl (Or.inl rfl))
      (pss_cons (ps_set (i := 5) nd rfl (Or.inl rfl) (pe_bm PySem.F.plainAttrs_str PySem.F.slot_str_index PySem.F.type_str_index mt_indexS pe_str (pa_cons (pv 4) pa_nil)))
      (pss_cons (ps_set (i := 3) nd rfl (Or.inl rfl) (pe_or (pv 3) (pe_one (pe_ix ix_list (pe_ix ix_list (pe_ix ix_list (pv 0) pe_int (fun _ _ => rfl)) (pv 1) (fun _ _ => rfl)) (pv 5) (fun _ _ => rfl)))))
      (pss_one (ps_set (i := 1) nd rfl (Or.inl rfl) (pe_ix ix_list (pe_ix ix_list (pe_ix ix_list (pv 0) pe_int (fun _ _ => rfl)) (pv 1) (fun _ _ => rfl)) (pv 5) (fun _ _ => rfl)))))))
      (pss_one (ps_ret (pe_lst (pa_cons (pv 1) (pa_cons (pv 3) pa_nil))))))), ?_⟩
    obtain ⟨aT, aM, rT, rM, M⟩ := M
    refine q_asg ev_c fun H1 e1 => ?_
    refine q_forS (z := wtx z) (ev_var rfl) (fun i σ' H' => ∃ u4 u5, σ' = [some (.ref a), some (.int ((m.lap s (z.take i)).1 : Nat)), some (.str (wtx z)), some (.bl (m.lap s (z.take i)).2), u4, u5] ∧ Ex H H')
      (fun H2 e2 => ⟨none, none, rfl, e1.trans e2⟩) ?_ ?_
    · rintro i c' σ' H' hc ⟨u4, u5, rfl, e⟩
      obtain ⟨c, hc, el⟩ := wtx_at hc
      have hcm : c < m.many := hz c (List.mem_of_getElem? hc)
      have M' := M.ex e
      obtain ⟨rest, hidx⟩ := abcd_at c (Nat.lt_of_lt_of_le hcm o.m4)
      rw [el]
      refine q_asg (v := .int (c : Nat)) (fun H2 e2 Q q => ⟨rfl, ⟨_, rfl, _, _, _, _, rfl, rfl, hidx, q H2 (Ex.refl H2)⟩⟩) fun H2 e2 => ?_
      have M2 := M'.ex e2
      refine q_asg (ev_orV (ev_var rfl) fun _ => M2.evMk (ev_var rfl) (ev_var rfl) (ev_var rfl) (Mac.lap_lt o hs _) hcm) fun H3 e3 => ?_
      have M3 := M2.ex e3
      refine s_asg (M3.evTg (ev_var rfl) (ev_var rfl) (ev_var rfl) (Mac.lap_lt o hs _) hcm) fun H4 e4 => ?_
      refine ⟨some (.str (lt1 c)), some (.int (c : Nat)), ?_, ((e.trans e2).trans e3).trans e4⟩
      rw [Mac.lap_snoc hc]
      rfl
    · rintro σ' H' ⟨u4, u5, rfl, e⟩
      rw [wtx_size, List.take_length]
      exact s_retL (el_lst (ea_cons (ev_var rfl) (ea_cons (ev_var rfl) ea_nil)) (Nat.le_of_ble_eq_true rfl)) fun p H2 hp e2 h2 => q p H2 (fresh_back e hp) (e.trans e2) h2
end
section
variable {P : Program} {w : World} {K : PySem.W.Frag} {mg : Str → Option Value} {base : Heap} {C tS : Addr} {mc : Value}
abbrev sPairs : Stmt := top 31
theorem scPairs : FnScope ["_law_m","_law_pairs_here","_law_s","_law_c"] ["_law_m"] (defScope sPairs) := ⟨rfl, rfl, rfl, by decide +kernel, rfl, by decide +kernel, by decide +kernel⟩
theorem ok_pairs {f : Addr} {fd : FuncData} (F : FnP K "_law_pairs" sPairs f fd) (B : Bi mg) : FnOk P w K mg base CX0 1 f fd ["_law_m"] spPairs := by
  refine FunD.ok0 F scPairs (fun vs H Q E h => ?_) (fun cdv A outer s H vs Q E hr h => ?_)
  · obtain ⟨a, m, rfl, _⟩ := h
    rfl
  · obtain ⟨a, m, rfl, M, o, q⟩ := h
    have nd := scPairs.nd
    refine ⟨_, (pss_cons (ps_set (i := 1) nd rfl (Or.inl rfl) (pe_lst pa_nil))
      (pss_cons (ps_for PassesOwn.never rfl (pi_range1 (by rfl) B.range (pa_cons (pe_callB call_len_seq (by rfl) B.len (by decide +kernel) (pa_cons (pe_ix ix_list (pv 0) pe_int (fun _ _ => rfl)) pa_nil)) pa_nil)) (pg_name (i := 2) nd rfl (Or.inl rfl))
      (pss_one (ps_for PassesOwn.never rfl (pi_range1 (by rfl) B.range (pa_cons (pe_callB call_len_str (by rfl) B.len (by decide +kernel) (pa_cons (pe_ix ix_list (pv 0) pe_int (fun _ _ => rfl)) pa_nil)) pa_nil)) (pg_name (i := 3) nd rfl (Or.inl rfl))
      (pss_one (ps_if (pt_val (pe_ix ix_list (pe_ix ix_list (pe_ix ix_list (pv 0) pe_int (fun _ _ => rfl)) (pv 2) (fun _ _ => rfl)) (pv 3) (fun _ _ => rfl))) (pss_one (ps_expr (pe_bm PySem.F.plainAttrs_list PySem.F.slot_list_append PySem.F.type_list_append mt_append (pv 1) (pa_cons (pe_tup (pa_cons (pv 2) (pa_cons (pe_ix ix_str (pe_ix ix_list (pv 0) pe_int (fun _ _ => rfl)) (pv 3) (fun _ _ => rfl)) pa_nil))) pa_nil)))) pss_nil)))))
      (pss_one (ps_ret (pv 1))))), ?_⟩
    obtain ⟨aT, aM, rT, rM, M⟩ := M
    have s8 := o.s8
    have m4 := o.m4
    refine q_asgL (el_lst ea_nil (by decide)) fun p H1 hp e1 h1 => ?_
    refine q_forR1 (n := (m.size : Int)) (ea_cons ((M.ex e1).evN (ev_var rfl)) ea_nil) ⟨by omega, by omega⟩
      (fun i σ' H' => ∃ u2 u3, σ' = [some (.ref a), some (.ref p), u2, u3] ∧ Ex H H' ∧ PrsAt H' p (m.upto i)) (fun H2 e2 => ⟨none, none, rfl, e1.trans e2, PrsAt.nil (e2 _ _ h1)⟩) ?_ ?_
    · rintro i σ' H' hi ⟨u2, u3, rfl, e, hP⟩
      have hi' : i < m.size := by omega
      refine s_forR1 (n := (m.many : Int)) (ea_cons ((M.ex e).evC o (ev_var rfl)) ea_nil) ⟨by omega, by omega⟩
        (fun j σ' H' => ∃ u3, σ' = [some (.ref a), some (.ref p), some (.int (i : Nat)), u3] ∧ Ex H H' ∧ PrsAt H' p (m.upto i ++ m.rowTo i j)) (fun H2 e2 => ⟨u3, rfl, e.trans e2, ?_⟩) ?_ ?_
      · show PrsAt H2 p (m.upto i ++ [])
        rw [List.append_nil]
        exact hP.ex e2
      · rintro j σ' H2 hj ⟨u3, rfl, e2, hP2⟩
        have hj' : j < m.many := by omega
        refine s_when (b := m.mkd i j) (et_B ((M.ex e2).evMk (ev_var rfl) (ev_var rfl) (ev_var rfl) hi' hj')) (fun hb H3 e3 => ?_) (fun hb H3 e3 => ?_)
        · have hP3 := hP2.ex e3
          obtain ⟨xs, hx, hl⟩ := hP3.len
          have M3 := M.ex (e2.trans e3)
          have len1 := m.upto_len i
          have len2 := m.rowTo_len i j
          have len3 : i * m.many ≤ 8 * 4 := Nat.mul_le_mul (by omega) m4
          refine s_appU hx (ev_var rfl) (eu_tup (ea_cons (ev_var rfl) (ea_cons (M3.evLt o (ev_var rfl) (ev_var rfl) hj') ea_nil)) (Nat.le_of_ble_eq_true rfl)) (by rw [hl, List.length_append]; omega) fun t H4 ht e4 h4 => ?_
          refine ⟨_, rfl, Ex.mut ((e2.trans e3).trans e4) hp, ?_⟩
          rw [Mac.rowTo, hb, if_pos rfl, ← List.append_assoc]
          exact hP3.snoc e4 hx h4
        · refine ⟨_, rfl, e2.trans e3, ?_⟩
          rw [Mac.rowTo, hb, if_neg (by decide), List.append_nil]
          exact hP2.ex e3
      · rintro σ' H2 ⟨u3, rfl, e2, hP2⟩
        rw [Int.toNat_natCast] at hP2
        exact ⟨_, u3, rfl, e2, hP2⟩
    · rintro σ' H' ⟨u2, u3, rfl, e, hP⟩
      rw [Int.toNat_natCast] at hP
      exact s_ret (ev_var rfl) fun H2 e2 => q p H2 hp (e.trans e2) (hP.ex e2)

end
section
variable {P : Program} {w : World} {K : PySem.W.Frag} {mg : Str → Option Value} {base : Heap} {C tS : Addr} {mc : Value}
abbrev sIsInt : Stmt := top 35
theorem scIsInt : FnScope ["_law_x"] ["_law_x"] (defScope sIsInt) := ⟨rfl, rfl, rfl, by decide +kernel, rfl, by decide +kernel, by decide +kernel⟩
theorem ok_isint {f : Addr} {fd : FuncData} (F : FnP K "_law_is_int" sIsInt f fd) (B : Bi mg) : FnOk P w K mg base CX0 1 f fd ["_law_x"] spIsInt := by
  refine FunD.ok0 F scIsInt (fun vs H Q E h => ?_) (fun cdv A outer s H vs Q E hr h => ?_)
  · obtain ⟨i, rfl, _⟩ := h
    rfl
  · obtain ⟨i, rfl, q⟩ := h
    have nd := scIsInt.nd
    refine ⟨_, (pss_one (ps_ret (pe_and (pe_callB call_isi (by rfl) B.isinstance (by decide +kernel) (pa_cons (pv 0) (pa_cons (pe_bltn (v := .ty "int") (by rfl) B.int (by decide +kernel) rfl) pa_nil))) (pe_one (pe_not (pe_callB call_isi (by rfl) B.isinstance (by decide +kernel) (pa_cons (pv 0) (pa_cons (pe_bltn (v := .ty "bool") (by rfl) B.bool (by decide +kernel) rfl) pa_nil)))))))), ?_⟩
    refine s_ret (v := .bl true) (ev_is (ev_andV (ev_cb (ea_cons (ev_var rfl) (ea_cons ev_c ea_nil)) (rc_isi (b := true) (.ty _) (fun _ _ => .base (.int i)) (kit_ty (by decide +kernel)))) fun _ => ev_notV (ev_cb (ea_cons (ev_var rfl) (ea_cons ev_c ea_nil)) (rc_isi (b := false) (.ty _) (fun _ _ => .base (.int i)) (kit_ty (by decide +kernel))))) (by rfl)) fun H1 e => q H1 e
end
section
variable {P : Program} {w : World} {K : PySem.W.Frag} {mg : Str → Option Value} {base : Heap} {C tS : Addr} {mc : Value}
theorem scReach : FnScope ["self","word","letter","state"] ["self","word"] (scW 9) := ⟨rfl, rfl, rfl, by decide +kernel, rfl, by decide +kernel, by decide +kernel⟩
theorem ok_reach {f : Addr} {fd : FuncData} (F : FnW K "reach" "Wish.reach" 9 [] [] f fd) (B : Bi mg) (T : WF K mg C tS mc) : FnOk P w K mg base CX0 1 f fd ["self","word"] (spReach C) := by
  refine FunD.ok0 F scReach (fun vs H Q E h => ?_) (fun cdv A outer s H vs Q E hr h => ?_)
  · obtain ⟨x, m, z, rfl, _⟩ := h
    rfl
  · obtain ⟨x, m, z, rfl, W0, o, hz, q⟩ := h
    obtain ⟨dx, dT, dM, kT, kM, W⟩ := id W0
    have nd := scReach.nd
    have hu := hu_of hr
    refine ⟨_, (pss_cons (ps_for PassesOwn.never rfl (pi_str (pv 1)) (pg_name (i := 2) nd rfl (Or.inl rfl))
      (pss_one (ps_if (pt_cmpR op_notIn_sign (pv 2) (pe_fld (pv 0) rfl) (by rfl)) (pss_one ps_never) pss_nil)))
      (pss_cons (ps_set (i := 3) nd rfl (Or.inl rfl) (pe_fld (pv 0) rfl))
      (pss_cons (ps_for PassesOwn.never rfl (pi_str (pv 1)) (pg_name (i := 2) nd rfl (Or.inl rfl))
      (pss_one (ps_set (i := 3) nd rfl (Or.inl rfl) (pe_dget hu (pe_fld (pv 0) rfl) (pe_tup (pa_cons (pv 3) (pa_cons (pv 2) pa_nil))) (fun _ _ => rfl)))))
      (pss_one (ps_ret (pv 3)))))), ?_⟩
    refine q_forS (z := wtx z) (ev_var rfl) (fun i σ' H' => ∃ u2, σ' = [some (.ref x), some (.str (wtx z)), u2, none] ∧ Ex H H') (fun H1 e1 => ⟨none, rfl, e1⟩) ?_ ?_
    · rintro i c' σ' H' hc ⟨u2, rfl, e⟩
      obtain ⟨c, hc, el⟩ := wtx_at hc
      rw [el]
      refine s_when (b := false) (et_test (ev_op (ev_var rfl) ((W.ex e).evL T (ev_var rfl)) (fun H1 _ Q q => ⟨97 + c, lets m.many, rfl, rfl, ?_⟩))) (fun hb => by cases hb) (fun _ H5 e5 => ⟨_, rfl, e.trans e5⟩)
      rw [decide_eq_true (mem_lets (hz c (List.mem_of_getElem? hc)))]
      exact q H1 (Ex.refl H1)
    · rintro σ' H' ⟨u2, rfl, e⟩
      refine q_asg ((W.ex e).evS T (ev_var rfl)) fun H1 e1 => ?_
      refine q_forS (z := wtx z) (ev_var rfl) (fun i σ' H' => ∃ u2, σ' = [some (.ref x), some (.str (wtx z)), u2, some (.int ((m.lap m.start (z.take i)).1 : Nat))] ∧ Ex H H') (fun H2 e2 => ⟨_, rfl, (e.trans e1).trans e2⟩) ?_ ?_
      · rintro i c' σ' H' hc ⟨u2, rfl, e⟩
        obtain ⟨c, hc, el⟩ := wtx_at hc
        rw [el]
        have W1 := W.ex e
        refine s_asg (ev_dget (ky := ky (m.lap m.start (z.take i)).1 c) (W1.evT T (ev_var rfl)) (eu_2 (ev_var rfl) (ev_var rfl)) rfl W1.T (by rw [W.tT.at_, Mac.tN_in (Mac.lap_lt o o.st _) (hz c (List.mem_of_getElem? hc))])) fun H2 e2 => ⟨some (.str (lt1 c)), ?_, e.trans e2⟩
        rw [Mac.lap_snoc hc]
        rfl
      · rintro σ' H' ⟨u2, rfl, e⟩
        rw [wtx_size, List.take_length]
        exact s_ret (ev_var rfl) fun H2 e2 => q H2 (e.trans e2)
end
section
variable {P : Program} {w : World} {K : PySem.W.Frag} {mg : Str → Option Value} {base : Heap} {C tS : Addr} {mc : Value}
theorem scUnk : FnScope ["self","state","letter"] ["self","state","letter"] (scW 10) := ⟨rfl, rfl, rfl, by decide +kernel, rfl, by decide +kernel, by decide +kernel⟩
theorem ok_unk {f : Addr} {fd : FuncData} (F : FnW K "_refuse_unknown" "Wish._refuse_unknown" 10 [] [] f fd) (B : Bi mg) (T : WF K mg C tS mc) : FnOk P w K mg base CX0 1 f fd ["self","state","letter"] (spUnk C) := by
  refine FunD.ok0 F scUnk (fun vs H Q E h => ?_) (fun cdv A outer s H vs Q E hr h => ?_)
  · obtain ⟨x, m, s, c, rfl, _⟩ := h
    rfl
  · obtain ⟨x, m, s, c, rfl, ⟨dx, dT, dM, kT, kM, W⟩, h1, h2, q⟩ := h
    have nd := scUnk.nd
    have hu := hu_of hr
    refine ⟨_, (pss_one (ps_if (pt_cmp (pc_dnotin hu (pe_tup (pa_cons (pv 1) (pa_cons (pv 2) pa_nil))) (pe_fld (pv 0) rfl))) (pss_one ps_never) pss_nil)), ?_⟩
    exact s_when (b := false) (et_B (ev_is (ev_dnin (ky := ky s c) (eu_2 (ev_var rfl) (ev_var rfl)) rfl (fun H1 e1 => (W.ex e1).evT T (ev_var rfl)) W.T) (by rw [W.tT.at_, Mac.tN_in h1 h2]; rfl))) (fun hb => by cases hb) (fun _ H5 e5 => q H5 e5)
end
section
variable {P : Program} {w : World} {K : PySem.W.Frag} {mg : Str → Option Value} {base : Heap} {C tS : Addr} {mc : Value}
theorem scMarked : FnScope ["self","state","letter"] ["self","state","letter"] (scW 8) := ⟨rfl, rfl, rfl, by decide +kernel, rfl, by decide +kernel, by decide +kernel⟩
theorem ok_marked {f : Addr} {fd : FuncData} (F : FnW K "marked" "Wish.marked" 8 [] [] f fd) (B : Bi mg) (T : WF K mg C tS mc) (M : MCallee P w K mg base CX0 1 C "_refuse_unknown" ["self","state","letter"] (spUnk C)) : FnOk P w K mg base CX0 2 f fd ["self","state","letter"] (spMarked C) := by
  obtain ⟨f_, d_, F_refuse_unknown, m_refuse_unknown, k_, b_refuse_unknown⟩ := M.ex
  refine FunD.ok0 F scMarked (fun vs H Q E h => ?_) (fun cdv A outer s H vs Q E hr h => ?_)
  · obtain ⟨x, m, s, c, rfl, _⟩ := h
    rfl
  · obtain ⟨x, m, s, c, rfl, W0, h1, h2, q⟩ := h
    obtain ⟨dx, dT, dM, kT, kM, W⟩ := id W0
    have nd := scMarked.nd
    have hu := hu_of hr
    refine ⟨_, (pss_cons (ps_expr (pe_meth (pv 0) T.cl m_refuse_unknown F_refuse_unknown (hr.mono (by decide)) b_refuse_unknown .nil pass0 (pa_cons (pv 1) (pa_cons (pv 2) pa_nil))))
      (pss_one (ps_ret (pe_cmp (pc_din hu (pe_tup (pa_cons (pv 1) (pa_cons (pv 2) pa_nil))) (pe_fld (pv 0) rfl)))))), ?_⟩
    refine q_drop (ev_meth (ev_var rfl) W.ins (by rfl) (ea_cons (ev_var rfl) (ea_cons (ev_var rfl) ea_nil)) (sv_unk W0 h1 h2)) fun H1 e1 => ?_
    have W1 := W.ex e1
    exact s_ret (ev_is (ev_din (ky := ky s c) (eu_2 (ev_var rfl) (ev_var rfl)) rfl (fun H1 e1 => (W1.ex e1).evM T (ev_var rfl)) W1.M) (congrArg V.bl (by rw [W.tM.at_, Mac.mN_in h1 h2]))) fun H2 e2 => q H2 (e1.trans e2)
end
section
variable {P : Program} {w : World} {K : PySem.W.Frag} {mg : Str → Option Value} {base : Heap} {C tS : Addr} {mc : Value}
theorem scGet : FnScope ["self","at","state","letter"] ["self","at"] (scW 11) := ⟨rfl, rfl, rfl, by decide +kernel, rfl, by decide +kernel, by decide +kernel⟩
theorem ok_get {f : Addr} {fd : FuncData} (F : FnW K "__getitem__" "Wish.__getitem__" 11 [] [] f fd) (B : Bi mg) (T : WF K mg C tS mc) (M : MCallee P w K mg base CX0 1 C "_refuse_unknown" ["self","state","letter"] (spUnk C)) : FnOk P w K mg base CX0 2 f fd ["self","at"] (spGet C) := by
  obtain ⟨f_, d_, F_refuse_unknown, m_refuse_unknown, k_, b_refuse_unknown⟩ := M.ex
  refine FunD.ok0 F scGet (fun vs H Q E h => ?_) (fun cdv A outer s H vs Q E hr h => ?_)
  · obtain ⟨x, t, m, s, c, rfl, _⟩ := h
    rfl
  · obtain ⟨x, t, m, s, c, rfl, W0, ht, h1, h2, q⟩ := h
    obtain ⟨dx, dT, dM, kT, kM, W⟩ := id W0
    have nd := scGet.nd
    have hu := hu_of hr
    refine ⟨_, (pss_cons (ps_asg (pv 1) (pg_tup rfl (pgs_cons (pg_name (i := 2) nd rfl (Or.inl rfl)) (pgs_cons (pg_name (i := 3) nd rfl (Or.inl rfl)) pgs_nil))))
      (pss_cons (ps_expr (pe_meth (pv 0) T.cl m_refuse_unknown F_refuse_unknown (hr.mono (by decide)) b_refuse_unknown .nil pass0 (pa_cons (pv 2) (pa_cons (pv 3) pa_nil))))
      (pss_one (ps_ret (pe_dget hu (pe_fld (pv 0) rfl) (pe_tup (pa_cons (pv 2) (pa_cons (pv 3) pa_nil))) (fun _ _ => rfl)))))), ?_⟩
    refine ⟨_, rfl, t, _, rfl, st_of ht, rfl, _, _, rfl, _, _, rfl, rfl, ?_⟩
    refine q_drop (ev_meth (ev_var rfl) W.ins (by rfl) (ea_cons (ev_var rfl) (ea_cons (ev_var rfl) ea_nil)) (sv_unk W0 h1 h2)) fun H1 e1 => ?_
    have W1 := W.ex e1
    exact s_ret (ev_dget (ky := ky s c) (W1.evT T (ev_var rfl)) (eu_2 (ev_var rfl) (ev_var rfl)) rfl W1.T (by rw [W.tT.at_, Mac.tN_in h1 h2])) fun H2 e2 => q H2 (e1.trans e2)
end
section
variable {P : Program} {w : World} {K : PySem.W.Frag} {mg : Str → Option Value} {base : Heap} {C tS : Addr} {mc : Value}
theorem scGetter : FnScope ["self","state","letter"] ["self"] (scW 5) := ⟨rfl, rfl, rfl, by decide +kernel, rfl, by decide +kernel, by decide +kernel⟩
theorem ok_getter {f : Addr} {fd : FuncData} (F : FnW K "marks" "Wish.marks" 5 [] [] f fd) (B : Bi mg) (T : WF K mg C tS mc) : FnOk P w K mg base CX0 1 f fd ["self"] (spGetter C) := by
  refine FunD.ok0 F scGetter (fun vs H Q E h => ?_) (fun cdv A outer s H vs Q E hr h => ?_)
  · obtain ⟨x, m, rfl, _⟩ := h
    rfl
  · obtain ⟨x, m, rfl, W0, o, q⟩ := h
    obtain ⟨dx, dT, dM, kT, kM, W⟩ := id W0
    have nd := scGetter.nd
    have hu := hu_of hr
    refine ⟨_, (pss_one (ps_ret (pe_lc2 (own := [("state", 1), ("letter", 2)]) (vs1 := [2]) rfl nd (pi_range1 (by rfl) B.range (pa_cons (pe_fld (pv 0) rfl) pa_nil)) (blkOk_by (own := [("state", 1), ("letter", 2)]) (by kernel_rfl)) (by decide) (fun _ _ _ _ _ => (pg_name (i := 1) nd rfl (Or.inl rfl))) (fun _ _ _ _ _ => pts_nil) (fun _ _ _ _ _ => (pi_str (pe_fldK (K := K) rfl (pv 0) rfl))) (fun _ _ _ _ _ => (pg_name (i := 2) nd rfl (Or.inl rfl))) (fun _ _ _ _ _ => (pts_one (pt_cmp (pc_din hu (pe_tup (pa_cons (pv 1) (pa_cons (pv 2) pa_nil))) (pe_fldK (K := K) rfl (pv 0) rfl))))) (fun _ _ _ _ _ => (pe_tup (pa_cons (pv 1) (pa_cons (pv 2) pa_nil))))))), ?_⟩
    have s8 := o.s8
    have m4 := o.m4
    refine W.evZ T (ev_var rfl) H (Ex.refl H) _ fun H1 e1 => ⟨_, rfl, by omega, by omega, fun D hD => ?_⟩
    refine rdL2_it (n := m.size) (walk_range0 (n := (m.size : Int).toNat)) (fun i H' => Ex H H' ∧ PrsAt H' D (m.upto i)) ⟨e1.trans (Ex.new hD), PrsAt.nil upd_same⟩ (fun _ _ _ _ => trivial) ?_ ?_
    · rintro i x1 H2 H3 hi ⟨e2, hP⟩ ⟨rfl, rfl⟩
      refine ⟨rfl, t_yes ?_⟩
      refine (W.ex e2).evL T (ev_var rfl) _ (Ex.refl _) _ fun H4 e4 => ⟨lets m.many, rfl, ?_⟩
      refine inL_it (walk_str (z := lets m.many)) (fun j H' => Ex H H' ∧ PrsAt H' D (m.upto i ++ m.rowTo i j)) ⟨e2.trans e4, ?_⟩ (fun _ _ _ _ => trivial) ?_ ?_
      · show PrsAt H4 D (m.upto i ++ [])
        rw [List.append_nil]
        exact hP.ex e4
      · rintro j x2 H5 H6 hj ⟨e5, hP5⟩ ⟨rfl, c', hc, rfl⟩
        have hj' : j < m.many := by
          rw [← lets_len m.many]
          exact hj
        obtain ⟨c, hc, el⟩ := wtx_at hc
        rw [List.getElem?_range hj'] at hc
        cases hc
        rw [el]
        refine ⟨rfl, ?_⟩
        have W5 := W.ex e5
        refine et_is (b := m.mkd i j) (et_B (ev_din (ky := ky i j) (eu_2 (ev_var rfl) (ev_var rfl)) rfl (fun H1 e1 => (W5.ex e1).evM T (ev_var rfl)) W5.M)) (by rw [W.tM.at_, Mac.mN_in hi hj']) _ (Ex.refl _) _ fun H7 e7 => ?_
        have len1 := m.upto_len i
        have len2 := m.rowTo_len i j
        have len3 : i * m.many ≤ 8 * 4 := Nat.mul_le_mul (by omega) m4
        cases hb : m.mkd i j with
        | true =>
          refine ite_yes ?_
          have hP7 := hP5.ex e7
          obtain ⟨xs, hx, hl⟩ := hP7.len
          refine eu_2 (ev_var rfl) (ev_var rfl) _ (Ex.refl _) _ fun t H8 ht e8 h8 => ⟨xs, e8 _ _ hx, sz_lt (by rw [hl, List.length_append]; omega), Ex.mut ((e5.trans e7).trans e8) (fresh_back e1 hD), ?_⟩
          rw [Mac.rowTo, hb, if_pos rfl, ← List.append_assoc]
          exact hP7.snoc e8 hx h8
        | false =>
          refine ite_no ⟨e5.trans e7, ?_⟩
          rw [Mac.rowTo, hb, if_neg (by decide), List.append_nil]
          exact hP5.ex e7
      · rintro H5 ⟨e5, hP5⟩
        rw [show (lets m.many).cps.size = m.many from lets_len _] at hP5
        exact ⟨e5, hP5⟩
    · rintro H2 ⟨e2, hP⟩
      exact q D H2 (fresh_back e1 hD) e2 hP
end
end Nt

namespace Nt
open PySem PySem.Spec PyProof.Rows L2 Evl TL
section
variable {P : Program} {w : World} {K : PySem.W.Frag} {mg : Str → Option Value} {base : Heap} {C tS : Addr} {mc : Value}
abbrev sMachine : Stmt := top 30
theorem scMachine : FnScope ["_law_row","_law_top","_law_size","_law_many","_law_mode","_law_share","_law_targets","_law_marks","_law_s","_law_c","_law_cells","_law_column","_law_bar","_law_names","_law_t","_law_kept","_law_places","_law_moved","_law_flags","_law_cell"] ["_law_row","_law_top"] (defScope sMachine) := ⟨rfl, rfl, rfl, by decide +kernel, rfl, by decide +kernel, by decide +kernel⟩
theorem ok_machine {f : Addr} {fd : FuncData} (F : FnP K "_law_machine" sMachine f fd) (B : Bi mg) : FnOk P w K mg base CX0 1 f fd ["_law_row","_law_top"] (spMachine K) := by
  refine FunD.ok0 F scMachine (fun vs H Q E h => ?_) (fun cdv A outer s H vs Q E hr h => ?_)
  · obtain ⟨a, n, t, v, rfl, _⟩ := h
    rfl
  · obtain ⟨a, n, t, v, rfl, hS, hv, hn, t1, t8, q⟩ := h
    have nd := scMachine.nd
    refine ⟨_, (pss_cons (ps_set (i := 2) nd rfl (Or.inr rfl) (pe_op op_add pe_int (pe_op op_mod (pe_callTy call_int1 (by rfl) B.int (by decide +kernel) (pa_cons (pe_ix ix_list (pv 0) pe_int (fun _ _ => rfl)) pa_nil)) (pe_callB (call_min2 rfl) (by rfl) B.min (by decide +kernel) (pa_cons (pe_callTy call_int1 (by rfl) B.int (by decide +kernel) (pa_cons (pv 1) pa_nil)) (pa_cons (pe_ix ix_list (pe_lst (pa_cons pe_int (pa_cons pe_int (pa_cons pe_int (pa_cons pe_int pa_nil))))) (pe_op op_mod (pe_op op_fdiv (pe_callTy call_int1 (by rfl) B.int (by decide +kernel) (pa_cons (pe_ix ix_list (pv 0) pe_int (fun _ _ => rfl)) pa_nil)) pe_int) pe_int) (fun _ _ => rfl)) pa_nil))))))
      (pss_cons (ps_set (i := 3) nd rfl (Or.inl rfl) (pe_op op_add pe_int (pe_op op_mod (pe_callTy call_int1 (by rfl) B.int (by decide +kernel) (pa_cons (pe_ix ix_list (pv 0) pe_int (fun _ _ => rfl)) pa_nil)) pe_int)))
      (pss_cons (ps_set (i := 4) nd rfl (Or.inl rfl) (pe_op op_mod (pe_callTy call_int1 (by rfl) B.int (by decide +kernel) (pa_cons (pe_ix ix_list (pv 0) pe_int (fun _ _ => rfl)) pa_nil)) pe_int))
      (pss_cons (ps_set (i := 5) nd rfl (Or.inr rfl) (pe_op op_mod (pe_op op_fdiv (pe_callTy call_int1 (by rfl) B.int (by decide +kernel) (pa_cons (pe_ix ix_list (pv 0) pe_int (fun _ _ => rfl)) pa_nil)) pe_int) pe_int))
      (pss_cons (ps_set (i := 6) nd rfl (Or.inr rfl) (pe_lst pa_nil))
      (pss_cons (ps_set (i := 7) nd rfl (Or.inr rfl) (pe_lst pa_nil))
      (pss_cons (ps_for PassesOwn.never rfl (pi_range1 (by rfl) B.range (pa_cons (pv 2) pa_nil)) (pg_name (i := 8) nd rfl (Or.inr rfl))
      (pss_cons (ps_setLc (i := 10) (own := [("_law_c", 9)]) rfl nd rfl rfl (sw_true rfl rfl rfl (by decide +kernel)) (pi_range1 (by rfl) B.range (pa_cons (pv 3) pa_nil)) (blkOk_by (own := [("_law_c", 9)]) (by kernel_rfl)) (fun _ _ _ _ _ => (pg_name (i := 9) nd rfl (Or.inl rfl))) (fun _ _ _ _ _ => pts_nil) (fun _ _ _ _ _ => (pe_callTy call_int1 (by rfl) B.int (by decide +kernel) (pa_cons (pe_ix (ix_listK (K := K) rfl) (pv 0) (pe_op op_add (pe_op op_add pe_int (pe_op op_mul pe_int (pv 8))) (pv 9)) (fun _ _ => rfl)) pa_nil))))
      (pss_cons (ps_expr (pe_bm PySem.F.plainAttrs_list PySem.F.slot_list_append PySem.F.type_list_append mt_append (pv 6) (pa_cons (pe_lc (own := [("_law_cell", 19)]) rfl nd (pi_list (pv 10)) (blkOk_by (own := [("_law_cell", 19)]) (by kernel_rfl)) (fun _ _ _ _ _ => (pg_name (i := 19) nd rfl (Or.inl rfl))) (fun _ _ _ _ _ => pts_nil) (fun _ _ _ _ _ => (pe_op op_mod (pe_callTy call_int1 (by rfl) B.int (by decide +kernel) (pa_cons (pv 19) pa_nil)) (pv 2)))) pa_nil)))
      (pss_one (ps_expr (pe_bm PySem.F.plainAttrs_list PySem.F.slot_list_append PySem.F.type_list_append mt_append (pv 7) (pa_cons (pe_lc (own := [("_law_cell", 19)]) rfl nd (pi_list (pv 10)) (blkOk_by (own := [("_law_cell", 19)]) (by kernel_rfl)) (fun _ _ _ _ _ => (pg_name (i := 19) nd rfl (Or.inl rfl))) (fun _ _ _ _ _ => pts_nil) (fun _ _ _ _ _ => (pe_cmpR op_lt (pe_op op_fdiv (pv 19) pe_int) (pv 5) (nomark _)))) pa_nil)))))))
      (pss_cons (ps_for PassesOwn.never rfl (pi_range1 (by rfl) B.range (pa_cons (pv 3) pa_nil)) (pg_name (i := 9) nd rfl (Or.inr rfl))
      (pss_cons (ps_set (i := 11) nd rfl (Or.inl rfl) (pe_callB cr_sorted (by rfl) B.sorted (by decide +kernel) (pa_cons (pe_lc (own := [("_law_s", 8)]) rfl nd (pi_range1 (by rfl) B.range (pa_cons (pv 2) pa_nil)) (blkOk_by (own := [("_law_s", 8)]) (by kernel_rfl)) (fun _ _ _ _ _ => (pg_name (i := 8) nd rfl (Or.inl rfl))) (fun _ _ _ _ _ => pts_nil) (fun _ _ _ _ _ => (pe_callTy call_int1 (by rfl) B.int (by decide +kernel) (pa_cons (pe_ix (ix_listK (K := K) rfl) (pe_ix (ix_listK (K := K) rfl) (pv 6) (pv 8) (fun _ _ => rfl)) (pv 9) (fun _ _ => rfl)) pa_nil)))) pa_nil)))
      (pss_cons (ps_set (i := 12) nd rfl (Or.inl rfl) (pe_op op_mod (pe_callTy call_int1 (by rfl) B.int (by decide +kernel) (pa_cons (pe_ix ix_list (pv 0) (pe_op op_add pe_int (pv 9)) (fun _ _ => rfl)) pa_nil)) (pe_op op_add (pv 2) pe_int)))
      (pss_cons (ps_for PassesOwn.never rfl (pi_range1 (by rfl) B.range (pa_cons (pv 2) pa_nil)) (pg_name (i := 8) nd rfl (Or.inr rfl))
      (pss_one (ps_if (PW.pt (pw_and (pt_cmpR op_ne (pv 4) pe_int (nomark _)) (pw_and1 (pt_cmpR op_gt (pe_ix ix_list (pv 11) (pv 8) (fun _ _ => rfl)) (pv 8) (nomark _))))) (pss_one (ps_set (i := 12) nd rfl (Or.inl rfl) (pe_callB (call_min2 rfl) (by rfl) B.min (by decide +kernel) (pa_cons (pe_callTy call_int1 (by rfl) B.int (by decide +kernel) (pa_cons (pv 12) pa_nil)) (pa_cons (pv 8) pa_nil))))) pss_nil)))
      (pss_one (ps_for PassesOwn.never rfl (pi_range1 (by rfl) B.range (pa_cons (pv 2) pa_nil)) (pg_name (i := 8) nd rfl (Or.inr rfl))
      (pss_one (ps_if (pt_cmpR op_gt (pv 4) pe_int (nomark _)) (pss_cons (ps_asg (pe_ix ix_list (pv 11) (pv 8) (fun _ _ => rfl)) (pg_sub (pe_ix ix_list (pv 6) (pv 8) (fun _ _ => rfl)) (pv 9) set_list))
      (pss_one (ps_asg (pe_cmpR op_ge (pv 8) (pv 12) (nomark _)) (pg_sub (pe_ix ix_list (pv 7) (pv 8) (fun _ _ => rfl)) (pv 9) set_list)))) pss_nil))))))))
      (pss_cons (ps_set (i := 8) nd rfl (Or.inr rfl) (pe_op op_mod (pe_callTy call_int1 (by rfl) B.int (by decide +kernel) (pa_cons (pe_ix ix_list (pv 0) pe_int (fun _ _ => rfl)) pa_nil)) (pv 2)))
      (pss_cons (ps_set (i := 9) nd rfl (Or.inr rfl) (pe_op op_mod (pe_callTy call_int1 (by rfl) B.int (by decide +kernel) (pa_cons (pe_ix ix_list (pv 0) pe_int (fun _ _ => rfl)) pa_nil)) (pv 3)))
      (pss_cut (ps_if (PW.pt (pw_and (pt_cmpR op_eq (pv 4) pe_int (nomark _)) (pw_and1 (pt_cmpR op_eq (pe_op op_mod (pe_callTy call_int1 (by rfl) B.int (by decide +kernel) (pa_cons (pe_ix ix_list (pv 0) pe_int (fun _ _ => rfl)) pa_nil)) pe_int) pe_int (nomark _))))) (pss_one (ps_asg (pe_not (pe_ix ix_list (pe_ix ix_list (pv 7) (pv 8) (fun _ _ => rfl)) (pv 9) (fun _ _ => rfl))) (pg_sub (pe_ix ix_list (pv 7) (pv 8) (fun _ _ => rfl)) (pv 9) set_list))) pss_nil)
      (pss_cut (ps_if (PW.pt (pw_and (pt_cmpR op_eq (pv 4) pe_int (nomark _)) (pw_and1 (pt_cmpR op_eq (pe_op op_mod (pe_callTy call_int1 (by rfl) B.int (by decide +kernel) (pa_cons (pe_ix ix_list (pv 0) pe_int (fun _ _ => rfl)) pa_nil)) pe_int) pe_int (nomark _))))) (pss_one (ps_asg (pe_op op_mod (pe_op op_fdiv (pe_callTy call_int1 (by rfl) B.int (by decide +kernel) (pa_cons (pe_ix ix_list (pv 0) pe_int (fun _ _ => rfl)) pa_nil)) pe_int) (pv 2)) (pg_sub (pe_ix ix_list (pv 6) (pv 8) (fun _ _ => rfl)) (pv 9) set_list))) pss_nil)
      (pss_cons (ps_set (i := 13) nd rfl (Or.inr rfl) (pe_listRg rfl (by rfl) B.list (prg_1 (by rfl) B.range (pv 2))))
      (pss_cons (ps_for PassesOwn.never rfl (pi_range1 (by rfl) B.range (pa_cons (pv 2) pa_nil)) (pg_name (i := 8) nd rfl (Or.inr rfl))
      (pss_cons (ps_set (i := 14) nd rfl (Or.inl rfl) (pe_op op_add (pv 8) (pe_op op_mod (pe_callTy call_int1 (by rfl) B.int (by decide +kernel) (pa_cons (pe_ix ix_list (pv 0) (pe_op op_add pe_int (pv 8)) (fun _ _ => rfl)) pa_nil)) (pe_op op_sub (pv 2) (pv 8)))))
      (pss_cons (ps_set (i := 15) nd rfl (Or.inl rfl) (pe_ix ix_list (pv 13) (pv 8) (fun _ _ => rfl)))
      (pss_cons (ps_asg (pe_ix ix_list (pv 13) (pv 14) (fun _ _ => rfl)) (pg_sub (pv 13) (pv 8) set_list))
      (pss_one (ps_asg (pv 15) (pg_sub (pv 13) (pv 14) set_list)))))))
      (pss_cons (ps_set (i := 16) nd rfl (Or.inr rfl) (pe_lc (own := [("_law_s", 8)]) rfl nd (pi_range1 (by rfl) B.range (pa_cons (pv 2) pa_nil)) (blkOk_by (own := [("_law_s", 8)]) (by kernel_rfl)) (fun _ _ _ _ _ => (pg_name (i := 8) nd rfl (Or.inl rfl))) (fun _ _ _ _ _ => pts_nil) (fun _ _ _ _ _ => (pe_bmK (K := K) rfl PySem.F.plainAttrs_list PySem.F.slot_list_index PySem.F.type_list_index (mt_indexK (K := K) rfl) (pv 13) (pa_cons (pv 8) pa_nil)))))
      (pss_cons (ps_setLc (i := 17) (own := [("_law_s", 8)]) rfl nd rfl rfl (sw_true rfl rfl rfl (by decide +kernel)) (pi_range1 (by rfl) B.range (pa_cons (pv 2) pa_nil)) (blkOk_by (own := [("_law_s", 8)]) (by kernel_rfl)) (fun _ _ _ _ _ => (pg_name (i := 8) nd rfl (Or.inl rfl))) (fun _ _ _ _ _ => pts_nil) (fun _ _ _ _ _ => (pe_lc (own := [("_law_t", 14)]) rfl nd (pi_listK (K := K) rfl (pe_ix (ix_listK (K := K) rfl) (pv 6) (pe_ix (ix_listK (K := K) rfl) (pv 16) (pv 8) (fun _ _ => rfl)) (fun _ _ => rfl))) (blkOk_by (own := [("_law_t", 14)]) (by kernel_rfl)) (fun _ _ _ _ _ => (pg_name (i := 14) nd rfl (Or.inl rfl))) (fun _ _ _ _ _ => pts_nil) (fun _ _ _ _ _ => (pe_ix (ix_listK (K := K) rfl) (pv 13) (pv 14) (fun _ _ => rfl))))))
      (pss_cons (ps_setLc (i := 18) (own := [("_law_s", 8)]) rfl nd rfl rfl (sw_true rfl rfl rfl (by decide +kernel)) (pi_range1 (by rfl) B.range (pa_cons (pv 2) pa_nil)) (blkOk_by (own := [("_law_s", 8)]) (by kernel_rfl)) (fun _ _ _ _ _ => (pg_name (i := 8) nd rfl (Or.inl rfl))) (fun _ _ _ _ _ => pts_nil) (fun _ _ _ _ _ => (pe_callTy (list_ofK (K := K) rfl) (by rfl) B.list (by decide +kernel) (pa_cons (pe_ix (ix_listK (K := K) rfl) (pv 7) (pe_ix (ix_listK (K := K) rfl) (pv 16) (pv 8) (fun _ _ => rfl)) (fun _ _ => rfl)) pa_nil))))
      (pss_one (ps_ret (pe_lst (pa_cons (pe_slice sl_str pe_str po_none (po_some (pv 3))) (pa_cons (pv 17) (pa_cons (pv 18) (pa_cons (pe_ix ix_list (pv 13) (pe_op op_mod (pe_callTy call_int1 (by rfl) B.int (by decide +kernel) (pa_cons (pe_ix ix_list (pv 0) pe_int (fun _ _ => rfl)) pa_nil)) (pv 2)) (fun _ _ => rfl)) pa_nil)))))))))))))))))))))))), ?_⟩
    have rw_ : ∀ (H1 : Hp) (e : Ex H H1) (i : Nat), i < 51 → RV (rIxL K) (.ref a) (.int (i : Nat)) H1 (.int (v i)) := fun H1 e i hi => rv_ixL (ex_l e hS) (atI_nat (tab_at (by omega) _))
    -- size
    obtain ⟨z, hz, z4, z8⟩ : ∃ z : Int, atI [V.int 4, .int 5, .int 6, .int 8] (v 0 / 840 % 4) = some (.int z) ∧ 4 ≤ z ∧ z ≤ 8 := by
      have hk : 0 ≤ v 0 / 840 % 4 ∧ v 0 / 840 % 4 < 4 := by omega
      generalize v 0 / 840 % 4 = k at hk
      obtain rfl | rfl | rfl | rfl : k = 0 ∨ k = 1 ∨ k = 2 ∨ k = 3 := by omega
      all_goals exact ⟨_, rfl, by decide, by decide⟩
    have hm : 1 ≤ (if z < (t : Int) then z else (t : Int)) ∧ (if z < (t : Int) then z else (t : Int)) ≤ t := by split <;> omega
    obtain ⟨S, hSz, s1, s8, st⟩ : ∃ S : Nat, 1 + v 0 % (if z < (t : Int) then z else (t : Int)) = (S : Int) ∧ 1 ≤ S ∧ S ≤ 8 ∧ S ≤ t := by
      generalize (if z < (t : Int) then z else (t : Int)) = M at hm
      have h1 := Int.emod_nonneg (v 0) (show M ≠ 0 by omega)
      have h2 := Int.emod_lt_of_pos (v 0) (show 0 < M by omega)
      exact ⟨(1 + v 0 % M).toNat, by omega, by omega, by omega, by omega⟩
    refine q_asg (v := .int (S : Nat)) (ev_is (ev_op ev_c (ev_op (ev_int1 (ev_op (ev_var rfl) ev_c (rw_ _ (Ex.refl _) 0 (by omega)))) (ev_min2 (ev_int1 (ev_var rfl)) (ev_opL1 (el_lst (ea_cons ev_c (ea_cons ev_c (ea_cons ev_c (ea_cons ev_c ea_nil)))) (Nat.le_of_ble_eq_true rfl))
      (fun H1 e1 => ev_op (ev_op (ev_int1 (ev_op (ev_var rfl) ev_c (rw_ _ e1 0 (by omega)))) ev_c (rv_I ⟨by decide, by decide⟩)) ev_c (rv_I (by decide))) (fun p H1 hp e1 => rv_ixL (sq_of hp) hz))) (rv_I (by omega))) rv_0) (congrArg V.int hSz)) fun H1 e1 => ?_
    -- many
    obtain ⟨G, hG, g1, g4⟩ : ∃ G : Nat, 1 + v 1 % 4 = (G : Int) ∧ 1 ≤ G ∧ G ≤ 4 := ⟨(1 + v 1 % 4).toNat, by omega, by omega, by omega⟩
    refine q_asg (v := .int (G : Nat)) (ev_is (ev_op ev_c (ev_op (ev_int1 (ev_op (ev_var rfl) ev_c (rw_ _ e1 1 (by omega)))) ev_c (rv_I (by decide))) rv_0) (congrArg V.int hG)) fun H2 e2 => ?_
    have e02 := e1.trans e2
    refine q_asg (ev_op (ev_int1 (ev_op (ev_var rfl) ev_c (rw_ _ e02 2 (by omega)))) ev_c (rv_I (by decide))) fun H3 e3 => ?_
    have e03 := e02.trans e3
    refine q_asg (ev_op (ev_op (ev_int1 (ev_op (ev_var rfl) ev_c (rw_ _ e03 2 (by omega)))) ev_c (rv_I ⟨by decide, by decide⟩)) ev_c (rv_I (by decide))) fun H4 e4 => ?_
    have e04 := e03.trans e4
    generalize v 2 / 4 % 7 = share
    generalize v 2 % 4 = mode
    refine q_asgL (el_lst ea_nil (by decide)) fun pT H5 nT e5 h5 => ?_
    refine q_asgL (el_lst ea_nil (by decide)) fun pM H6 nM e6 h6 => ?_
    have e06 := (e04.trans e5).trans e6
    have pne : pT ≠ pM := fun z => by
      rw [← z, h5] at nM
      cases nM
    -- the rows
    refine q_forR1 (n := (S : Int)) (ea_cons (ev_var rfl) ea_nil) ⟨by omega, by omega⟩
      (fun i σ' H' => ∃ (u8 u10 : Option V) (rT rM : Nat → Addr) (tg : Nat → Nat → Nat) (mk : Nat → Nat → Bool), σ' = [some (.ref a), some (.int (t : Nat)), some (.int (S : Nat)), some (.int (G : Nat)), some (.int mode), some (.int share), some (.ref pT), some (.ref pM), u8, none, u10, none, none, none, none, none, none, none, none, none] ∧
        Two H H' pT pM rT rM i G tg mk ∧ ∀ s c, tg s c < S)
      (fun H7 e7 => ⟨none, none, fun _ => 0, fun _ => 0, fun _ _ => 0, fun _ _ => false, rfl, Two.empty (e06.trans e7) (e7 _ _ (e6 _ _ h5)) (e7 _ _ h6) (fresh_back e04 nT) (fresh_back (e04.trans e5) nM) pne _ _ _, fun _ _ => (by show 0 < S; omega)⟩) ?_ ?_
    · rintro i σ' H' hi ⟨u8, u10, rT, rM, tg, mk, rfl, Z, hb⟩
      have hi' : i < S := by omega
      let cl : Nat → Int := fun c => v (4 + 4 * i + c)
      refine q_asgL (xs := tab G fun c => .int (cl c)) (ev_lis (el_lcR1 (n := (G : Int)) (fun _ => true) (fun c => .int (cl c)) (ea_cons (ev_var rfl) ea_nil) ⟨by omega, by omega⟩ (fun _ => rfl) (fun _ _ _ _ => et_yes) (fun c H2 e2 hc _ =>
        ev_int1 (ev_op (ev_var rfl) (ev_is (ev_op (ev_op ev_c (ev_op ev_c (ev_var rfl) (rv_I (.inl ⟨by decide, by decide⟩))) rv_0) (ev_var rfl) rv_0) (w := .int ((4 + 4 * i + c : Nat) : Int)) (congrArg V.int (by push_cast; rfl))) (rw_ _ (Z.ex.trans e2) (4 + 4 * i + c) (by omega))))) (by rw [Int.toNat_natCast, tab_given])) fun pc H7 nc e7 h7 => ?_
      have bnd : ∀ c, 0 ≤ cl c % (S : Int) ∧ cl c % (S : Int) < S := fun c => ⟨Int.emod_nonneg _ (by omega), Int.emod_lt_of_pos _ (by omega)⟩
      have Z7 := Z.more e7
      refine q_appL (ys := tab G fun c => .int ((cl c % (S : Int)).toNat : Nat)) Z7.T (ev_var rfl) (ev_lis (el_lcL (fun _ => true) (fun c => .int ((cl c % (S : Int)).toNat : Nat)) (ev_var rfl) (sq_of h7) (by rw [tab_len]; omega) (fun _ => rfl) (fun _ _ _ _ _ => et_yes) (fun c x H2 e2 hx _ => by
        obtain ⟨hc, rfl⟩ := tab_some hx
        exact ev_is (ev_op (ev_int1 (ev_var rfl)) (ev_var rfl) (rv_I (by omega))) (congrArg V.int (Int.toNat_of_nonneg (bnd c).1).symm))) (by rw [tab_given, tab_len])) (by rw [tab_len]; omega) fun qT H8 nqT e8 h8 => ?_
      have hM9 : upd H8 pT (.lst (tab i (fun j => V.ref (rT j)) ++ [.ref qT])) pM = some (.lst (tab i fun j => .ref (rM j))) := by
        rw [upd_ne pne.symm]
        exact e8 _ _ Z7.M
      have hc9 : upd H8 pT (.lst (tab i (fun j => V.ref (rT j)) ++ [.ref qT])) pc = some (.lst (tab G fun c => .int (cl c))) := by
        rw [upd_ne (fun z => by rw [z, Z.T] at nc; cases nc)]
        exact e8 _ _ h7
      refine s_appL (ys := tab G fun c => .bl (decide (cl c / 840 < share))) hM9 (ev_var rfl) (ev_lis (el_lcL (fun _ => true) (fun c => .bl (decide (cl c / 840 < share))) (ev_var rfl) (sq_of hc9) (by rw [tab_len]; omega) (fun _ => rfl) (fun _ _ _ _ _ => et_yes) (fun c x H2 e2 hx _ => by
        obtain ⟨hc, rfl⟩ := tab_some hx
        exact ev_op (ev_op (ev_var rfl) ev_c (rv_I ⟨by decide, by decide⟩)) (ev_var rfl) rv_0)) (by rw [tab_given, tab_len])) (by rw [tab_len]; omega) fun qM H10 nqM e10 h10 => ?_
      exact ⟨_, _, _, _, _, _, rfl, Z7.grow g1 nqT e8 h8 nqM e10 h10, fun s c => by
        by_cases e : s = i
        · simp only [if_pos e]
          have := bnd c
          omega
        · simp only [if_neg e]
          exact hb s c⟩
    · rintro σ' H' ⟨u8, u10, rT, rM, tg, mk, rfl, Z, hb⟩
      rw [Int.toNat_natCast] at Z
      -- the columns
      refine q_forR1 (n := (G : Int)) (ea_cons (ev_var rfl) ea_nil) ⟨by omega, by omega⟩
        (fun j σ' H' => ∃ (u8 u9 u11 u12 : Option V) (tg : Nat → Nat → Nat) (mk : Nat → Nat → Bool), σ' = [some (.ref a), some (.int (t : Nat)), some (.int (S : Nat)), some (.int (G : Nat)), some (.int mode), some (.int share), some (.ref pT), some (.ref pM), u8, u9, u10, u11, u12, none, none, none, none, none, none, none] ∧ Two H H' pT pM rT rM S G tg mk ∧ ∀ s c, tg s c < S)
        (fun H7 e7 => ⟨u8, none, none, none, tg, mk, rfl, Z.more e7, hb⟩) ?_ ?_
      · rintro j σ' H' hj ⟨u8, u9, u11, u12, tg, mk, rfl, Z, hb⟩
        have hj' : j < G := by omega
        refine q_sorted (ns := tab S fun s => (tg s j : Int)) (xs := tab S fun s => .int (tg s j : Nat)) (ev_lis (el_lcR1 (n := (S : Int)) (fun _ => true) (fun s => .int (tg s j : Nat)) (ea_cons (ev_var rfl) ea_nil) ⟨by omega, by omega⟩ (fun _ => rfl) (fun _ _ _ _ => et_yes) (fun s H2 e2 hs _ =>
          ev_int1 (ev_op (ev_op (ev_var rfl) (ev_var rfl) (rv_ixL (sq_of (e2 _ _ Z.T)) (atI_nat (tab_at (show s < S by omega) _)))) (ev_var rfl) (rv_ixL (sq_of (e2 _ _ (Z.tr s (by omega)))) (atI_nat (tab_at hj' _)))))) (by rw [Int.toNat_natCast, tab_given])) (by rw [tab_map]) (by rw [tab_len]; omega) fun ns' pc H7 hp nc e7 h7 => ?_
        obtain ⟨cv, hcv, hcol⟩ := perm_col s1 (fun i => hb i j) hp
        rw [hcol] at h7
        have Z7 := Z.more e7
        refine q_asg (ev_op (ev_int1 (ev_op (ev_var rfl) (ev_is (ev_op ev_c (ev_var rfl) rv_0) (w := .int ((36 + j : Nat) : Int)) (congrArg V.int (by push_cast; rfl))) (rw_ _ Z7.ex (36 + j) (by omega)))) (ev_op (ev_var rfl) ev_c rv_0) (rv_I (by omega))) fun H8 e8 => ?_
        generalize v (36 + j) % ((S : Int) + 1) = bar
        have Z8 := Z7.more e8
        refine q_forR1 (n := (S : Int)) (ea_cons (ev_var rfl) ea_nil) ⟨by omega, by omega⟩
          (fun i σ' H' => ∃ (u8 : Option V) (bar : Int), σ' = [some (.ref a), some (.int (t : Nat)), some (.int (S : Nat)), some (.int (G : Nat)), some (.int mode), some (.int share), some (.ref pT), some (.ref pM), u8, some (.int (j : Nat)), u10, some (.ref pc), some (.int bar), none, none, none, none, none, none, none] ∧ Ex H8 H') (fun H9 e9 => ⟨u8, bar, rfl, e9⟩) ?_ ?_
        · rintro i σ' H9 hi ⟨u8, bar, rfl, e9⟩
          refine s_when (et_and (et_test (ev_op (ev_var rfl) ev_c (rv_ne rfl))) (fun _ => et_test (ev_op (ev_op (ev_var rfl) (ev_var rfl) (rv_ixL (sq_of (e9 _ _ (e8 _ _ h7))) (atI_nat (tab_at (show i < S by omega) _)))) (ev_var rfl) rv_0))) (fun _ H10 e10 => ?_) (fun _ H10 e10 => ⟨_, _, rfl, e9.trans e10⟩)
          exact s_asg (ev_min2 (ev_int1 (ev_var rfl)) (ev_var rfl)) fun H11 e11 => ⟨_, _, rfl, (e9.trans e10).trans e11⟩
        · rintro σ' H9 ⟨u8, bar, rfl, e9⟩
          have Z9 := Z8.more e9
          have h9 := e9 _ _ (e8 _ _ h7)
          have pcT : ∀ s, s < S → pc ≠ rT s := fun s hs e => by
            have h := Z.tr s hs
            rw [← e, nc] at h
            cases h
          have pcM : ∀ s, s < S → pc ≠ rM s := fun s hs e => by
            have h := Z.mr s hs
            rw [← e, nc] at h
            cases h
          refine s_forR1 (n := (S : Int)) (ea_cons (ev_var rfl) ea_nil) ⟨by omega, by omega⟩
            (fun i σ' H' => ∃ (u8 : Option V) (tg : Nat → Nat → Nat) (mk : Nat → Nat → Bool), σ' = [some (.ref a), some (.int (t : Nat)), some (.int (S : Nat)), some (.int (G : Nat)), some (.int mode), some (.int share), some (.ref pT), some (.ref pM), u8, some (.int (j : Nat)), u10, some (.ref pc), some (.int bar), none, none, none, none, none, none, none] ∧ Two H H' pT pM rT rM S G tg mk ∧ (∀ s c, tg s c < S) ∧ H' pc = some (.lst (tab S fun s => .int (cv s : Nat))))
            (fun H10 e10 => ⟨u8, tg, mk, rfl, Z9.more e10, hb, e10 _ _ h9⟩) ?_ ?_
          · rintro i σ' H10 hi ⟨u8, tg, mk, rfl, Z, hb, hpc⟩
            have hi' : i < S := by omega
            refine s_when (et_test (ev_op (ev_var rfl) ev_c rv_0)) (fun _ H11 e11 => ?_) (fun _ H11 e11 => ⟨_, tg, mk, rfl, Z.more e11, hb, e11 _ _ hpc⟩)
            have Z11 := Z.more e11
            refine q_setL (Z11.tr i hi') (ev_op (ev_var rfl) (ev_var rfl) (rv_ixL (sq_of (e11 _ _ hpc)) (atI_nat (tab_at hi' _)))) (ev_op (ev_var rfl) (ev_var rfl) (rv_ixL (sq_of Z11.T) (atI_nat (tab_at hi' _)))) (ev_var rfl) (by rw [tab_len]; exact hj') fun H12 e12 => ?_
            have Z12 := (Z11.more e12).setT (j := j) g1 hi' (cv i)
            refine s_setL (Z12.mr i hi') (ev_op (ev_var rfl) (ev_var rfl) rv_0) (ev_op (ev_var rfl) (ev_var rfl) (rv_ixL (sq_of Z12.M) (atI_nat (tab_at hi' _)))) (ev_var rfl) (by rw [tab_len]; exact hj') fun H13 e13 => ?_
            refine ⟨_, _, _, rfl, (Z12.more e13).setM g1 hi' _, fun s c => ?_, ?_⟩
            · show (if s = i ∧ c = j then cv i else tg s c) < S
              split
              · exact hcv i
              · exact hb s c
            · rw [upd_ne (pcM i hi')]
              refine e13 _ _ ?_
              rw [upd_ne (pcT i hi')]
              exact e12 _ _ (e11 _ _ hpc)
          · rintro σ' H10 ⟨u8, tg, mk, rfl, Z, hb, hpc⟩
            exact ⟨_, _, _, _, tg, mk, rfl, Z, hb⟩
      · rintro σ' H' ⟨u8, u9, u11, u12, tg, mk, rfl, Z, hb⟩
        -- one change
        have pS : (0 : Int) < S := by omega
        have pG : (0 : Int) < G := by omega
        obtain ⟨s0, hs0, hs0'⟩ : ∃ s0 : Nat, v 48 % (S : Int) = (s0 : Int) ∧ s0 < S := ⟨(v 48 % (S : Int)).toNat, (Int.toNat_of_nonneg (Int.emod_nonneg _ (by omega))).symm, by have := Int.emod_lt_of_pos (v 48) pS; omega⟩
        obtain ⟨c0, hc0, hc0'⟩ : ∃ c0 : Nat, v 49 % (G : Int) = (c0 : Int) ∧ c0 < G := ⟨(v 49 % (G : Int)).toNat, (Int.toNat_of_nonneg (Int.emod_nonneg _ (by omega))).symm, by have := Int.emod_lt_of_pos (v 49) pG; omega⟩
        obtain ⟨r0, hr0, hr0'⟩ : ∃ r0 : Nat, v 3 % (S : Int) = (r0 : Int) ∧ r0 < S := ⟨(v 3 % (S : Int)).toNat, (Int.toNat_of_nonneg (Int.emod_nonneg _ (by omega))).symm, by have := Int.emod_lt_of_pos (v 3) pS; omega⟩
        refine q_asg (v := .int (s0 : Nat)) (ev_is (ev_op (ev_int1 (ev_op (ev_var rfl) ev_c (rw_ _ Z.ex 48 (by omega)))) (ev_var rfl) (rv_I pS)) (congrArg V.int hs0)) fun H7 e7 => ?_
        have Z7 := Z.more e7
        refine q_asg (v := .int (c0 : Nat)) (ev_is (ev_op (ev_int1 (ev_op (ev_var rfl) ev_c (rw_ _ Z7.ex 49 (by omega)))) (ev_var rfl) (rv_I pG)) (congrArg V.int hc0)) fun H8 e8 => ?_
        have Z8 := Z7.more e8
        refine q_cut (M := fun σ' H' => σ' = [some (.ref a), some (.int (t : Nat)), some (.int (S : Nat)), some (.int (G : Nat)), some (.int mode), some (.int share), some (.ref pT), some (.ref pM), some (.int (s0 : Nat)), some (.int (c0 : Nat)), u10, u11, u12, none, none, none, none, none, none, none] ∧ ∃ (tg : Nat → Nat → Nat) (mk : Nat → Nat → Bool), Two H H' pT pM rT rM S G tg mk ∧ ∀ s c, tg s c < S) ?_ ?_
        · refine s_when (et_and (et_test (ev_op (ev_var rfl) ev_c (rv_eq rfl))) (fun _ => et_test (ev_op (ev_op (ev_int1 (ev_op (ev_var rfl) ev_c (rw_ _ Z8.ex 50 (by omega)))) ev_c (rv_I (by decide))) ev_c (rv_eq rfl)))) (fun _ H9 e9 => ?_) (fun _ H9 e9 => ⟨rfl, tg, mk, Z8.more e9, hb⟩)
          have Z9 := Z8.more e9
          have evM := ev_op (σ := [some (.ref a), some (.int (t : Nat)), some (.int (S : Nat)), some (.int (G : Nat)), some (.int mode), some (.int share), some (.ref pT), some (.ref pM), some (.int (s0 : Nat)), some (.int (c0 : Nat)), u10, u11, u12, none, none, none, none, none, none, none]) (ev_var (i := 7) rfl) (ev_var (i := 8) rfl) (rv_ixL (K := K) (sq_of Z9.M) (atI_nat (tab_at hs0' _)))
          exact s_setL (Z9.mr s0 hs0') (ev_notV (ev_op evM (ev_var rfl) (rv_ixL (sq_of (Z9.mr s0 hs0')) (atI_nat (tab_at hc0' _))))) evM (ev_var rfl) (by rw [tab_len]; exact hc0') fun H10 e10 => ⟨rfl, tg, _, (Z9.more e10).setM g1 hs0' _, hb⟩
        rintro σ' H9 ⟨rfl, tg, mk, Z9, hb⟩
        refine q_cut (M := fun σ' H' => σ' = [some (.ref a), some (.int (t : Nat)), some (.int (S : Nat)), some (.int (G : Nat)), some (.int mode), some (.int share), some (.ref pT), some (.ref pM), some (.int (s0 : Nat)), some (.int (c0 : Nat)), u10, u11, u12, none, none, none, none, none, none, none] ∧ ∃ (tg : Nat → Nat → Nat) (mk : Nat → Nat → Bool), Two H H' pT pM rT rM S G tg mk ∧ ∀ s c, tg s c < S) ?_ ?_
        · refine s_when (et_and (et_test (ev_op (ev_var rfl) ev_c (rv_eq rfl))) (fun _ => et_test (ev_op (ev_op (ev_int1 (ev_op (ev_var rfl) ev_c (rw_ _ Z9.ex 50 (by omega)))) ev_c (rv_I (by decide))) ev_c (rv_eq rfl)))) (fun _ H10 e10 => ?_) (fun _ H10 e10 => ⟨rfl, tg, mk, Z9.more e10, hb⟩)
          have Z10 := Z9.more e10
          obtain ⟨d0, hd0, hd0'⟩ : ∃ d0 : Nat, v 50 / 2 % (S : Int) = (d0 : Int) ∧ d0 < S := ⟨(v 50 / 2 % (S : Int)).toNat, (Int.toNat_of_nonneg (Int.emod_nonneg _ (by omega))).symm, by have := Int.emod_lt_of_pos (v 50 / 2) pS; omega⟩
          refine s_setL (Z10.tr s0 hs0') (v := .int (d0 : Nat)) (ev_is (ev_op (ev_op (ev_int1 (ev_op (ev_var rfl) ev_c (rw_ _ Z10.ex 50 (by omega)))) ev_c (rv_I ⟨by decide, by decide⟩)) (ev_var rfl) (rv_I pS)) (congrArg V.int hd0)) (ev_op (ev_var rfl) (ev_var rfl) (rv_ixL (sq_of Z10.T) (atI_nat (tab_at hs0' _)))) (ev_var rfl) (by rw [tab_len]; exact hc0') fun H11 e11 => ⟨rfl, _, mk, (Z10.more e11).setT g1 hs0' d0, fun s c => ?_⟩
          show (if s = s0 ∧ c = c0 then d0 else tg s c) < S
          split
          · exact hd0'
          · exact hb s c
        rintro σ' H10 ⟨rfl, tg, mk, Z10, hb⟩
        -- the names
        refine q_asgL (el_listRg (ev_var rfl) (by omega)) fun pn H11 nn e11 h11 => ?_
        refine q_forR1 (n := (S : Int)) (ea_cons (ev_var rfl) ea_nil) ⟨by omega, by omega⟩
          (fun i σ' H' => ∃ (u8 u14 u15 : Option V) (nm iv : Nat → Nat), σ' = [some (.ref a), some (.int (t : Nat)), some (.int (S : Nat)), some (.int (G : Nat)), some (.int mode), some (.int share), some (.ref pT), some (.ref pM), u8, some (.int (c0 : Nat)), u10, u11, u12, some (.ref pn), u14, u15, none, none, none, none] ∧ Ex H10 H' ∧ H' pn = some (.lst (tab S fun j => .int (nm j : Nat))) ∧ Ren S nm iv)
          (fun H12 e12 => ⟨_, none, none, _, _, rfl, e11.trans e12, ?_, Ren.start s1⟩) ?_ ?_
        · rw [e12 _ _ h11]
          refine congrArg (fun l => some (HO.lst l)) (tab_congr fun j hj => ?_)
          rw [if_pos hj]
        · rintro i σ' H12 hi ⟨u8, u14, u15, nm, iv, rfl, e12, hpn, R⟩
          have hi' : i < S := by omega
          obtain ⟨t0, ht0, ht0'⟩ : ∃ t0 : Nat, (i : Int) + v (40 + i) % ((S : Int) - i) = (t0 : Int) ∧ t0 < S := by
            have h1 := Int.emod_nonneg (v (40 + i)) (show (S : Int) - i ≠ 0 by omega)
            have h2 := Int.emod_lt_of_pos (v (40 + i)) (show 0 < (S : Int) - i by omega)
            exact ⟨((i : Int) + v (40 + i) % ((S : Int) - i)).toNat, by omega, by omega⟩
          have eH := Z10.ex.trans e12
          refine q_asg (v := .int (t0 : Nat)) (ev_is (ev_op (ev_var rfl) (ev_op (ev_int1 (ev_op (ev_var rfl) (ev_is (ev_op ev_c (ev_var rfl) rv_0) (w := .int ((40 + i : Nat) : Int)) (congrArg V.int (by push_cast; rfl))) (rw_ _ eH (40 + i) (by omega)))) (ev_op (ev_var rfl) (ev_var rfl) rv_0) (rv_I (by omega))) rv_0) (congrArg V.int ht0)) fun H13 e13 => ?_
          have h13 := e13 _ _ hpn
          refine q_asg (ev_op (ev_var rfl) (ev_var rfl) (rv_ixL (sq_of h13) (atI_nat (tab_at hi' _)))) fun H14 e14 => ?_
          have h14 := e14 _ _ h13
          refine q_setL h14 (ev_op (ev_var rfl) (ev_var rfl) (rv_ixL (sq_of h14) (atI_nat (tab_at ht0' _)))) (ev_var rfl) (ev_var rfl) (by rw [tab_len]; exact hi') fun H15 e15 => ?_
          refine s_setL upd_same (ev_var rfl) (ev_var rfl) (ev_var rfl) (by rw [List.length_set, tab_len]; exact ht0') fun H16 e16 => ?_
          refine ⟨_, _, _, _, _, rfl, Ex.mut ((Ex.mut (((e12.trans e13).trans e14).trans e15) nn).trans e16) nn, ?_, R.swap hi' ht0'⟩
          rw [upd_same, tab_setI, tab_setI]
        · rintro σ' H12 ⟨u8, u14, u15, nm, iv, rfl, e12, hpn, R⟩
          have Z12 := Z10.more e12
          refine q_asgL (xs := tab S fun s => .int (iv s : Nat)) (ev_lis (el_lcR1 (n := (S : Int)) (fun _ => true) (fun s => .int (iv s : Nat)) (ea_cons (ev_var rfl) ea_nil) ⟨by omega, by omega⟩ (fun _ => rfl) (fun _ _ _ _ => et_yes) (fun s H2 e2 hs _ =>
            ev_index (ev_var rfl) (sq_of (e2 _ _ hpn)) (ev_var rfl) rfl tab_flatI (tab_at (R.ib s) _) (by
              show ((nm (iv s) : Int) == (s : Int)) = true
              rw [R.r s (by omega)]
              exact beq_self_eq_true _) (fun m z' hm hz' => by
              obtain ⟨hmS, rfl⟩ := tab_some hz'
              show ((nm m : Int) == (s : Int)) = false
              refine beq_eq_false_iff_ne.mpr fun e => ?_
              have e' : nm m = s := by omega
              have := R.l m hmS
              rw [e'] at this
              omega))) (by rw [Int.toNat_natCast, tab_given])) fun pp H13 npp e13 h13 => ?_
          have Z13 := Z12.more e13
          have hpn13 := e13 _ _ hpn
          refine q_asgQ (ro_lcR1 (n := S) (fun s => tab G fun c => .int (nm (tg (iv s) c) : Nat)) (ea_cons (ev_var rfl) ea_nil) (by omega) (fun _ => rfl) (fun s H2 e2 hs => ev_lis (el_lcL (fun _ => true) (fun c => .int (nm (tg (iv s) c) : Nat))
            (ev_op (ev_var rfl) (ev_op (ev_var rfl) (ev_var rfl) (rv_ixL (sq_of (e2 _ _ h13)) (atI_nat (tab_at hs _)))) (rv_ixL (sq_of (e2 _ _ Z13.T)) (atI_nat (tab_at (R.ib s) _)))) (sq_of (e2 _ _ (Z13.tr _ (R.ib s)))) (by rw [tab_len]; omega) (fun _ => rfl) (fun _ _ _ _ _ => et_yes) (fun c x H3 e3 hx _ => by
              obtain ⟨hc, rfl⟩ := tab_some hx
              exact ev_op (ev_var rfl) (ev_var rfl) (rv_ixL (sq_of (e3 _ _ (e2 _ _ hpn13))) (atI_nat (tab_at (hb _ _) _))))) (by rw [tab_given, tab_len])) fun pA H14 rA RA => ?_)
          have Z14 := Z13.more RA.ex
          have h14 := RA.ex _ _ h13
          refine q_asgQ (ro_lcR1 (n := S) (fun s => tab G fun c => .bl (mk (iv s) c)) (ea_cons (ev_var rfl) ea_nil) (by omega) (fun _ => rfl) (fun s H2 e2 hs => el_list
            (ev_op (ev_var rfl) (ev_op (ev_var rfl) (ev_var rfl) (rv_ixL (sq_of (e2 _ _ h14)) (atI_nat (tab_at hs _)))) (rv_ixL (sq_of (e2 _ _ Z14.M)) (atI_nat (tab_at (R.ib s) _)))) (sq_of (e2 _ _ (Z14.mr _ (R.ib s))))) fun pB H15 rB RB => ?_)
          have eH := Z14.ex.trans RB.ex
          have hpn15 := RB.ex _ _ (RA.ex _ _ hpn13)
          refine s_retL (el_lst (ea_cons (ev_is (ev_slS ev_c eo_none (eo_some (ev_var rfl)) (by decide)) (congrArg V.str (cut_abcd G g1 g4))) (ea_cons (ev_var rfl) (ea_cons (ev_var rfl) (ea_cons (ev_op (ev_var rfl) (ev_is (ev_op (ev_int1 (ev_op (ev_var rfl) ev_c (rw_ _ eH 3 (by omega)))) (ev_var rfl) (rv_I pS)) (congrArg V.int hr0)) (rv_ixL (sq_of hpn15) (atI_nat (tab_at hr0' _)))) ea_nil)))) (Nat.le_of_ble_eq_true rfl)) fun p H16 np e16 h16 => ?_
          refine q ⟨G, S, fun s c => nm (tg (iv s) c), fun s c => mk (iv s) c, nm r0⟩ ⟨g1, g4, s1, s8, R.b _, fun _ _ => R.b _⟩ st p H16 (fresh_back eH np) (eH.trans e16) ⟨pA, pB, rA, rB, ⟨h16, e16 _ _ (RB.ex _ _ RA.top), e16 _ _ RB.top, fun s hs => e16 _ _ (RB.ex _ _ (RA.at_ s hs)), fun s hs => e16 _ _ (RB.at_ s hs)⟩⟩
end
end Nt

namespace Nt
open PySem PySem.Spec PyProof.Rows L2 Evl TL
section
variable {P : Program} {w : World} {K : PySem.W.Frag} {mg : Str → Option Value} {base : Heap} {C tS : Addr} {mc : Value}
abbrev sShape : Stmt := top 19
theorem scShape : FnScope ["letters","targets","start","size","row","target"] ["letters","targets","start"] (defScope sShape) := ⟨rfl, rfl, rfl, by decide +kernel, rfl, by decide +kernel, by decide +kernel⟩
theorem ok_shape {f : Addr} {fd : FuncData} (F : FnP K "_refuse_shape" sShape f fd) (B : Bi mg) (T : WF K mg C tS mc) : FnOk P w K mg base CX0 1 f fd ["letters","targets","start"] spShape := by
  refine FunD.ok0 F scShape (fun vs H Q E h => ?_) (fun cdv A outer s H vs Q E hr h => ?_)
  · obtain ⟨a, m, r, rfl, _⟩ := h
    rfl
  · obtain ⟨a, m, r, rfl, o, R, q⟩ := h
    have nd := scShape.nd
    refine ⟨_, (pss_cons (ps_if (pt_cmpR op_notIn_seq (pv 0) (pe_glob (v := .ref tS) (by rfl) T.gS rfl) (by rfl)) (pss_one ps_never) pss_nil)
      (pss_cons (ps_set (i := 3) nd rfl (Or.inl rfl) (pe_callB call_len_seq (by rfl) B.len (by decide +kernel) (pa_cons (pv 1) pa_nil)))
      (pss_cons (ps_if (pt_not (pt_chain op_le op_le pe_int (pv 3) (ClX.pe_cval (pe_glob (v := .ref C) (by rfl) T.mgC rfl)))) (pss_one ps_never) pss_nil)
      (pss_cons (ps_if (pt_not (pt_chain op_le op_lt pe_int (pv 2) (pv 3))) (pss_one ps_never) pss_nil)
      (pss_one (ps_for PassesOwn.never rfl (pi_list (pv 1)) (pg_name (i := 4) nd rfl (Or.inl rfl))
      (pss_cons (ps_if (pt_cmpR op_ne (pe_callB call_len_seq (by rfl) B.len (by decide +kernel) (pa_cons (pv 4) pa_nil)) (pe_callB call_len_str (by rfl) B.len (by decide +kernel) (pa_cons (pv 0) pa_nil)) (nomark _)) (pss_one ps_never) pss_nil)
      (pss_one (ps_for PassesOwn.never rfl (pi_list (pv 4)) (pg_name (i := 5) nd rfl (Or.inl rfl))
      (pss_one (ps_if (pt_not (pt_chain op_le op_lt pe_int (pv 5) (pv 3))) (pss_one ps_never) pss_nil))))))))))), ?_⟩
    have s1 := o.s1
    have s8 := o.s8
    have st := o.st
    have m4 := o.m4
    refine q_when (b := false) (et_test (ev_is (ev_op (ev_var rfl) ev_c (rv_niT (T.sets H) rfl (by decide +kernel))) (by rw [sets_in _ o.m1 o.m4]; rfl))) (fun hb => by cases hb) (fun _ H1 e1 => ?_)
    refine q_asg (ev_is (ev_len (ev_var rfl) (sq_of (e1 _ _ R.top))) (w := .int (m.size : Int)) (by rw [tab_len])) fun H2 e2 => ?_
    obtain ⟨u8, hu8⟩ := T.most
    refine q_when (b := false) (et_is (et_not (et_test (ev_chain ev_c (ev_var rfl) rv_0 (fun _ => ev_cval ev_c T.cr hu8) (fun _ => rv_0)))) (by
      rw [decide_eq_true (show (1 : Int) ≤ (m.size : Int) by omega), decide_eq_true (show (m.size : Int) ≤ 8 by omega)]; rfl)) (fun hb => by cases hb) (fun _ H3 e3 => ?_)
    refine q_when (b := false) (et_is (et_not (et_test (ev_chain ev_c (ev_var rfl) rv_0 (fun _ => ev_var rfl) (fun _ => rv_0)))) (by
      rw [decide_eq_true (show (0 : Int) ≤ (m.start : Int) by omega), decide_eq_true (show (m.start : Int) < (m.size : Int) by omega)]; rfl)) (fun hb => by cases hb) (fun _ H4 e4 => ?_)
    have R4 := R.ex (((e1.trans e2).trans e3).trans e4)
    refine s_forLn (ev_var rfl) (sq_of R4.top) (fun i σ' H' => ∃ u4 u5, σ' = [some (.str (lets m.many)), some (.ref a), some (.int (m.start : Nat)), some (.int (m.size : Int)), u4, u5] ∧ Ex H H')
      (fun H5 e5 => ⟨none, none, rfl, (((e1.trans e2).trans e3).trans e4).trans e5⟩) (fun i σ' H' _ p => ?_) ?_ ?_
    · obtain ⟨u4, u5, rfl, e⟩ := p
      exact sq_of (e _ _ R.top)
    · rintro i x σ' H' hx ⟨u4, u5, rfl, e⟩
      obtain ⟨hi, rfl⟩ := tab_some hx
      have hrow := e _ _ (R.row i hi)
      refine q_when (b := false) (et_test (ev_is (ev_op (ev_is (ev_len (ev_var rfl) (sq_of hrow)) (w := .int (m.many : Int)) (by rw [tab_len])) (ev_is (ev_lenS (ev_var rfl) (by rw [lets_len]; omega)) (w := .int (m.many : Int)) (by rw [lets_len])) (rv_ne rfl)) (by rw [decide_eq_true rfl]; rfl))) (fun hb => by cases hb) (fun _ H5 e5 => ?_)
      refine s_forLn (ev_var rfl) (sq_of (e5 _ _ hrow)) (fun j σ' H' => ∃ u5, σ' = [some (.str (lets m.many)), some (.ref a), some (.int (m.start : Nat)), some (.int (m.size : Int)), some (.ref (r i)), u5] ∧ Ex H H')
        (fun H6 e6 => ⟨u5, rfl, (e.trans e5).trans e6⟩) (fun j σ' H' _ p => ?_) ?_ ?_
      · obtain ⟨u5, rfl, e⟩ := p
        exact sq_of (e _ _ (R.row i hi))
      · rintro j x σ' H' hx ⟨u5, rfl, e⟩
        obtain ⟨hj, rfl⟩ := tab_some hx
        have hb := o.tg i j
        refine s_when (b := false) (et_is (et_not (et_test (ev_chain ev_c (ev_var rfl) rv_0 (fun _ => ev_var rfl) (fun _ => rv_0)))) (by
          rw [decide_eq_true (show (0 : Int) ≤ (m.tg i j : Int) by omega), decide_eq_true (show (m.tg i j : Int) < (m.size : Int) by omega)]; rfl)) (fun hb => by cases hb) (fun _ H6 e6 => ⟨_, rfl, e.trans e6⟩)
      · rintro σ' H' ⟨u5, rfl, e⟩
        exact ⟨_, _, rfl, e⟩
    · rintro σ' H' ⟨u4, u5, rfl, e⟩
      exact q H' e
end
section
variable {P : Program} {w : World} {K : PySem.W.Frag} {mg : Str → Option Value} {base : Heap} {C tS : Addr} {mc : Value}
abbrev sTable : Stmt := top 20
theorem scTable : FnScope ["letters","targets","state","row","letter","target"] ["letters","targets"] (defScope sTable) := ⟨rfl, rfl, rfl, by decide +kernel, rfl, by decide +kernel, by decide +kernel⟩
theorem ok_table {f : Addr} {fd : FuncData} (F : FnP K "_target_table" sTable f fd) (B : Bi mg) : FnOk P w K mg base CX0 1 f fd ["letters","targets"] spTable := by
  refine FunD.ok0 F scTable (fun vs H Q E h => ?_) (fun cdv A outer s H vs Q E hr h => ?_)
  · obtain ⟨a, m, r, rfl, _⟩ := h
    rfl
  · obtain ⟨a, m, r, rfl, o, R, q⟩ := h
    have nd := scTable.nd
    refine ⟨_, (pss_one (ps_ret (pe_dcT2 (own := [("state", 2), ("row", 3), ("letter", 4), ("target", 5)]) (vs1 := [4, 5]) rfl (hu0 hr) nd (pi_enum (by rfl) B.enumerate (pa_cons (pv 1) pa_nil)) (blkOk_by (own := [("state", 2), ("row", 3), ("letter", 4), ("target", 5)]) (by kernel_rfl)) (by decide) (fun _ _ _ _ _ => (pg_tupK (K := K) (n := 2) rfl rfl (pgs_cons (pg_name (i := 2) nd rfl (Or.inl rfl)) (pgs_cons (pg_name (i := 3) nd rfl (Or.inl rfl)) pgs_nil)))) (fun _ _ _ _ _ => pts_nil) (fun _ _ _ _ _ => (pi_zipSLK (K := K) rfl (by rfl) B.zip (pa_cons (pv 0) (pa_cons (pv 3) pa_nil)))) (fun _ _ _ _ _ => (pg_tupK (K := K) (n := 2) rfl rfl (pgs_cons (pg_name (i := 4) nd rfl (Or.inl rfl)) (pgs_cons (pg_name (i := 5) nd rfl (Or.inl rfl)) pgs_nil)))) (fun _ _ _ _ _ => pts_nil) (fun _ _ _ _ _ => (pe_tup (pa_cons (pv 2) (pa_cons (pv 4) pa_nil)))) (fun _ _ _ _ _ => (pv 5))))), ?_⟩
    have s8 := o.s8
    have m4 := o.m4
    refine ⟨_, rfl, a, _, rfl, sq_of R.top, fun D hD => ?_⟩
    refine rdT2_it walk_enum (fun i H' => Ex H H' ∧ ∃ kvs, H' D = some (.dT kvs) ∧ Tab2 kvs (fun s c => if s < i ∧ c < m.many then some (.int (m.tg s c : Nat)) else none) ∧ kvs.length ≤ i * m.many)
      ⟨Ex.new hD, [], upd_same, Tab2.nil.congr fun s c => (if_neg fun z => Nat.not_lt_zero _ z.1).symm, Nat.zero_le _⟩ (fun i H' _ p => sq_of (p.1 _ _ R.top)) ?_ ?_
    · rintro i x H1 H2 hi ⟨e, kvs, hk, tk, lk⟩ ⟨t, x0, y0, rfl, ht, rfl, hx0, hy0⟩
      cases hx0
      obtain ⟨hi', rfl⟩ := tab_some hy0
      have e2 : Ex H1 (upd H1 t (.tup [.int (i : Nat), .ref (r i)])) := Ex.new ht
      refine ⟨t, _, rfl, st_of upd_same, rfl, _, _, rfl, _, _, rfl, rfl, rfl, ?_⟩
      refine t_yes ?_
      refine ⟨_, rfl, _, rfl, _, _, _, rfl, sq_of (e2 _ _ (e _ _ (R.row i hi'))), ?_⟩
      refine inT_it (walk_SL (by rw [tab_len, show (lets m.many).cps.size = m.many from lets_len _])) (fun j H' => Ex H H' ∧ ∃ kvs, H' D = some (.dT kvs) ∧ Tab2 kvs (fun s c => if (s < i ∧ c < m.many) ∨ (s = i ∧ c < j) then some (.int (m.tg s c : Nat)) else none) ∧ kvs.length ≤ i * m.many + j)
        ⟨e.trans e2, kvs, e2 _ _ hk, tk.congr fun s c => ?_, lk⟩ (fun j H' _ p => sq_of (p.1 _ _ (R.row i hi'))) ?_ ?_
      · by_cases h : s < i ∧ c < m.many
        · rw [if_pos h, if_pos (Or.inl h)]
        · rw [if_neg h, if_neg (fun z => z.elim h fun y => Nat.not_lt_zero _ y.2)]
      · rintro j x H3 H4 hj ⟨e3, kvs, hk, tk, lk⟩ ⟨t2, x1, y1, rfl, ht2, rfl, hx1, hy1⟩
        rw [tab_len] at hj
        have hx2 : x1 = .str (lt1 j) := by
          have h1 : (lets m.many).cps[j]? = some (97 + j) := by
            show (wtx (List.range m.many)).cps[j]? = _
            rw [wtx_get, List.getElem?_range hj]
            rfl
          have hx3 : ((lets m.many).cps[j]?).map (fun c => V.str ⟨#[c]⟩) = some x1 := hx1
          rw [h1] at hx3
          cases hx3
          rfl
        subst hx2
        obtain ⟨_, rfl⟩ := tab_some hy1
        have e4 : Ex H3 (upd H3 t2 (.tup [.str (lt1 j), .int (m.tg i j : Int)])) := Ex.new ht2
        refine ⟨t2, _, rfl, st_of upd_same, rfl, _, _, rfl, _, _, rfl, rfl, rfl, ?_⟩
        refine t_yes ?_
        refine ⟨_, rfl, _, rfl, (by show 2 ≤ sizeLine; decide), fun kp hkp => ⟨_, rfl, kvs, ky i j, kp, rfl, upd_same, ?_, ?_, ?_, putK kvs (ky i j) (.int (m.tg i j : Int)), ?_, ?_, ?_⟩⟩
        · exact Ex.new hkp _ _ (e4 _ _ hk)
        · exact sz_lt (by
            have : i * m.many ≤ 8 * 4 := Nat.mul_le_mul (by omega) m4
            omega)
        · exact Ex.mut ((e3.trans e4).trans (Ex.new hkp)) hD
        · exact upd_same
        · refine (tk.put i j _).congr fun s c => ?_
          by_cases h : s = i ∧ c = j
          · obtain ⟨rfl, rfl⟩ := h
            rw [if_pos ⟨rfl, rfl⟩, if_pos (Or.inr ⟨rfl, by omega⟩)]
          · rw [if_neg h]
            by_cases h2 : (s < i ∧ c < m.many) ∨ (s = i ∧ c < j)
            · rw [if_pos h2, if_pos (h2.imp id fun z => ⟨z.1, by omega⟩)]
            · rw [if_neg h2, if_neg]
              rintro (z | z)
              · exact h2 (Or.inl z)
              · by_cases ec : c = j
                · exact h ⟨z.1, ec⟩
                · exact h2 (Or.inr ⟨z.1, by omega⟩)
        · have := put_len kvs (ky i j) (.int (m.tg i j : Int))
          omega
      · rintro H3 ⟨e3, kvs, hk, tk, lk⟩
        rw [tab_len] at tk lk
        refine ⟨e3, kvs, hk, tk.congr fun s c => ?_, by rw [Nat.succ_mul]; exact lk⟩
        by_cases h : s < i + 1 ∧ c < m.many
        · rw [if_pos h, if_pos]
          by_cases hs : s = i
          · exact Or.inr ⟨hs, h.2⟩
          · exact Or.inl ⟨by omega, h.2⟩
        · rw [if_neg h, if_neg]
          rintro (z | z)
          · exact h ⟨by omega, z.2⟩
          · exact h ⟨by omega, z.2⟩
    · rintro H1 ⟨e, kvs, hk, tk, lk⟩
      rw [tab_len] at tk lk
      refine q D H1 kvs hD e hk tk ?_
      have : m.size * m.many ≤ 8 * 4 := Nat.mul_le_mul (by omega) m4
      omega
end
section
variable {P : Program} {w : World} {K : PySem.W.Frag} {mg : Str → Option Value} {base : Heap} {C tS : Addr} {mc : Value}
abbrev sMarkT : Stmt := top 21
theorem scMarkT : FnScope ["pairs","table","state","letter"] ["pairs","table"] (defScope sMarkT) := ⟨rfl, rfl, rfl, by decide +kernel, rfl, by decide +kernel, by decide +kernel⟩
theorem ok_markT {f : Addr} {fd : FuncData} (F : FnP K "_mark_table" sMarkT f fd) (B : Bi mg) : FnOk P w K mg base CX0 1 f fd ["pairs","table"] spMarkT := by
  refine FunD.ok0 F scMarkT (fun vs H Q E h => ?_) (fun cdv A outer s H vs Q E hr h => ?_)
  · obtain ⟨p, d, m, l, kT, rfl, _⟩ := h
    rfl
  · obtain ⟨p, d, m, l, kT, rfl, hP, hd, tT, hin, hl1, q⟩ := h
    have nd := scMarkT.nd
    have hu := hu_of hr
    refine ⟨_, (pss_cons (ps_for PassesOwn.never rfl (pi_list (pv 0)) (pg_tup rfl (pgs_cons (pg_name (i := 2) nd rfl (Or.inl rfl)) (pgs_cons (pg_name (i := 3) nd rfl (Or.inl rfl)) pgs_nil)))
      (pss_one (ps_if (pt_cmp (pc_dnotin hu (pe_tup (pa_cons (pv 2) (pa_cons (pv 3) pa_nil))) (pv 1))) (pss_one ps_never) pss_nil)))
      (pss_one (ps_ret (pe_dcT (own := [("state", 2), ("letter", 3)]) rfl (hu0 hr) nd (pi_list (pv 0)) (blkOk_by (own := [("state", 2), ("letter", 3)]) (by kernel_rfl)) (fun _ _ _ _ _ => (pg_tupK (K := K) (n := 2) rfl rfl (pgs_cons (pg_name (i := 2) nd rfl (Or.inl rfl)) (pgs_cons (pg_name (i := 3) nd rfl (Or.inl rfl)) pgs_nil)))) (fun _ _ _ _ _ => pts_nil) (fun _ _ _ _ _ => (pe_tup (pa_cons (pv 2) (pa_cons (pv 3) pa_nil)))) (fun _ _ _ _ _ => pe_bl))))), ?_⟩
    obtain ⟨xs, hx, hl, hat⟩ := hP.at_
    refine q_forL (ev_var rfl) (sq_of hx) (fun i σ' H' => ∃ u2 u3, σ' = [some (.ref p), some (.ref d), u2, u3] ∧ Ex H H') (fun H1 e1 => ⟨none, none, rfl, e1⟩) (fun i σ' H' _ p => ?_) ?_ ?_
    · obtain ⟨u2, u3, rfl, e⟩ := p
      exact sq_of (e _ _ hx)
    · rintro i x σ' H' hxi ⟨u2, u3, rfl, e⟩
      obtain ⟨t, s, c, rfl, hli, ht⟩ := hat i x hxi
      obtain ⟨h1, h2⟩ := hin _ (List.mem_of_getElem? hli)
      refine ⟨t, _, rfl, st_of (e _ _ ht), rfl, _, _, rfl, _, _, rfl, rfl, ?_⟩
      exact s_when (b := false) (et_B (ev_is (ev_dnin (ky := ky s c) (eu_2 (ev_var rfl) (ev_var rfl)) rfl (fun H1 e1 => ev_var rfl) (e _ _ hd)) (by rw [tT.at_, Mac.tN_in h1 h2]; rfl))) (fun hb => by cases hb) (fun _ H5 e5 => ⟨_, _, rfl, e.trans e5⟩)
    · rintro σ' H' ⟨u2, u3, rfl, e⟩
      refine ⟨_, rfl, p, rfl, ⟨_, sq_of (e _ _ hx)⟩, fun D hD => ?_⟩
      refine rdT_it (walk_list (xs := xs)) (fun i H1 => Ex H H1 ∧ ∃ kvs, H1 D = some (.dT kvs) ∧ Tab2 kvs (fun s c => if (s, c) ∈ l.take i then some (.bl true) else none) ∧ kvs.length ≤ i)
        ⟨e.trans (Ex.new hD), [], upd_same, Tab2.nil.congr fun s c => (if_neg (by rw [List.take_zero]; exact List.not_mem_nil)).symm, Nat.zero_le _⟩ (fun i H' _ p => sq_of (p.1 _ _ hx)) ?_ ?_
      · rintro i x H1 H2 hi ⟨e1, kvs, hk, tk, lk⟩ ⟨rfl, hxi⟩
        obtain ⟨t, s, c, rfl, hli, ht⟩ := hat i x hxi
        refine ⟨t, _, rfl, st_of (e1 _ _ ht), rfl, _, _, rfl, _, _, rfl, rfl, rfl, t_yes ?_⟩
        refine ⟨_, rfl, _, rfl, (by show 2 ≤ sizeLine; decide), fun kp hkp => ⟨kvs, ky s c, kp, rfl, upd_same, Ex.new hkp _ _ hk, sz_lt (by omega), Ex.mut (e1.trans (Ex.new hkp)) (fresh_back e hD), putK kvs (ky s c) (.bl true), upd_same, (tk.put s c _).congr fun s' c' => ?_, ?_⟩⟩
        · have mem : ((s', c') ∈ l.take (i + 1)) ↔ (s', c') ∈ l.take i ∨ (s' = s ∧ c' = c) := by
            rw [List.take_succ, hli, List.mem_append]
            refine or_congr Iff.rfl ?_
            show (s', c') ∈ [(s, c)] ↔ _
            rw [List.mem_singleton, Prod.mk.injEq]
          by_cases h : s' = s ∧ c' = c
          · rw [if_pos h, if_pos (mem.mpr (Or.inr h))]
          · rw [if_neg h]
            by_cases h2 : (s', c') ∈ l.take i
            · rw [if_pos h2, if_pos (mem.mpr (Or.inl h2))]
            · rw [if_neg h2, if_neg fun z => (mem.mp z).elim h2 h]
        · have := put_len kvs (ky s c) (.bl true)
          omega
      · rintro H1 ⟨e1, kvs, hk, tk, lk⟩
        rw [hl, List.take_length] at tk
        exact q D H1 kvs (fresh_back e hD) e1 hk tk (by omega)
end
section
variable {P : Program} {w : World} {K : PySem.W.Frag} {mg : Str → Option Value} {base : Heap} {C tS : Addr} {mc : Value}
theorem scInit : FnScope N_init N_init (scW 1) := ⟨rfl, rfl, rfl, by decide +kernel, rfl, by decide +kernel, by decide +kernel⟩
theorem ok_init {f : Addr} {fd : FuncData} {dv : List V} {kw : List (Str × V)} (F : FnW K "__init__" "Wish.__init__" 1 dv kw f fd) (B : Bi mg) (T : WF K mg C tS mc)
    (C_refuse_shape : Callee P w K mg base CX0 1 "_refuse_shape" ["letters","targets","start"] spShape) (C_target_table : Callee P w K mg base CX0 1 "_target_table" ["letters","targets"] spTable) (C_mark_table : Callee P w K mg base CX0 1 "_mark_table" ["pairs","table"] spMarkT) :
    FnOk P w K mg base CX0 2 f fd N_init (spInit C) := by
  refine FunD.ok0 F scInit (fun vs H Q E h => ?_) (fun cdv A outer s H vs Q E hr h => ?_)
  · obtain ⟨x, dx, a, p, m, r, rfl, _⟩ := h
    rfl
  · obtain ⟨x, dx, a, p, m, r, rfl, hx, o, R, hP, q⟩ := h
    have nd := scInit.nd
    refine ⟨_, (pss_cons (ps_expr (pe_fn C_refuse_shape (hr.mono (by decide)) (by rfl) pass0 (pa_cons (pv 1) (pa_cons (pv 2) (pa_cons (pv 4) pa_nil)))))
      (pss_cons (ps_fld (pv 0) (pv 1) rfl)
      (pss_cons (ps_fld (pv 0) (pe_callB call_len_seq (by rfl) B.len (by decide +kernel) (pa_cons (pv 2) pa_nil)) rfl)
      (pss_cons (ps_fld (pv 0) (pv 4) rfl)
      (pss_cons (ps_fld (pv 0) (pe_fn C_target_table (hr.mono (by decide)) (by rfl) pass0 (pa_cons (pv 1) (pa_cons (pv 2) pa_nil))) rfl)
      (pss_one (ps_fld (pv 0) (pe_fn C_mark_table (hr.mono (by decide)) (by rfl) pass0 (pa_cons (pv 3) (pa_cons (pe_fld (pv 0) rfl) pa_nil))) rfl))))))), ?_⟩
    refine q_drop (ev_call (ea_cons (ev_var rfl) (ea_cons (ev_var rfl) (ea_cons (ev_var rfl) ea_nil))) (sv_shape o R)) fun H1 e1 => ?_
    refine q_fld (ev_var rfl) (ev_var rfl) (e1 _ _ hx) T.cl T.nL (by decide) fun H2 e2 => ?_
    have o2 : Off H (upd H2 x (.ins C dx (putF "letters" (.str (lets m.many)) []))) x := (Off.ex (e1.trans e2)).trans Off.upd
    have R2 := o2.rows hx R
    refine q_fld (ev_is (ev_len (ev_var rfl) (sq_of R2.top)) (w := .int (m.size : Int)) (by rw [tab_len])) (ev_var rfl) upd_same T.cl T.nZ (Nat.le_of_ble_eq_true rfl) fun H3 e3 => ?_
    have o3 := (o2.trans (Off.ex e3)).trans (Off.upd (x := x) (o := .ins C dx (putF "size" (.int (m.size : Int)) (putF "letters" (.str (lets m.many)) []))))
    refine q_fld (ev_var rfl) (ev_var rfl) upd_same T.cl T.nS (Nat.le_of_ble_eq_true rfl) fun H4 e4 => ?_
    have o4 := (o3.trans (Off.ex e4)).trans (Off.upd (x := x) (o := .ins C dx (putF "start" (.int (m.start : Int)) (putF "size" (.int (m.size : Int)) (putF "letters" (.str (lets m.many)) [])))))
    refine call_A (ea_cons (ev_var rfl) (ea_cons (ev_var rfl) ea_nil)) fun H5 e5 => ⟨a, m, r, rfl, o, (o4.rows hx R).ex e5, fun pT H6 kT hpT e6 hkT tT lT => ⟨_, rfl, x, C, dx, _, rfl, e6 _ _ (e5 _ _ upd_same), T.cl, T.nT, Nat.le_of_ble_eq_true rfl, ?_⟩⟩
    have pTx : pT ≠ x := fun z => by
      rw [z, e5 _ _ upd_same] at hpT
      cases hpT
    generalize hfs : putF "_targets" (.ref pT) (putF "start" (.int (m.start : Int)) (putF "size" (.int (m.size : Int)) (putF "letters" (.str (lets m.many)) []))) = fs5
    have o6 := ((o4.trans (Off.ex e5)).trans (Off.ex e6)).trans (Off.upd (x := x) (o := .ins C dx fs5))
    have hT7 : upd H6 x (.ins C dx fs5) pT = some (.dT kT) := by
      rw [upd_ne pTx]
      exact hkT
    refine call_A (ea_cons (ev_var rfl) (ea_cons (ev_fld (ev_var rfl) upd_same T.cl T.nT (v := .ref pT) (by rw [← hfs]; rfl)) ea_nil)) fun H7 e7 => ⟨p, pT, m, m.prs, kT, rfl, (o6.prs hx hP).ex e7, e7 _ _ hT7, tT, fun q hq => ?_, ?_, fun pM H8 kM hpM e8 hkM tM lM => ⟨_, rfl, x, C, dx, _, rfl, e8 _ _ (e7 _ _ upd_same), T.cl, T.nM, ?_, ?_⟩⟩
    · have h := Mac.mem_prs.mp hq
      exact ⟨h.1, h.2.1⟩
    · have h := Mac.prs_len o
      omega
    · rw [← hfs]
      exact Nat.le_of_ble_eq_true rfl
    · have pMx : pM ≠ x := fun z => by
        rw [z, e7 _ _ upd_same] at hpM
        cases hpM
      have newT : H pT = none := by
        cases hh : H pT with
        | none => rfl
        | some u =>
          have h1 := e5 _ _ (o4 _ _ pTx hh)
          rw [hpT] at h1
          cases h1
      have newM : H pM = none := by
        cases hh : H pM with
        | none => rfl
        | some u =>
          have h1 := e7 _ _ (o6 _ _ pMx hh)
          rw [hpM] at h1
          cases h1
      refine q _ pT pM (((o6.trans (Off.ex e7)).trans (Off.ex e8)).trans Off.upd) newT newM ⟨dx, kT, kM, ⟨?_, ?_, ?_, tT, ?_, lT, lM⟩⟩
      · rw [upd_same, ← hfs]
        rfl
      · rw [upd_ne pTx]
        exact e8 _ _ (e7 _ _ hT7)
      · rw [upd_ne pMx]
        exact hkM
      · refine tM.congr fun s c => ?_
        unfold Mac.mN
        by_cases h : (s, c) ∈ m.prs
        · rw [if_pos h, if_pos (Mac.mem_prs.mp h)]
        · rw [if_neg h, if_neg fun z => h (Mac.mem_prs.mpr z)]
end
section
variable {P : Program} {w : World} {K : PySem.W.Frag} {mg : Str → Option Value} {base : Heap} {C tS : Addr} {mc : Value}
abbrev sMade : Stmt := top 32
theorem scMade : FnScope ["_law_m","_law_row"] ["_law_m"] (defScope sMade) := ⟨rfl, rfl, rfl, by decide +kernel, rfl, by decide +kernel, by decide +kernel⟩
theorem ok_made {f : Addr} {fd : FuncData} (F : FnP K "_law_made" sMade f fd) (B : Bi mg) (T : WF K mg C tS mc) (MI : Making P w K mg base 2 C) (C_law_pairs : Callee P w K mg base CX0 1 "_law_pairs" ["_law_m"] spPairs) : FnOk P w K mg base CX0 4 f fd ["_law_m"] (spMade C) := by
  obtain ⟨f_, d_, g_, F_init, M_init, hb_init⟩ := MI.ex
  refine FunD.ok0 F scMade (fun vs H Q E h => ?_) (fun cdv A outer s H vs Q E hr h => ?_)
  · obtain ⟨a, m, rfl, _⟩ := h
    rfl
  · obtain ⟨a, m, rfl, M0, o, q⟩ := h
    have nd := scMade.nd
    refine ⟨_, (pss_one (ps_ret (pe_makeK M_init F_init (hr.mono (by decide)) (by rfl) T.mgC hb_init pass0 (pa_cons (pe_ix ix_list (pv 0) pe_int (fun _ _ => rfl)) (pa_cons (pe_lc (own := [("_law_row", 1)]) rfl nd (pi_list (pe_ix ix_list (pv 0) pe_int (fun _ _ => rfl))) (blkOk_by (own := [("_law_row", 1)]) (by kernel_rfl)) (fun _ _ _ _ _ => (pg_name (i := 1) nd rfl (Or.inl rfl))) (fun _ _ _ _ _ => pts_nil) (fun _ _ _ _ _ => (pe_callTy (list_ofK (K := K) rfl) (by rfl) B.list (by decide +kernel) (pa_cons (pv 1) pa_nil)))) (pa_cons (pe_fn C_law_pairs (hr.mono (by decide)) (by rfl) pass0 (pa_cons (pv 0) pa_nil)) pa_nil))) (pk_cons (pe_ix ix_list (pv 0) pe_int (fun _ _ => rfl)) pk_nil)))), ?_⟩
    obtain ⟨aT, aM, rT, rM, M⟩ := id M0
    refine s_retQ (make_go (ta_consQ (M.evL (ev_var rfl) H (Ex.refl H) _ fun H1 e1 => ta_consQ ?_)))
    have M1 := M.ex e1
    have s8 := o.s8
    refine ro_lcL (xs := tab m.size fun s => .ref (rT s)) (fun s => tab m.many fun c => .int (m.tg s c : Nat)) (M1.evT (ev_var rfl)) (sq_of M1.tT) (by rw [tab_len]; omega) (fun _ => rfl) (fun i x H2 e2 hx => by
      obtain ⟨hi, rfl⟩ := tab_some hx
      exact el_list (ev_var rfl) (sq_of (e2 _ _ (M1.row i hi)))) fun D H2 ra R => ta_consQ (call_A (ea_cons (ev_var rfl) ea_nil) fun H3 e3 => ⟨a, m, rfl, M0.ex ((e1.trans R.ex).trans e3), o, fun p H4 hp e4 hP => ta_nilQ ?_⟩)
    rw [tab_len] at R
    have e04 := ((e1.trans R.ex).trans e3).trans e4
    refine (ea_cons ((M.ex e04).evS (ev_var rfl)) ea_nil) H4 (Ex.refl H4) _ fun H5 e5 => ⟨rfl, rfl, fun x dx hx hdx ne => ?_⟩
    have eN : Ex H5 (upd (upd H5 dx (.own x)) x (.ins C dx [])) := Ex.mut (Ex.new hdx) hx
    have e25 := (e3.trans e4).trans e5
    refine ⟨x, dx, D, p, m, ra, rfl, upd_same, o, ⟨eN _ _ (e25 _ _ R.top), fun s hs => eN _ _ (e25 _ _ (R.at_ s hs))⟩, (hP.ex e5).ex eN, fun H6 dT dM off nT nM W => ⟨rfl, q x dT dM H6 (fresh_back (e04.trans e5) hx) (fresh_back ((e04.trans e5).trans eN) nT) (fresh_back ((e04.trans e5).trans eN) nM) (fun b u hb => ?_) W⟩⟩
    have h5 := (e04.trans e5) _ _ hb
    exact off b u (ne_of_none h5 hx) (eN _ _ h5)
end
end Nt

namespace Nt
open PySem PySem.Spec PyProof.Rows L2 Evl TL
section
variable {P : Program} {w : World} {K : PySem.W.Frag} {mg : Str → Option Value} {base : Heap} {C tS : Addr} {mc : Value}
abbrev sFits : Stmt := top 36
theorem scFits : FnScope ["_law_wish","_law_m","_law_s","_law_c","_law_target","_law_marked"] ["_law_wish","_law_m"] (defScope sFits) := ⟨rfl, rfl, rfl, by decide +kernel, rfl, by decide +kernel, by decide +kernel⟩
theorem ok_fits {f : Addr} {fd : FuncData} (F : FnP K "_law_fits" sFits f fd) (B : Bi mg) (T : WF K mg C tS mc) (C_law_is_int : Callee P w K mg base CX0 1 "_law_is_int" ["_law_x"] spIsInt)
    (MG : MCallee P w K mg base CX0 2 C "__getitem__" ["self","at"] (spGet C)) (MM : MCallee P w K mg base CX0 2 C "marked" ["self","state","letter"] (spMarked C)) : FnOk P w K mg base CX0 4 f fd ["_law_wish","_law_m"] (spFits C) := by
  obtain ⟨f_g, d_g, F_getitem, m_getitem, k_getitem, b_getitem⟩ := MG.ex
  obtain ⟨f_m, d_m, F_marked, m_marked, k_m, b_marked⟩ := MM.ex
  refine FunD.ok0 F scFits (fun vs H Q E h => ?_) (fun cdv A outer s H vs Q E hr h => ?_)
  · obtain ⟨x, a, m, rfl, _⟩ := h
    rfl
  · obtain ⟨x, a, m, rfl, W0, M0, o, q⟩ := h
    have nd := scFits.nd
    refine ⟨_, (pss_cons (ps_if (PW.pt (pw_or (pt_not (pt_val (pe_callB call_isi (by rfl) B.isinstance (by decide +kernel) (pa_cons (pe_fld (pv 0) rfl) (pa_cons (pe_bltn (v := .ty "str") (by rfl) B.str (by decide +kernel) rfl) pa_nil))))) (pw_or1 (pt_cmpR op_ne (pe_fld (pv 0) rfl) (pe_ix ix_list (pv 1) pe_int (fun _ _ => rfl)) (nomark _))))) (pss_one (ps_ret pe_bl)) pss_nil)
      (pss_cons (ps_if (PW.pt (pw_or (pt_not (pt_val (pe_fn C_law_is_int (hr.mono (by decide)) (by rfl) pass0 (pa_cons (pe_fld (pv 0) rfl) pa_nil)))) (pw_or1 (pt_cmpR op_ne (pe_fld (pv 0) rfl) (pe_callB call_len_seq (by rfl) B.len (by decide +kernel) (pa_cons (pe_ix ix_list (pv 1) pe_int (fun _ _ => rfl)) pa_nil)) (nomark _))))) (pss_one (ps_ret pe_bl)) pss_nil)
      (pss_cons (ps_if (PW.pt (pw_or (pt_not (pt_val (pe_fn C_law_is_int (hr.mono (by decide)) (by rfl) pass0 (pa_cons (pe_fld (pv 0) rfl) pa_nil)))) (pw_or1 (pt_cmpR op_ne (pe_fld (pv 0) rfl) (pe_ix ix_list (pv 1) pe_int (fun _ _ => rfl)) (nomark _))))) (pss_one (ps_ret pe_bl)) pss_nil)
      (pss_cons (ps_for PassesOwn.never rfl (pi_range1 (by rfl) B.range (pa_cons (pe_callB call_len_seq (by rfl) B.len (by decide +kernel) (pa_cons (pe_ix ix_list (pv 1) pe_int (fun _ _ => rfl)) pa_nil)) pa_nil)) (pg_name (i := 2) nd rfl (Or.inl rfl))
      (pss_one (ps_for PassesOwn.never rfl (pi_range1 (by rfl) B.range (pa_cons (pe_callB call_len_str (by rfl) B.len (by decide +kernel) (pa_cons (pe_ix ix_list (pv 1) pe_int (fun _ _ => rfl)) pa_nil)) pa_nil)) (pg_name (i := 3) nd rfl (Or.inl rfl))
      (pss_cons (ps_set (i := 4) nd rfl (Or.inl rfl) (pe_own (pv 0) (pe_tup (pa_cons (pv 2) (pa_cons (pe_ix ix_str (pe_ix ix_list (pv 1) pe_int (fun _ _ => rfl)) (pv 3) (fun _ _ => rfl)) pa_nil))) m_getitem k_getitem F_getitem (hr.mono (by decide)) b_getitem pass0))
      (pss_cons (ps_set (i := 5) nd rfl (Or.inl rfl) (pe_meth (pv 0) T.cl m_marked F_marked (hr.mono (by decide)) b_marked .nil pass0 (pa_cons (pv 2) (pa_cons (pe_ix ix_str (pe_ix ix_list (pv 1) pe_int (fun _ _ => rfl)) (pv 3) (fun _ _ => rfl)) pa_nil))))
      (pss_cons (ps_if (PW.pt (pw_or (pt_not (pt_val (pe_fn C_law_is_int (hr.mono (by decide)) (by rfl) pass0 (pa_cons (pv 4) pa_nil)))) (pw_or1 (pt_cmpR op_ne (pv 4) (pe_ix ix_list (pe_ix ix_list (pe_ix ix_list (pv 1) pe_int (fun _ _ => rfl)) (pv 2) (fun _ _ => rfl)) (pv 3) (fun _ _ => rfl)) (nomark _))))) (pss_one (ps_ret pe_bl)) pss_nil)
      (pss_one (ps_if (PW.pt (pw_or (pt_not (pt_val (pe_callB call_isi (by rfl) B.isinstance (by decide +kernel) (pa_cons (pv 5) (pa_cons (pe_bltn (v := .ty "bool") (by rfl) B.bool (by decide +kernel) rfl) pa_nil))))) (pw_or1 (pt_cmpR op_ne (pv 5) (pe_ix ix_list (pe_ix ix_list (pe_ix ix_list (pv 1) pe_int (fun _ _ => rfl)) (pv 2) (fun _ _ => rfl)) (pv 3) (fun _ _ => rfl)) (nomark _))))) (pss_one (ps_ret pe_bl)) pss_nil))))))))
      (pss_one (ps_ret pe_bl)))))), ?_⟩
    obtain ⟨aT, aM, rT, rM, M⟩ := id M0
    obtain ⟨dx, dT, dM, kT, kM, W⟩ := id W0
    have s8 := o.s8
    have m4 := o.m4
    refine q_when (b := false) (et_is (et_or (et_not (et_B (ev_cb (ea_cons (W.evL T (ev_var rfl)) (ea_cons ev_c ea_nil)) (rc_isi (b := true) (.ty _) (fun _ _ => .base (.str _)) (kit_ty (by decide +kernel)))))) fun _ => et_test (ev_op (W.evL T (ev_var rfl)) (M.evL (ev_var rfl)) (rv_ne rfl))) (by rw [decide_eq_true rfl]; rfl)) (fun hb => by cases hb) fun _ H1 e1 => ?_
    have W1 := W.ex e1
    have M1 := M.ex e1
    refine q_when (b := false) (et_is (et_or (et_not (et_B (ev_call (ea_cons (W1.evZ T (ev_var rfl)) ea_nil) sv_isint))) fun _ => et_test (ev_op (W1.evZ T (ev_var rfl)) (M1.evN (ev_var rfl)) (rv_ne rfl))) (by rw [decide_eq_true rfl]; rfl)) (fun hb => by cases hb) fun _ H2 e2 => ?_
    have W2 := W1.ex e2
    have M2 := M1.ex e2
    refine q_when (b := false) (et_is (et_or (et_not (et_B (ev_call (ea_cons (W2.evS T (ev_var rfl)) ea_nil) sv_isint))) fun _ => et_test (ev_op (W2.evS T (ev_var rfl)) (M2.evS (ev_var rfl)) (rv_ne rfl))) (by rw [decide_eq_true rfl]; rfl)) (fun hb => by cases hb) fun _ H3 e3 => ?_
    have M3 := M2.ex e3
    refine q_forR1 (n := (m.size : Int)) (ea_cons (M3.evN (ev_var rfl)) ea_nil) ⟨by omega, by omega⟩
      (fun i σ' H' => ∃ u2 u3 u4 u5, σ' = [some (.ref x), some (.ref a), u2, u3, u4, u5] ∧ Ex H H') (fun H4 e4 => ⟨none, none, none, none, rfl, ((e1.trans e2).trans e3).trans e4⟩) ?_ ?_
    · rintro i σ' H' hi ⟨u2, u3, u4, u5, rfl, e⟩
      have hi' : i < m.size := by omega
      refine s_forR1 (n := (m.many : Int)) (ea_cons ((M.ex e).evC o (ev_var rfl)) ea_nil) ⟨by omega, by omega⟩
        (fun j σ' H' => ∃ u3 u4 u5, σ' = [some (.ref x), some (.ref a), some (.int (i : Nat)), u3, u4, u5] ∧ Ex H H') (fun H4 e4 => ⟨u3, u4, u5, rfl, e.trans e4⟩) ?_ ?_
      · rintro j σ' H' hj ⟨u3, u4, u5, rfl, e⟩
        have hj' : j < m.many := by omega
        have M4 := M.ex e
        have W4 := W.ex e
        refine q_asg (ev_opU (ev_var rfl) (eu_2 (ev_var rfl) (M4.evLt o (ev_var rfl) (ev_var rfl) hj')) fun p H5 hp e5 => rv_own (W0.ex (e.trans e5)) (e5 _ _ W4.ins) hp hi' hj') fun H5 e5 => ?_
        have M5 := M4.ex e5
        have W5 := W4.ex e5
        refine q_asg (ev_meth (ev_var rfl) W5.ins (by rfl) (ea_cons (ev_var rfl) (ea_cons (M5.evLt o (ev_var rfl) (ev_var rfl) hj') ea_nil)) (sv_marked (W0.ex (e.trans e5)) hi' hj')) fun H6 e6 => ?_
        have M6 := M5.ex e6
        refine q_when (b := false) (et_is (et_or (et_not (et_B (ev_call (ea_cons (ev_var rfl) ea_nil) sv_isint))) fun _ => et_test (ev_op (ev_var rfl) (M6.evTg (ev_var rfl) (ev_var rfl) (ev_var rfl) hi' hj') (rv_ne rfl))) (by rw [decide_eq_true rfl]; rfl)) (fun hb => by cases hb) fun _ H7 e7 => ?_
        have M7 := M6.ex e7
        refine s_when (b := false) (et_is (et_or (et_not (et_B (ev_cb (ea_cons (ev_var rfl) (ea_cons ev_c ea_nil)) (rc_isi (b := true) (.ty _) (fun _ _ => .base (.bl _)) (kit_ty (by decide +kernel)))))) fun _ => et_test (ev_op (ev_var rfl) (M7.evMk (ev_var rfl) (ev_var rfl) (ev_var rfl) hi' hj') (rv_ne rfl))) (by rw [decide_eq_true rfl]; rfl)) (fun hb => by cases hb) fun _ H8 e8 => ⟨_, _, _, rfl, ((((e.trans e5).trans e6).trans e7).trans e8)⟩
      · rintro σ' H' ⟨u3, u4, u5, rfl, e⟩
        exact ⟨_, _, _, _, rfl, e⟩
    · rintro σ' H' ⟨u2, u3, u4, u5, rfl, e⟩
      exact s_ret ev_c fun H4 e4 => q H4 (e.trans e4)
end
section
variable {P : Program} {w : World} {K : PySem.W.Frag} {mg : Str → Option Value} {base : Heap} {C tS : Addr} {mc : Value}
abbrev sFM : Stmt := top 37
theorem scFM : FnScope ["_law_told","_law_m","_law_pair"] ["_law_told","_law_m"] (defScope sFM) := ⟨rfl, rfl, rfl, by decide +kernel, rfl, by decide +kernel, by decide +kernel⟩
theorem ok_fm {f : Addr} {fd : FuncData} (F : FnP K "_law_fits_marks" sFM f fd) (B : Bi mg) (C_law_is_int : Callee P w K mg base CX0 1 "_law_is_int" ["_law_x"] spIsInt) (C_law_pairs : Callee P w K mg base CX0 1 "_law_pairs" ["_law_m"] spPairs) : FnOk P w K mg base CX0 2 f fd ["_law_told","_law_m"] spFM := by
  refine FunD.ok0 F scFM (fun vs H Q E h => ?_) (fun cdv A outer s H vs Q E hr h => ?_)
  · obtain ⟨p, a, m, rfl, _⟩ := h
    rfl
  · obtain ⟨p, a, m, rfl, hP, M0, o, q⟩ := h
    have nd := scFM.nd
    refine ⟨_, (pss_cons (ps_if (pt_not (pt_val (pe_callB call_isi (by rfl) B.isinstance (by decide +kernel) (pa_cons (pv 0) (pa_cons (pe_bltn (v := .ty "list") (by rfl) B.list (by decide +kernel) rfl) pa_nil))))) (pss_one (ps_ret pe_bl)) pss_nil)
      (pss_cons (ps_for PassesOwn.never rfl (pi_list (pv 0)) (pg_name (i := 2) nd rfl (Or.inl rfl))
      (pss_one (ps_if (PW.pt (pw_or (pt_not (pt_val (pe_callB call_isi (by rfl) B.isinstance (by decide +kernel) (pa_cons (pv 2) (pa_cons (pe_bltn (v := .ty "tuple") (by rfl) B.tuple (by decide +kernel) rfl) pa_nil))))) (pw_or (pt_cmpR op_ne (pe_callB call_len_seq (by rfl) B.len (by decide +kernel) (pa_cons (pv 2) pa_nil)) pe_int (nomark _)) (pw_or1 (pt_not (pt_val (pe_fn C_law_is_int (hr.mono (by decide)) (by rfl) pass0 (pa_cons (pe_ix ix_tup (pv 2) pe_int (fun _ _ => rfl)) pa_nil)))))))) (pss_one (ps_ret pe_bl)) pss_nil)))
      (pss_one (ps_ret (pe_cmpR (op_eqD hr.units) (pv 0) (pe_fn C_law_pairs (hr.mono (by decide)) (by rfl) pass0 (pa_cons (pv 1) pa_nil)) (nomark _)))))), ?_⟩
    obtain ⟨xs, hx, hl, hat⟩ := hP.at_
    refine q_when (b := false) (et_is (et_not (et_B (ev_cb (ea_cons (ev_var rfl) (ea_cons ev_c ea_nil)) (rc_isi (b := true) (.ty _) (fun H1 e => .base (.lst (e _ _ hx))) (kit_ty (by decide +kernel)))))) rfl) (fun hb => by cases hb) fun _ H1 e1 => ?_
    refine q_forLn (ev_var rfl) (sq_of (e1 _ _ hx)) (fun i σ' H' => ∃ u2, σ' = [some (.ref p), some (.ref a), u2] ∧ Ex H H') (fun H2 e2 => ⟨none, rfl, e1.trans e2⟩) (fun i σ' H' _ p => ?_) ?_ ?_
    · obtain ⟨u2, rfl, e⟩ := p
      exact sq_of (e _ _ hx)
    · rintro i x σ' H' hxi ⟨u2, rfl, e⟩
      obtain ⟨t, s, c, rfl, hli, ht⟩ := hat i x hxi
      have ht' := e _ _ ht
      refine s_when (b := false) (et_is (et_or (et_not (et_B (ev_cb (ea_cons (ev_var rfl) (ea_cons ev_c ea_nil)) (rc_isi (b := true) (.ty _) (fun H1 e => .base (.tup (e _ _ ht'))) (kit_ty (by decide +kernel)))))) fun _ => et_or (et_test (ev_op (ev_cb (z := .int ((2 : Nat) : Int)) (ea_cons (ev_var rfl) ea_nil) (fun H1 e Q q => ⟨t, _, rfl, Or.inr (st_of (e _ _ ht')), q H1 (Ex.refl H1)⟩)) ev_c (rv_ne rfl)))
        fun _ => et_not (et_B (ev_call (ea_cons (ev_op (ev_var rfl) ev_c (rv_ixT (st_of ht') rfl)) ea_nil) sv_isint))) (by rfl)) (fun hb => by cases hb) fun _ H5 e5 => ⟨_, rfl, e.trans e5⟩
    · rintro σ' H' ⟨u2, rfl, e⟩
      refine s_retQ (ev_var rfl H' (Ex.refl H') _ fun H2 e2 => call_A (ea_cons (ev_var rfl) ea_nil) fun H3 e3 => ⟨a, m, rfl, M0.ex ((e.trans e2).trans e3), o, fun p2 H4 hp2 e4 hP2 => ⟨_, _, (hP.ex (((e.trans e2).trans e3).trans e4)).dp, hP2.dp, pD_shaped _ (prs_4 o), pD_shaped _ (prs_4 o), ?_⟩⟩)
      rw [SeqAt.eqv_refl _ (by simp only [PyData.canLay0]; exact pD_lay _ (prs_4 o))]
      exact q H4 (((e.trans e2).trans e3).trans e4)
end
end Nt

namespace Nt
open PySem PySem.Spec PyProof.Rows L2 Evl TL
section
variable {P : Program} {w : World} {K : PySem.W.Frag} {mg : Str → Option Value} {base : Heap} {C tS : Addr} {mc : Value}
abbrev sLaw : Stmt := top 38
theorem scLaw : FnScope N_law ["_law_script"] (defScope sLaw) := ⟨rfl, rfl, rfl, by decide +kernel, rfl, by decide +kernel, by decide +kernel⟩
theorem ok_law {f : Addr} {fd : FuncData} (F : FnP K "law" sLaw f fd) (B : Bi mg) (T : WF K mg C tS mc)
    (C_law_draws : Callee P w K mg base CX0 1 "_law_draws" ["_law_script", "_law_k", "_law_many"] (spDraws K)) (C_law_machine : Callee P w K mg base CX0 1 "_law_machine" ["_law_row","_law_top"] (spMachine K))
    (C_law_made : Callee P w K mg base CX0 4 "_law_made" ["_law_m"] (spMade C)) (C_law_word : Callee P w K mg base CX0 1 "_law_word" ["_law_row","_law_letters","_law_top"] (spWord K))
    (C_law_fits : Callee P w K mg base CX0 4 "_law_fits" ["_law_wish","_law_m"] (spFits C)) (C_law_lap : Callee P w K mg base CX0 1 "_law_lap" ["_law_m","_law_state","_law_word_here"] spLap)
    (C_law_is_int : Callee P w K mg base CX0 1 "_law_is_int" ["_law_x"] spIsInt) (C_law_fits_marks : Callee P w K mg base CX0 2 "_law_fits_marks" ["_law_told","_law_m"] spFM)
    (MR : MCallee P w K mg base CX0 1 C "reach" ["self","word"] (spReach C)) (MP : PCallee P w K mg base 1 C "marks" (spGetter C)) : FnOk P w K mg base CX0 5 f fd ["_law_script"] (spLaw K) := by
  obtain ⟨f_r, d_r, F_reach, m_reach, k_r, b_reach⟩ := MR.ex
  obtain ⟨a_p, f_p, d_p, F_marks, p_marks, b_marks⟩ := MP.ex
  refine FunD.ok0 F scLaw (fun vs H Q E h => ?_) (fun cdv A outer s H vs Q E hr h => ?_)
  · obtain ⟨a, ns, rfl, _⟩ := h
    rfl
  · obtain ⟨a, ns, rfl, hS, hl, q⟩ := h
    have nd := scLaw.nd
    refine ⟨_, (pss_cons (ps_set (i := 1) nd rfl (Or.inl rfl) (pe_fn C_law_machine (hr.mono (by decide)) (by rfl) pass0 (pa_cons (pe_fn C_law_draws (hr.mono (by decide)) (by rfl) pass0 (pa_cons (pv 0) (pa_cons pe_int (pa_cons pe_int pa_nil)))) (pa_cons pe_int pa_nil))))
      (pss_cons (ps_set (i := 2) nd rfl (Or.inl rfl) (pe_fn C_law_made (hr.mono (by decide)) (by rfl) pass0 (pa_cons (pv 1) pa_nil)))
      (pss_cons (ps_set (i := 3) nd rfl (Or.inl rfl) (pe_fn C_law_word (hr.mono (by decide)) (by rfl) pass0 (pa_cons (pe_fn C_law_draws (hr.mono (by decide)) (by rfl) pass0 (pa_cons (pv 0) (pa_cons pe_int (pa_cons pe_int pa_nil)))) (pa_cons (pe_ix ix_list (pv 1) pe_int (fun _ _ => rfl)) (pa_cons pe_int pa_nil)))))
      (pss_cons (ps_if (pt_not (pt_val (pe_fn C_law_fits (hr.mono (by decide)) (by rfl) pass0 (pa_cons (pv 2) (pa_cons (pv 1) pa_nil))))) (pss_one (ps_ret pe_bl)) pss_nil)
      (pss_cons (ps_for PassesOwn.never rfl (pi_range1 (by rfl) B.range (pa_cons (pe_op op_add (pe_callB call_len_str (by rfl) B.len (by decide +kernel) (pa_cons (pv 3) pa_nil)) pe_int) pa_nil)) (pg_name (i := 4) nd rfl (Or.inl rfl))
      (pss_cons (ps_set (i := 5) nd rfl (Or.inl rfl) (pe_meth (pv 2) T.cl m_reach F_reach (hr.mono (by decide)) b_reach .nil pass0 (pa_cons (pe_slice sl_str (pv 3) po_none (po_some (pv 4))) pa_nil)))
      (pss_one (ps_if (PW.pt (pw_or (pt_not (pt_val (pe_fn C_law_is_int (hr.mono (by decide)) (by rfl) pass0 (pa_cons (pv 5) pa_nil)))) (pw_or1 (pt_cmpR op_ne (pv 5) (pe_ix ix_list (pe_fn C_law_lap (hr.mono (by decide)) (by rfl) pass0 (pa_cons (pv 1) (pa_cons (pe_ix ix_list (pv 1) pe_int (fun _ _ => rfl)) (pa_cons (pe_slice sl_str (pv 3) po_none (po_some (pv 4))) pa_nil)))) pe_int (fun _ _ => rfl)) (nomark _))))) (pss_one (ps_ret pe_bl)) pss_nil))))
      (pss_cons (ps_set (i := 6) nd rfl (Or.inl rfl) (pe_slice sl_str (pe_op op_mulS (pe_op op_add_str (pv 3) (pe_ix ix_list (pv 1) pe_int (fun _ _ => rfl))) pe_int) po_none (po_some pe_int)))
      (pss_cons (ps_if (pt_cmpR op_ne (pe_meth (pv 2) T.cl m_reach F_reach (hr.mono (by decide)) b_reach .nil pass0 (pa_cons (pv 6) pa_nil)) (pe_ix ix_list (pe_fn C_law_lap (hr.mono (by decide)) (by rfl) pass0 (pa_cons (pv 1) (pa_cons (pe_ix ix_list (pv 1) pe_int (fun _ _ => rfl)) (pa_cons (pv 6) pa_nil)))) pe_int (fun _ _ => rfl)) (nomark _)) (pss_one (ps_ret pe_bl)) pss_nil)
      (pss_cons (ps_set (i := 7) nd rfl (Or.inl rfl) (pe_prop (pv 2) T.cl p_marks F_marks (hr.mono (by decide)) b_marks .nil pass0 rfl))
      (pss_cons (ps_if (pt_not (pt_val (pe_fn C_law_fits_marks (hr.mono (by decide)) (by rfl) pass0 (pa_cons (pv 7) (pa_cons (pv 1) pa_nil))))) (pss_one (ps_ret pe_bl)) pss_nil)
      (pss_cons (ps_expr (pe_bm PySem.F.plainAttrs_list PySem.F.slot_list_append PySem.F.type_list_append mt_append (pv 7) (pa_cons (pe_tup (pa_cons pe_int (pa_cons pe_str pa_nil))) pa_nil)))
      (pss_one (ps_ret (pe_and (pe_fn C_law_fits_marks (hr.mono (by decide)) (by rfl) pass0 (pa_cons (pe_prop (pv 2) T.cl p_marks F_marks (hr.mono (by decide)) b_marks .nil pass0 rfl) (pa_cons (pv 1) pa_nil))) (pe_one (pe_fn C_law_fits (hr.mono (by decide)) (by rfl) pass0 (pa_cons (pv 2) (pa_cons (pv 1) pa_nil))))))))))))))))), ?_⟩
    refine q_asgQ (call_go (ta_consQ (call_A (ea_cons (ev_var rfl) (ea_cons ev_c (ea_cons ev_c ea_nil))) fun H1 e1 => ⟨a, ns, 0, 51, rfl, ex_l e1 hS, hl, by omega, by omega, fun v hv => fun p H2 hp e2 h2 => ?_⟩)))
    refine (ea_cons ev_c ea_nil) H2 (Ex.refl H2) _ fun H3 e3 => ⟨p, 51, 8, v, rfl, sq_of (e3 _ _ h2), hv, by omega, by omega, by omega, fun m o _ => fun am H4 _ e4 M4 => ?_⟩
    have eH4 := ((e1.trans e2).trans e3).trans e4
    refine q_asgQ (call_A (ea_cons (ev_var rfl) ea_nil) fun H5 e5 => ⟨am, m, rfl, M4.ex e5, o, fun x dT0 dM0 H6 _ _ _ e6 Wo => ?_⟩)
    have W6 := Wo.any
    have M6 := M4.ex (e5.trans e6)
    have eH6 := eH4.trans (e5.trans e6)
    refine q_asgQ (call_go (ta_consQ (call_A (ea_cons (ev_var rfl) (ea_cons ev_c (ea_cons ev_c ea_nil))) fun H7 e7 => ⟨a, ns, 1, 41, rfl, ex_l (eH6.trans e7) hS, hl, by omega, by omega, fun v2 hv2 => fun p2 H8 _ e8 h8 => ?_⟩)))
    obtain ⟨aT, aM, rT, rM, MB⟩ := id (M6.ex (e7.trans e8))
    refine (ea_cons (MB.evL (ev_var rfl)) (ea_cons ev_c ea_nil)) H8 (Ex.refl H8) _ fun H9 e9 => ⟨p2, 41, m.many, 40, v2, rfl, sq_of (e9 _ _ h8), hv2, by omega, by omega, o.m1, o.m4, fun z zl zc => fun H10 e10 => ?_⟩
    have e610 := ((e7.trans e8).trans e9).trans e10
    have W10 := W6.ex e610
    have M10 := M6.ex e610
    have zlen : (wtx z).length ≤ 100000 := by
      rw [wtx_len]
      omega
    refine q_when (b := false) (et_is (et_not (et_B (ev_call (ea_cons (ev_var rfl) (ea_cons (ev_var rfl) ea_nil)) (sv_fits W10 M10 o)))) rfl) (fun hb => by cases hb) fun _ H11 e11 => ?_
    refine q_forR1 (n := ((z.length + 1 : Nat) : Int)) (ea_cons (ev_is (ev_op (ev_lenS (ev_var rfl) zlen) ev_c rv_0) (congrArg V.int (by rw [wtx_len]; push_cast; rfl))) ea_nil) ⟨by omega, by omega⟩
      (fun i σ' H' => ∃ u4 u5, σ' = [some (.ref a), some (.ref am), some (.ref x), some (.str (wtx z)), u4, u5, none, none] ∧ Ex H10 H') (fun H12 e12 => ⟨none, none, rfl, e11.trans e12⟩) ?_ ?_
    · rintro i σ' H' hi ⟨u4, u5, rfl, e⟩
      have W' := W10.ex e
      have M' := M10.ex e
      obtain ⟨dx, dT, dM, kT, kM, WB⟩ := id W'
      have zi : ∀ c ∈ z.take i, c < m.many := fun c hc => zc c (List.mem_of_mem_take hc)
      refine q_asg (ev_meth (ev_var rfl) WB.ins (by rfl) (ea_cons (ev_is (ev_slS (ev_var rfl) eo_none (eo_some (ev_var rfl)) zlen) (congrArg V.str (cut_wtx z i))) ea_nil) (sv_reach W' o zi)) fun H12 e12 => ?_
      have M12 := M'.ex e12
      obtain ⟨aT, aM, rT, rM, MB⟩ := id M12
      exact s_when (b := false) (et_is (et_or (et_not (et_B (ev_call (ea_cons (ev_var rfl) ea_nil) sv_isint))) fun _ => et_test (ev_op (ev_var rfl) (ev_opL1 (el_call (ea_cons (ev_var rfl) (ea_cons (MB.evS (ev_var rfl)) (ea_cons (ev_is (ev_slS (ev_var rfl) eo_none (eo_some (ev_var rfl)) zlen) (congrArg V.str (cut_wtx z i))) ea_nil))) (sl_lap M12 o o.st zi)) (fun H1 e1 => ev_c) (fun p H1 hp e1 => rv_ixL (sq_of hp) rfl)) (rv_ne rfl))) (by rw [decide_eq_true rfl]; rfl)) (fun hb => by cases hb) fun _ H13 e13 => ⟨_, _, rfl, (e.trans e12).trans e13⟩
    · rintro σ' H12 ⟨u4, u5, rfl, e⟩
      have W12 := W10.ex e
      have M12 := M10.ex e
      obtain ⟨aT, aM, rT, rM, MB⟩ := id M12
      have m1 := o.m1
      have m4 := o.m4
      have ul : (z ++ List.range m.many).length ≤ 44 := by
        rw [List.length_append, List.length_range]
        omega
      have un : z ++ List.range m.many ≠ [] := fun h => by
        have h2 := congrArg List.length h
        rw [List.length_append, List.length_range] at h2
        simp only [List.length_nil] at h2
        omega
      generalize hu : z ++ List.range m.many = u at ul un
      have uc : ∀ c ∈ u, c < m.many := fun c hc => by
        rw [← hu, List.mem_append] at hc
        exact hc.elim (zc c) fun h => List.mem_range.mp h
      refine q_asg (v := .str (wtx ((List.replicate 300 u).flatten.take 300))) (ev_is (ev_slS (z := wtx (List.replicate 300 u).flatten) (ev_is (ev_op (x := .str (wtx u)) (ev_is (ev_op (ev_var rfl) (MB.evL (ev_var rfl)) (z := .str (wtx z ++ lets m.many)) fun H1 e1 Q q => ⟨_, _, rfl, rfl, sz_of (by rw [lets_len, wtx_len]; omega), q H1 (Ex.refl H1)⟩) (congrArg V.str (by unfold lets; rw [cat_wtx, hu]))) ev_c
        (z := .str (Txt.mul (wtx u) 300)) fun H1 e1 Q q => ⟨_, _, rfl, rfl, ⟨by decide, fun _ _ => ?_, fun _ _ => ?_⟩, q H1 (Ex.refl H1)⟩) (congrArg V.str (mul_wtx u 300 (by omega) un))) eo_none (eo_some ev_c) (by rw [wtx_len, rep_len]; omega)) (congrArg V.str (cut_wtx _ 300))) fun H13 e13 => ?_
      · rw [wtx_len]
        have h0 : ((2 : Int) ^ 63 - 1) / 300 = 30744573456182586 := by decide
        rw [h0]
        omega
      · show decide ((wtx u).length * (300 : Int).toNat > sizeLine) = false
        rw [wtx_len]
        refine decide_eq_false (Nat.not_lt.mpr (sz_of ?_))
        show u.length * 300 ≤ 100000
        omega
      have yc : ∀ c ∈ (List.replicate 300 u).flatten.take 300, c < m.many := fun c hc => uc c (rep_mem 300 (List.mem_of_mem_take hc))
      generalize (List.replicate 300 u).flatten.take 300 = y at yc
      have W13 := W12.ex e13
      have M13 := M12.ex e13
      obtain ⟨dx, dT, dM, kT, kM, WB⟩ := id W13
      have MB13 := MB.ex e13
      refine q_when (b := false) (et_test (ev_is (ev_op (ev_meth (ev_var rfl) WB.ins (by rfl) (ea_cons (ev_var rfl) ea_nil) (sv_reach W13 o yc)) (ev_opL1 (el_call (ea_cons (ev_var rfl) (ea_cons (MB13.evS (ev_var rfl)) (ea_cons (ev_var rfl) ea_nil))) (sl_lap M13 o o.st yc)) (fun H1 e1 => ev_c) (fun p H1 hp e1 => rv_ixL (sq_of hp) rfl)) (rv_ne rfl)) (by rw [decide_eq_true rfl]; rfl))) (fun hb => by cases hb) fun _ H14 e14 => ?_
      have W14 := W13.ex e14
      have M14 := M13.ex e14
      refine q_asgQ ⟨_, rfl, x, dx, _, rfl, (WB.ex e14).ins, x, m, rfl, W14, o, fun pt H15 npt e15 hPt => ?_⟩
      refine q_when (b := false) (et_is (et_not (et_B (ev_call (ea_cons (ev_var rfl) (ea_cons (ev_var rfl) ea_nil)) (sv_fm hPt (M14.ex e15) o)))) rfl) (fun hb => by cases hb) fun _ H16 e16 => ?_
      have hPt16 := hPt.ex e16
      obtain ⟨xs, hx, hxl⟩ := hPt16.len
      have pl := Mac.prs_len o
      refine q_appU hx (ev_var rfl) (eu_2 ev_c ev_c) (by rw [hxl]; omega) fun t H17 _ e17 h17 => ?_
      have e1418 : Ex H14 (upd H17 pt (.lst (xs ++ [.ref t]))) := Ex.mut ((e15.trans e16).trans e17) npt
      generalize upd H17 pt (.lst (xs ++ [.ref t])) = H18 at e1418
      have W18 := W14.ex e1418
      have M18 := M14.ex e1418
      have WB18 := (WB.ex e14).ex e1418
      refine s_ret (v := .bl true) (ev_is (ev_andV (a := true) (fun H1 e Q q => call_go (ta_consQ ⟨_, rfl, x, dx, _, rfl, e _ _ WB18.ins, x, m, rfl, W18.ex e, o, fun p3 H2 _ e2 hP3 => ?_⟩)) fun _ => ev_call (ea_cons (ev_var rfl) (ea_cons (ev_var rfl) ea_nil)) (sv_fits W18 M18 o)) rfl) fun H19 e19 => q H19
      exact (ea_cons (ev_var rfl) ea_nil) H2 (Ex.refl H2) _ fun H3 e3 => ⟨p3, am, m, rfl, hP3.ex e3, M18.ex ((e.trans e2).trans e3), o, fun H4 e4 => q H4 ((e2.trans e3).trans e4)⟩
end
end Nt

namespace Nt
open PySem PySem.Spec PyProof.Rows L2
def dW (m : Str) (q : Str) (j : Nat) (dfl : List He.Dv := []) (kwd : List (Str × He.Dv) := []) : He5.DefA := ⟨fun K => He.ma K (cW K) m, m, q, defArgs (inClass (top 18) j), defBody (inClass (top 18) j), defScope (inClass (top 18) j), dfl, kwd⟩
def dP (m : Str) (q : Str) (j : Nat) : He5.DefA := ⟨fun K => He5.wf K (cW K) "property" m, m, q, defArgs (inClass (top 18) j), defBody (inClass (top 18) j), defScope (inClass (top 18) j), [], []⟩
def dC (m : Str) (q : Str) (j : Nat) : He5.DefA := ⟨fun K => He5.wf K (cW K) "classmethod" m, m, q, defArgs (inClass (top 18) j), defBody (inClass (top 18) j), defScope (inClass (top 18) j), [], []⟩
def dG (x : Str) (i : Nat) : He5.DefA := ⟨fun K => He.ga K x, x, x, defArgs (top i), defBody (top i), defScope (top i), [], []⟩
def fn : List He5.DefA := [dG "_law_draws" 29,
  dG "_law_machine" 30,
  dG "_law_pairs" 31,
  dG "_refuse_shape" 19,
  dG "_target_table" 20,
  dG "_mark_table" 21,
  dW "__init__" "Wish.__init__" 1 [.adr (He.dflAt ("Wish", some "__init__") 0)] [("start", .int 0)],
  dG "_law_made" 32,
  dG "_law_word" 33,
  dG "_law_is_int" 35,
  dW "_refuse_unknown" "Wish._refuse_unknown" 10,
  dW "__getitem__" "Wish.__getitem__" 11,
  dW "marked" "Wish.marked" 8,
  dG "_law_fits" 36,
  dG "_law_lap" 34,
  dG "_law_fits_marks" 37,
  dW "reach" "Wish.reach" 9,
  dP "marks" "Wish.marks" 5,
  dG "law" 38]
def fa : List He.Fa := [.glo "law", .glo "Wish", .cls "Wish", .mkr "Wish", .glo "LETTER_SETS", .noat "Wish" "letters", .noat "Wish" "size", .noat "Wish" "start", .noat "Wish" "_targets", .noat "Wish" "_marks", .free "len", .free "int", .free "range", .free "abs", .free "min", .free "sorted", .free "list", .free "isinstance", .free "enumerate", .free "zip", .free "bool", .free "str", .free "tuple", .glo "_law_draws", .glo "_law_machine", .glo "_law_pairs", .glo "_refuse_shape", .glo "_target_table", .glo "_mark_table", .glo "_law_made", .glo "_law_word", .glo "_law_is_int", .meth "Wish" "_refuse_unknown", .meth "Wish" "__getitem__", .meth "Wish" "marked", .glo "_law_fits", .glo "_law_lap", .glo "_law_fits_marks", .meth "Wish" "reach"]
def ex1 : PySem.W.Frag → Bool := wishX [("_refuse_unknown" : Str), ("__getitem__" : Str), ("marked" : Str), ("reach" : Str)]
def ex : PySem.W.Frag → Bool := ex1
def lo0 : List Str := [("__name__" : Str), ("NotelessError" : Str), ("InvalidText" : Str), ("InvalidWish" : Str), ("UnknownStep" : Str), ("UnknownLetter" : Str), ("InvalidLasso" : Str), ("LettersDiffer" : Str), ("TooLarge" : Str), ("refuse_other_letters" : Str), ("parting" : Str), ("parting_from" : Str)]
def lo1 : List Str := [("winning_loop" : Str), ("words_from" : Str), ("LETTER_SETS" : Str), ("DIGITS" : Str), ("Wish" : Str), ("_refuse_shape" : Str), ("_target_table" : Str), ("_mark_table" : Str), ("_joined" : Str), ("_joint_step" : Str), ("_parts_of_text" : Str), ("_behind" : Str)]
def lo2 : List Str := [("_is_row" : Str), ("_names_state" : Str), ("_law_draws" : Str), ("_law_machine" : Str), ("_law_pairs" : Str), ("_law_made" : Str), ("_law_word" : Str), ("_law_lap" : Str), ("_law_is_int" : Str), ("_law_fits" : Str), ("_law_fits_marks" : Str)]
def lo : List Str := lo0 ++ lo1 ++ lo2
abbrev R : PySem.W.OpenRow := PySem.W.OpenLaw.row PySem.Challenge.rw_noteless_k01_words_lead_to_states
abbrev hk : PySem.W.Hook := hookX 8 fa fn ex
def ob (s : PySem.W.SharedT) : He.AlD × Bool := obsXG 8 fa fn ex (HandSHeadRun.getT s)
theorem ob_eq (s : PySem.W.SharedT) : ob s = hk.obs s.abs := obsXG_eq (HandSHeadRun.getT_eq s)
theorem run (w : World) : HandSHeadRun.RunEq R (PySem.W.view R.prog [38]) hk ob 6000 lo w := by
  intro os
  kernel_rfl
theorem facts {P : Program} {w : World} {K : PySem.W.Frag} {h : Heap} {mg : Str → Option Value} {f : Addr} (X : K.In h) (G : h.Ns mainGlobals mg) (hfa : mg ("law" : Str) = some (.ref f)) (c0 : SaysX fa fn ex K) :
    ∃ fd : FuncData, (∀ (s : Shared) (v : Value), BindsTo s fd ⟨[v], []⟩ [("_law_script", v)]) ∧ ∀ base : Heap, K.In base → base.Ns mainGlobals mg → FnOk P w K mg base CX0 5 f fd ["_law_script"] (spLaw K) := by
  have c := c0.d
  obtain ⟨x1, x2⟩ := He.ba c0.e
  obtain ⟨x2, x3⟩ := He.ba x2
  obtain ⟨hcr, hmost, hsets⟩ := wishB_ok x1
  have hprop := propB_ok x2
  have hfn : ∀ m : Str, m ∈ ([("_refuse_unknown" : Str), ("__getitem__" : Str), ("marked" : Str), ("reach" : Str)] : List Str) → PySem.W.fnIn K (He.ma K (cW K) m) = true := fun m hm => List.all_eq_true.mp x3 m hm
  have g : ∀ (i : Nat) {x : Str}, fa[i]? = some (.glo x) → mg x = some (.ref (He.ga K x)) := fun i x hi => He.glo_ok X G (c.fact i hi)
  have fr : ∀ (i : Nat) {x : Str}, fa[i]? = some (.free x) → mg x = none := fun i x hi => He.free_ok X G (c.fact i hi)
  have B : Bi mg := ⟨fr 10 rfl, fr 11 rfl, fr 12 rfl, fr 13 rfl, fr 14 rfl, fr 15 rfl, fr 16 rfl, fr 17 rfl, fr 18 rfl, fr 19 rfl, fr 20 rfl, fr 21 rfl, fr 22 rfl⟩
  have T : WF K mg (cW K) (He.ga K "LETTER_SETS") (.type "type") := ⟨He.cls_ok (c.fact 2 (f := .cls "Wish") rfl), g 1 rfl, He.noat_ok (c.fact 5 (f := .noat "Wish" "letters") rfl), He.noat_ok (c.fact 6 (f := .noat "Wish" "size") rfl), He.noat_ok (c.fact 7 (f := .noat "Wish" "start") rfl), He.noat_ok (c.fact 8 (f := .noat "Wish" "_targets") rfl), He.noat_ok (c.fact 9 (f := .noat "Wish" "_marks") rfl), g 4 rfl, hsets, hcr, hmost⟩
  obtain ⟨d_law_draws, F_law_draws⟩ := c.def_ 0 (d := dG "_law_draws" 29) rfl
  obtain ⟨d_law_machine, F_law_machine⟩ := c.def_ 1 (d := dG "_law_machine" 30) rfl
  obtain ⟨d_law_pairs, F_law_pairs⟩ := c.def_ 2 (d := dG "_law_pairs" 31) rfl
  obtain ⟨d_refuse_shape, F_refuse_shape⟩ := c.def_ 3 (d := dG "_refuse_shape" 19) rfl
  obtain ⟨d_target_table, F_target_table⟩ := c.def_ 4 (d := dG "_target_table" 20) rfl
  obtain ⟨d_mark_table, F_mark_table⟩ := c.def_ 5 (d := dG "_mark_table" 21) rfl
  obtain ⟨d_init, F_init⟩ := c.def_ 6 (d := dW "__init__" "Wish.__init__" 1 [.adr (He.dflAt ("Wish", some "__init__") 0)] [("start", .int 0)]) rfl
  obtain ⟨d_law_made, F_law_made⟩ := c.def_ 7 (d := dG "_law_made" 32) rfl
  obtain ⟨d_law_word, F_law_word⟩ := c.def_ 8 (d := dG "_law_word" 33) rfl
  obtain ⟨d_law_is_int, F_law_is_int⟩ := c.def_ 9 (d := dG "_law_is_int" 35) rfl
  obtain ⟨d_refuse_unknown, F_refuse_unknown⟩ := c.def_ 10 (d := dW "_refuse_unknown" "Wish._refuse_unknown" 10) rfl
  obtain ⟨d_getitem, F_getitem⟩ := c.def_ 11 (d := dW "__getitem__" "Wish.__getitem__" 11) rfl
  obtain ⟨d_marked, F_marked⟩ := c.def_ 12 (d := dW "marked" "Wish.marked" 8) rfl
  obtain ⟨d_law_fits, F_law_fits⟩ := c.def_ 13 (d := dG "_law_fits" 36) rfl
  obtain ⟨d_law_lap, F_law_lap⟩ := c.def_ 14 (d := dG "_law_lap" 34) rfl
  obtain ⟨d_law_fits_marks, F_law_fits_marks⟩ := c.def_ 15 (d := dG "_law_fits_marks" 37) rfl
  obtain ⟨d_reach, F_reach⟩ := c.def_ 16 (d := dW "reach" "Wish.reach" 9) rfl
  obtain ⟨d_marks, F_marks⟩ := c.def_ 17 (d := dP "marks" "Wish.marks" 5) rfl
  obtain ⟨d_law, F_law⟩ := c.def_ 18 (d := dG "law" 38) rfl
  have e := hfa.symm.trans (g 0 rfl)
  cases e
  have bL := FunD.bindsA (ps := ["_law_script"]) F_law fun _ _ _ _ _ _ us hl => match us, hl with | [_], _ => rfl
  refine ⟨d_law, fun s v => bL s [v] rfl, fun base _ _ => ?_⟩
  have C_law_draws : Callee P w K mg base CX0 1 "_law_draws" ["_law_script","_law_k","_law_many"] (spDraws K) := ⟨_, _, ok_draws F_law_draws B, g 23 rfl, F_law_draws.kp, F_law_draws.bindsN fun _ _ _ _ _ _ us hl => match us, hl with | [_, _, _], _ => rfl⟩
  have C_law_machine : Callee P w K mg base CX0 1 "_law_machine" ["_law_row","_law_top"] (spMachine K) := ⟨_, _, ok_machine F_law_machine B, g 24 rfl, F_law_machine.kp, F_law_machine.bindsN fun _ _ _ _ _ _ us hl => match us, hl with | [_, _], _ => rfl⟩
  have C_law_pairs : Callee P w K mg base CX0 1 "_law_pairs" ["_law_m"] spPairs := ⟨_, _, ok_pairs F_law_pairs B, g 25 rfl, F_law_pairs.kp, F_law_pairs.bindsN fun _ _ _ _ _ _ us hl => match us, hl with | [_], _ => rfl⟩
  have C_refuse_shape : Callee P w K mg base CX0 1 "_refuse_shape" ["letters","targets","start"] spShape := ⟨_, _, ok_shape F_refuse_shape B T, g 26 rfl, F_refuse_shape.kp, F_refuse_shape.bindsN fun _ _ _ _ _ _ us hl => match us, hl with | [_, _, _], _ => rfl⟩
  have C_target_table : Callee P w K mg base CX0 1 "_target_table" ["letters","targets"] spTable := ⟨_, _, ok_table F_target_table B, g 27 rfl, F_target_table.kp, F_target_table.bindsN fun _ _ _ _ _ _ us hl => match us, hl with | [_, _], _ => rfl⟩
  have C_mark_table : Callee P w K mg base CX0 1 "_mark_table" ["pairs","table"] spMarkT := ⟨_, _, ok_markT F_mark_table B, g 28 rfl, F_mark_table.kp, F_mark_table.bindsN fun _ _ _ _ _ _ us hl => match us, hl with | [_, _], _ => rfl⟩
  have I_init : Making P w K mg base 2 (cW K) := by
    obtain ⟨its, mv, hb⟩ := FunD.kbinds (ps := N_init) F_init 4 ["start"] [] (fun us _ _ ws => us ++ ws) (List.cons_ne_nil _ _) (List.cons_ne_nil _ _) (fun _ hq => nomatch hq) (fun r1 _ _ r4 => r1.append r4) (fun T D doc pm an cdv ct us its mv ws h1 h2 h3 h4 => match us, its, ws, h1, h2, h4 with | [_, _, _, _], [_], [_], _, _, _ => ⟨_, rfl, rfl⟩)
    exact ⟨_, _, _, ok_init F_init B T C_refuse_shape C_target_table C_mark_table, He.mkr_ok (c.fact 3 (f := .mkr "Wish") rfl), hb⟩
  have C_law_made : Callee P w K mg base CX0 4 "_law_made" ["_law_m"] (spMade (cW K)) := ⟨_, _, ok_made F_law_made B T I_init C_law_pairs, g 29 rfl, F_law_made.kp, F_law_made.bindsN fun _ _ _ _ _ _ us hl => match us, hl with | [_], _ => rfl⟩
  have C_law_word : Callee P w K mg base CX0 1 "_law_word" ["_law_row","_law_letters","_law_top"] (spWord K) := ⟨_, _, ok_word F_law_word B, g 30 rfl, F_law_word.kp, F_law_word.bindsN fun _ _ _ _ _ _ us hl => match us, hl with | [_, _, _], _ => rfl⟩
  have C_law_is_int : Callee P w K mg base CX0 1 "_law_is_int" ["_law_x"] spIsInt := ⟨_, _, ok_isint F_law_is_int B, g 31 rfl, F_law_is_int.kp, F_law_is_int.bindsN fun _ _ _ _ _ _ us hl => match us, hl with | [_], _ => rfl⟩
  have M_refuse_unknown : MCallee P w K mg base CX0 1 (cW K) "_refuse_unknown" ["self","state","letter"] (spUnk (cW K)) := ⟨_, _, ok_unk F_refuse_unknown B T, He.meth_ok (c.fact 32 (f := .meth "Wish" "_refuse_unknown") rfl), hfn _ (by simp), F_refuse_unknown.bindsN fun _ _ _ _ _ _ us hl => match us, hl with | [_, _, _], _ => rfl⟩
  have M_getitem : MCallee P w K mg base CX0 2 (cW K) "__getitem__" ["self","at"] (spGet (cW K)) := ⟨_, _, ok_get F_getitem B T M_refuse_unknown, He.meth_ok (c.fact 33 (f := .meth "Wish" "__getitem__") rfl), hfn _ (by simp), F_getitem.bindsN fun _ _ _ _ _ _ us hl => match us, hl with | [_, _], _ => rfl⟩
  have M_marked : MCallee P w K mg base CX0 2 (cW K) "marked" ["self","state","letter"] (spMarked (cW K)) := ⟨_, _, ok_marked F_marked B T M_refuse_unknown, He.meth_ok (c.fact 34 (f := .meth "Wish" "marked") rfl), hfn _ (by simp), F_marked.bindsN fun _ _ _ _ _ _ us hl => match us, hl with | [_, _, _], _ => rfl⟩
  have C_law_fits : Callee P w K mg base CX0 4 "_law_fits" ["_law_wish","_law_m"] (spFits (cW K)) := ⟨_, _, ok_fits F_law_fits B T C_law_is_int M_getitem M_marked, g 35 rfl, F_law_fits.kp, F_law_fits.bindsN fun _ _ _ _ _ _ us hl => match us, hl with | [_, _], _ => rfl⟩
  have C_law_lap : Callee P w K mg base CX0 1 "_law_lap" ["_law_m","_law_state","_law_word_here"] spLap := ⟨_, _, ok_lap F_law_lap B, g 36 rfl, F_law_lap.kp, F_law_lap.bindsN fun _ _ _ _ _ _ us hl => match us, hl with | [_, _, _], _ => rfl⟩
  have C_law_fits_marks : Callee P w K mg base CX0 2 "_law_fits_marks" ["_law_told","_law_m"] spFM := ⟨_, _, ok_fm F_law_fits_marks B C_law_is_int C_law_pairs, g 37 rfl, F_law_fits_marks.kp, F_law_fits_marks.bindsN fun _ _ _ _ _ _ us hl => match us, hl with | [_, _], _ => rfl⟩
  have M_reach : MCallee P w K mg base CX0 1 (cW K) "reach" ["self","word"] (spReach (cW K)) := ⟨_, _, ok_reach F_reach B T, He.meth_ok (c.fact 38 (f := .meth "Wish" "reach") rfl), hfn _ (by simp), F_reach.bindsN fun _ _ _ _ _ _ us hl => match us, hl with | [_, _], _ => rfl⟩
  have P_marks : PCallee P w K mg base 1 (cW K) "marks" (spGetter (cW K)) := ⟨_, _, _, ok_getter F_marks B T, hprop, F_marks.bindsN fun _ _ _ _ _ _ us hl => match us, hl with | [_], _ => rfl⟩
  exact ok_law F_law B T C_law_draws C_law_machine C_law_made C_law_word C_law_fits C_law_lap C_law_is_int C_law_fits_marks M_reach P_marks
end Nt
open PySem PySem.W PySem.Calls PyProof.Rows
theorem PySem.Challenge.cw_noteless_k01_words_lead_to_states_holds : PySem.Challenge.rw_noteless_k01_words_lead_to_states.Holds := by
  w_on; o_law
  refine HandSHeadRun.head_any (r := OpenLaw.row PySem.Challenge.rw_noteless_k01_words_lead_to_states) (q := view (OpenLaw.row PySem.Challenge.rw_noteless_k01_words_lead_to_states).prog [38]) (H := Nt.hk) (ob := Nt.ob) (M := 6000) (loose := Nt.lo) (d := HandSHeadRun.topDef (OpenLaw.row PySem.Challenge.rw_noteless_k01_words_lead_to_states).prog 38) (kwd := []) Nt.ob_eq
    (by kernel_rfl) (fun s => by kernel_rfl) Nt.run (by kernel_rfl) (by kernel_rfl) (by kernel_rfl) (by rfl) (by first | assumption | decide +kernel) (by decide +kernel) ⟨rfl, rfl, rfl, rfl, rfl, by decide +kernel⟩ ?hw ?hc
  case hw => w_witness2
  case hc =>
    refine L2.walk_ofE (l := PySem.Challenge.rw_noteless_k01_words_lead_to_states) (n := 63) (k := 5) (x := "_law_script") (CX := L2.CX0) rfl (by decide) (by kernel_rfl) ⟨rfl, by decide, by decide⟩ ?F (fun _ _ _ _ z => z)
    intro w mg fa h Y G hmg0
    obtain ⟨K, KX, c⟩ := Y
    have hmg : mg ("law" : PySem.Str) = some (.ref fa) := by
      have e : (HandSHeadRun.topDef (OpenLaw.row PySem.Challenge.rw_noteless_k01_words_lead_to_states).prog 38).name = ("law" : PySem.Str) := by kernel_rfl
      rw [← e]
      exact hmg0
    obtain ⟨fd, hb, hF⟩ := Nt.facts (P := (PySem.Challenge.rw_noteless_k01_words_lead_to_states).prog) (w := w) KX G hmg c
    exact ⟨K, fd, Nt.spLaw K, KX, hb, fun H a ns hl _ hS => ⟨a, ns, rfl, hS, hl, fun _ => rfl⟩, hF⟩

