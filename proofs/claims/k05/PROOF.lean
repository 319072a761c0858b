import PyProof.Rows.All
import Wide.All
import OpenK.AllK
import Wide.FinOn
import PyProof.EqAt
import PyProof.EqKinds
import PyProof.TupleCall
import HandS.Base
import HandS.Call
import HandS.List
import HandS.Ends
import HandS.Exc
import HandS.ExcOwn
import HandS.ExcInit
import HandS.Lambda
import HandS.ExcField
import HandS.ExcIs
import HandS.IsInst
import HandS.EndTab
import HandS.Words
import HandS.WordsList
import HandS.WordsExc
import HandS.ClsMeth
import HandS.Wide
import HandS.Conv
import HandS.LawCells
import HandS.MakeKw
import HandS.MakeKwOnly
import KE.KCallOwn
import HandS.SlotsOwn
import HandS.FStr
import PySem.Challenge.RW_freetakes_k05_rules_alike
set_option Elab.async false
set_option linter.all false
set_option maxRecDepth 100000
set_option maxHeartbeats 2000000
/-! Own layer, first part: repr of data; defs that are called where no repr is under way. -/
namespace Fz
open PySem PySem.Spec PyProof.Rows L2

/-! ### repr of lists and tuples of data -/
structure rRepD (K : PySem.W.Frag) (vs : List V) (H : Hp) (Q : VK) : Prop where
  ex : ∃ (p : Addr) (dat : PyData), vs = [.ref p] ∧ Dp K H (.ref p) dat ∧ dat.showable = true ∧ dat.hasDict = false ∧ dat.depth ≤ 60 ∧ dat.shown.length ≤ sizeLine ∧ Q (.str dat.shown) H
theorem call_repD {X : Cx} (clear : X.A.guards = some []) (room : X.A.units + 64 < cLine) : CallR X (.builtin "repr") (rRepD X.K) := by
  intro pins s σ H vs us Q I rvs hyp
  obtain ⟨p, dat, rfl, hdat, hshow, hno, hdeep, hfit, fin⟩ := hyp.ex
  obtain ⟨u, rfl, ru⟩ := vals1 rvs
  cases ru
  obtain ⟨seen, reads⟩ := Dp.reads I dat (.ref p) (.ref p) hdat rfl
  refine repr_of_reads' reads hshow (fun bad => ?_) clear (by omega) (fun _ _ same => same) (fun heap' tok toks kept => ?_) hfit
  · rw [hno] at bad
    cases bad
  · exact ⟨.str dat.shown, H, I.kept kept, ⟨_, rfl⟩, fin⟩

/-! ### defs that are called where no repr is under way -/
structure FnG (P : Program) (w : World) (K : PySem.W.Frag) (mg : Str → Option Value) (base : Heap) (CX : CXT) (k : Nat) (f : Addr) (fd : FuncData) (ps : List Str) (sp : Sp) : Prop where
  len : ∀ vs H Q E, sp vs H Q E → vs.length = ps.length
  run : ∀ (A : Around) (outer : List Env) (s : Shared) (H : Hp) (args : Args) (us : List Value) (vs : List V) (Q : VK) (E : XK), Room k A → A.guards = some [] → Env0 P w K mg base A outer s H →
    BindsTo s fd args (ps.zip us) → Vals vs us → sp vs H Q E → codeAny (model P w) A (.call (.ref f) args) (CR CX outer P w H s Q E) s
section
variable {P : Program} {w : World} {K : PySem.W.Frag} {mg : Str → Option Value} {base : Heap} {CX : CXT} {k : Nat} {f : Addr} {fd : FuncData} {ps : List Str} {sp : Sp}
theorem FnG.of (F : FnOk P w K mg base CX k f fd ps sp) : FnG P w K mg base CX k f fd ps sp :=
  ⟨F.len, fun A outer s H args us vs Q E room _ => F.run A outer s H args us vs Q E room⟩
/-- the rule for such a def -/
theorem fnG_of {name qual : Str} {params : Arguments} {body : List Stmt} {scope : Scope} {dV kV doc pm cdv ct oc : Value} {an od : Option Addr} {osl : Array (Option Value)} {N : List Str}
    (lk : K.lookup f = some ⟨oc, od, .func (PySem.W.fnOf name qual params body scope dV kV doc pm an cdv ct), osl⟩) (code : PySem.W.codeIn K cdv qual = true) (S : FnScope N ps scope) (len : ∀ vs H Q E, sp vs H Q E → vs.length = ps.length)
    (walk : ∀ (A : Around) (outer : List Env) (s : Shared) (H : Hp) (vs : List V) (Q : VK) (E : XK), Room k (A.deeper (envOfC qual scope s.heap.objs.size f cdv)) → A.guards = some [] → sp vs H Q E →
      ∃ t, PSs (cxOf CX P w K mg base N qual scope f cdv A outer s H E) body t ∧ t { nx := fun _ H' => Q .non H', rt := Q } (start N vs) H) :
    FnG P w K mg base CX (k + 1) f (PySem.W.fnOf name qual params body scope dV kV doc pm an cdv ct) ps sp :=
  ⟨len, fun A outer s H args us vs Q E room clear at0 binds rvs hyp => LamX.run_ofS lk code S room at0 binds rvs (len _ _ _ _ hyp) fun room' => walk A outer s H vs Q E room' clear hyp⟩
end
section
variable {X : Cx} {CX : CXT} {k : Nat} {f : Addr} {fd : FuncData} {ps : List Str} {sp : Sp} {dvs : List V} {ds : List Value} {E : XK} {x : Str} {p pos : Pos} {e : Expr} {es : List Expr} {t : TA}
theorem run_fnG {pins : List (Addr × Obj)} {σ : L2.St} {H : Hp} {s : Shared} {Q : VK} {us : List Value} {vs : List V} (F : FnG X.prog X.w X.K X.mg X.base CX k f fd ps sp) (room : Room k X.A) (clear : X.A.guards = some []) (binds : L2.Binds X.K fd ps ds) (rd : Vals dvs ds)
    (pass : Passes CX X E) (I : Inv X pins σ H s) (rvs : Vals vs us) (hyp : sp (vs ++ dvs) H Q E) : wpAny (model X.prog X.w) X.A (call (.ref f) us) (EP X pins σ Q) X.xe s := by
  have rall : Vals (vs ++ dvs) (us ++ ds) := rvs.append rd
  have many : (us ++ ds).length = ps.length := rall.length.symm.trans (F.len _ _ _ _ hyp)
  refine wpAny_call (codeAny_mono (F.run X.A X.stack s H ⟨us, []⟩ (us ++ ds) (vs ++ dvs) Q E room clear I.env0 (binds s us I.kIn many) rall hyp) fun res s' got => ?_)
  match res, got with
  | .error e, got => exact pass pins σ H s e s' I got
  | .ok (.ret u), got => exact I.after got
  | .ok .next, got => exact got.elim
  | .ok .brk, got => exact got.elim
  | .ok .cont, got => exact got.elim
theorem pe_callG (F : FnG X.prog X.w X.K X.mg X.base CX k f fd ps sp) (room : Room k X.A) (clear : X.A.guards = some []) (glob : Gl X x) (at_ : X.mg x = some (.ref f)) (keep : PySem.W.keepIn X.K (.ref f) = true) (binds : L2.Binds X.K fd ps ds) (rd : Vals dvs ds) (pass : Passes CX X E)
    (ha : PA X (e :: es) t) (ndb : (x == ("__debug__" : Str)) = false := by decide) (star : starEach (e :: es) X.env = (false, eval e X.env) :: starEach es X.env := by rfl) (plain : (backTo pos (starEach es X.env)).any (·.1) = false := by rfl) :
    PE X (.Call (.Name x p) (e :: es) [] pos) (tCall sp dvs E t) :=
  ⟨fun pins s σ H Q I hyp => wpAny_Call_Name_kw (ld_glob I glob at_ (PySem.W.callWith_K (h₀ := X.base) I.ok.mod.kin keep
    (thn (ha.run pos pins s σ H _ I hyp) fun us s1 ⟨vs, H1, I1, rvs, fin⟩ => ⟨I1.kIn, run_fnG F room clear binds rd pass I1 rvs fin⟩) star plain) ndb)⟩
end
end Fz

set_option Elab.async false
set_option linter.all false
set_option maxRecDepth 100000
set_option maxHeartbeats 4000000
/-! Own layer, second part: a caught error of an own class that a name keeps behind the except suite: it is tracked. -/
namespace Fz
open PySem PySem.Spec PyProof.Rows L2

/-- at p: an error of the class cls, its fields' dict at d -/
def Err (cls : Value) (d : Option Addr) (p : Addr) : HO := .ext fun h => ∃ (ob : Obj) (slots : Array Value), h.get? p = some ob ∧ Zc cls d ob ∧ ob.data = .fields slots
theorem Err.made {P : Program} {w : World} {H : Hp} {h : Heap} {p : Addr} {cls : Value} {d : Option Addr} {ob : Obj} {slots : Array Value} (at_ : h.get? p = some ob) (z : Zc cls d ob) (dat : ob.data = .fields slots) : ObjOk P w H h p (Err cls d p) :=
  ⟨⟨ob, slots, at_, z, dat⟩, ⟨ob, at_⟩, fun _ _ ⟨ob', slots', q, r⟩ stay => ⟨ob', slots', stay ob' q, r⟩⟩
theorem Err.at_ {P : Program} {w : World} {H : Hp} {h : Heap} {p : Addr} {cls : Value} {d : Option Addr} (ok : HOk P w H h) (here : H p = some (Err cls d p)) : ∃ (ob : Obj) (slots : Array Value), h.get? p = some ob ∧ Zc cls d ob ∧ ob.data = .fields slots :=
  (show ObjOk P w H h p (.ext _) from ok p _ here).1

section
variable {X : Cx} {pins : List (Addr × Obj)} {σ : L2.St} {H : Hp} {s : Shared}
/-- an object that came to be since the entry is tracked from now on -/
theorem track {p : Addr} {o : HO} (I : Inv X pins σ H s) (un : H p = none) (new : ObjOk X.prog X.w (upd H p o) s.heap p o) (late : ∀ b u, X.s_0.heap.get? b = some u → b ≠ p) (noFrame : p ≠ X.env.locals)
    (noCell : ∀ x c, X.env.cells.lookup x = some c → c ≠ p) (noPin : ∀ q ∈ X.pn ++ pins, q.1 ≠ p) : Inv X pins σ (upd H p o) s := by
  have other : ∀ {b u}, H b = some u → b ≠ p := fun {b u} q => ne_of_none q un
  refine ⟨I.ok, I.os, I.bare, ⟨I.base.keep, I.base.slot, fun b u q n hx => ?_, I.base.there, fun b vs q => ?_, fun b u v q => ?_, fun b vs q => ?_⟩, I.loc, I.cell, ?_, fun x c q => ?_, fun q hq => ?_, fun b u q => ?_, I.len⟩
  · rw [upd_ne (late b u q)]
    exact I.base.free b u q n hx
  · have z := I.base.tups b vs q
    rw [upd_ne (other z)]
    exact z
  · have z := I.base.frzs b u v q
    rw [upd_ne (other z)]
    exact z
  · obtain ⟨more, z⟩ := I.base.tbls b vs q
    exact ⟨more, by rw [upd_ne (other z)]; exact z⟩
  · rw [upd_ne (Ne.symm noFrame)]
    exact I.free
  · rw [upd_ne (noCell x c q)]
    exact I.freeC x c q
  · obtain ⟨z1, z2, z3, z4, z5⟩ := I.pin q hq
    exact ⟨z1, by rw [upd_ne (noPin q hq)]; exact z2, z3, z4, z5⟩
  · by_cases hb : b = p
    · subst hb
      rw [upd_same] at q
      cases q
      exact new
    · rw [upd_ne hb] at q
      refine (I.hok b u q).stay (fun c v _ r => r) (fun c r => ?_) fun c vs r => ?_
      · rw [upd_ne (other r)]
        exact r
      · rw [upd_ne (other r)]
        exact r
/-- into an except suite, and out of it, the error tracked -/
theorem intoSuite (I : Inv X pins σ H s) (p : Addr) : Inv (X.suite p (X.pn ++ pins)) [] σ H s :=
  ⟨I.ok.suite p (X.pn ++ pins), I.os, I.bare, I.base, I.loc, I.cell, I.free, I.freeC, fun q hq => I.pin q (by simpa using hq), I.hok, I.len⟩
theorem outOfSuite {p : Addr} {more : List (Addr × Obj)} (I : Inv (X.suite p (X.pn ++ pins)) more σ H s) (ok : X.Ok) : Inv X pins σ H s :=
  ⟨ok, I.os, I.bare, I.base, I.loc, I.cell, I.free, I.freeC, fun q hq => I.pin q (List.mem_append_left more hq), I.hok, I.len⟩
end

/-- what the clause «except x as n» wishes: in its suite, and from then on, the error is tracked at p -/
def wErr (K : PySem.W.Frag) (N : List Str) (c : Value) (i : Nat) (ts : Addr → Value → Option Addr → TS) (Wout : WX) (D : Ends) : WX := fun cls d σ H => ∃ hit, PySem.W.exmOne K cls c = some hit ∧
  (hit = true → σ.length = N.length → ∀ p, H p = none → ts p cls d { nx := fun σ' H' => D.nx (σ'.set i none) H', rt := D.rt, bk := fun σ' H' => D.bk (σ'.set i none) H', ct := fun σ' H' => D.ct (σ'.set i none) H' } (σ.set i (some (.ref p))) (upd H p (Err cls d p))) ∧
  (hit = false → Wout cls d σ H)
section
variable {X : Cx} {x n : Str} {c : Value} {i : Nat} {body rest : List Stmt} {first : Stmt} {np pos pos' : Pos} {tb : WX → TS} {ts : Addr → Value → Option Addr → TS} {Wout : WX}
theorem ps_tryErr (stk : X.stack = X.env :: X.outer) (frm : X.env.frame = some X.env.locals) (noex : X.ex = []) (nd : X.N.Nodup) (slot : X.N[i]? = some n) (isLocal : X.env.kindOf n = some .local) (named : Names X x c) (out : Takes X Wout)
    (hbody : ∀ (W : WX) (pn : List (Addr × Obj)) (xe : Value → Shared → Prop), Takes (X.tr pn xe) W → PassesOwn (model X.prog X.w) X.A X.env xe → PSs (X.tr pn xe) body (tb W))
    (hsuite : ∀ (p : Addr) (cls : Value) (d : Option Addr) (pn : List (Addr × Obj)), PSs (X.suite p pn) (first :: rest) (ts p cls d)) :
    PS X (.Try body [.ExceptHandler (some (.Name x np)) (some n) (first :: rest) pos'] [] [] pos) (fun D σ H => tb (wErr X.K X.N c i ts Wout D) D σ H) := by
  refine ⟨fun pins s σ H D I hyp => wpAny_Try_except ?_⟩
  have okX := I.ok
  have frames : X.A.frames = some (X.env :: X.outer) := okX.frames.trans (congrArg some stk)
  refine wpAny_mono ((hbody (wErr X.K X.N c i ts Wout D) (X.pn ++ pins) (fun err s₁ => wpAny (model X.prog X.w) X.A (noteFrame err X.env) (fun _ s₂ => wpAny (model X.prog X.w) X.A (setFlight err none) (fun _ s₃ =>
    wpAny (model X.prog X.w) X.A (handleBy err X.env [.ExceptHandler (some (.Name x np)) (some n) (first :: rest) pos']) (SP X pins D) X.xe s₃) X.xe s₂) X.xe s₁) (fun err s' air => ?_) PassesOwn.looking).run [] s σ H D (I.toTry _) hyp) (fun flow s' done => ?_) (fun _ _ z => z)
  · -- an error comes
    obtain ⟨p, B, ground, pins', σ', H', cls, d, rfl, Jt, below, upto, sky, un, sameOs, bare, hit, test, yes, no⟩ := air
    have J : Inv X pins σ' H' ground := Jt.ofTry okX
    rw [stk] at sky
    show wpAny (model X.prog X.w) X.A (noteFrame (.ref p) X.env) _ _ _
    refine Sky.land Zc.steady frames frm sky fun h1 fly1 upto1 => ?_
    have J1 : Inv X pins σ' H' { s' with heap := h1 } := J.landed below fly1.1 (upto.trans upto1) sameOs bare
    obtain ⟨ob1, sl1, get1, z1, dat1⟩ := fly1.there
    -- p is no frame's own address
    have noFrame : p ∉ frs (X.env :: X.outer) := fun hm => by
      obtain ⟨_, ob', get', nofields⟩ := fly1.2.2.1.mem hm
      have same : ob1 = ob' := Option.some.inj (get1.symm.trans get')
      exact nofields sl1 (same ▸ dat1)
    have notOwn : p ≠ X.env.locals := fun z => noFrame (List.mem_filterMap.mpr ⟨X.env, List.mem_cons_self, by rw [frm, z]⟩)
    -- p came to be behind the entry
    have fresh0 : ∀ b u, ground.heap.get? b = some u → b ≠ p := fun b u q z => by
      have z2 := below b u q (by rw [stk, z]; exact noFrame)
      rw [z, fly1.2.1] at z2
      cases z2
    have fresh : ∀ b u, X.s_0.heap.get? b = some u → b ≠ p := fun b u q => by
      obtain ⟨u', q'⟩ := J.base.there b u q (by rw [noex]; exact fun z => nomatch z)
      exact fresh0 b u' q'
    have noPin : ∀ q ∈ X.pn ++ pins, q.1 ≠ p := fun q hq => fresh0 q.1 q.2 (J.pin q hq).1
    have noCell : ∀ y k, X.env.cells.lookup y = some k → k ≠ p := fun y k q => by
      obtain ⟨v, ob', get', _⟩ := J.cell y k q
      exact fresh0 k ob' get'
    -- the clause's class is named and asked
    refine wpAny_handleBy_cons (codeAny_handlers_test ?_) (by intro z; cases z)
    have tyP : PySem.W.Looks (model X.prog X.w) h1 (typeOf (.ref p)) cls := fun A Q E s k q => wpAny_typeOf_ref (k _ _ get1) (by rw [z1.1]; exact q)
    have ask := PySem.W.exm_one (M := model X.prog X.w) J1.kIn tyP test
    have inside := intoSuite J1 p
    have loaded : ∀ {Q : Value → Shared → Prop} {E : Value → Shared → Prop}, Q c { s' with heap := h1 } → wpAny (model X.prog X.w) (X.A.mark (some (.ref p))) (eval (.Name x np) X.env) Q E { s' with heap := h1 } := fun {Q E} q => by
      obtain ⟨isGlob, ndb, here | ⟨nowhere, boot, nname⟩⟩ := named
      · exact ld_glob (X := X.suite p (X.pn ++ pins)) inside isGlob here q ndb
      · exact ld_blt (X := X.suite p (X.pn ++ pins)) inside isGlob nowhere boot q nname ndb
    refine loaded (ask.here ?_)
    match hit, yes, no with
    | true, yes, _ =>
      refine codeAny_handlers_suite_as (HandSPX.lands_againZ fly1 fun h2 fly2 upto2 => ?_)
      have J2 : Inv X pins σ' H' { s' with heap := h2 } := J.landed below fly2.1 ((upto.trans upto1).trans upto2) sameOs bare
      obtain ⟨ob2, sl2, get2, z2, dat2⟩ := fly2.there
      have tracked := track J2 un (Err.made get2 z2 dat2) fresh notOwn noCell noPin
      refine store_ok (X := X.suite p (X.pn ++ pins)) (v := .ref p) (intoSuite tracked p) nd slot (.inl isLocal) rfl (fun s3 S3 => ?_) (.inr isLocal)
      refine wpAny_mono ((hsuite p cls d (X.pn ++ pins)).run [] s3 _ _ _ S3 (yes rfl J.len p un)) (fun flow s4 done => ?_) (fun _ _ z => z.elim)
      have gone : ∀ {σ4 : L2.St} {H4 : Hp} {Q : Shared → Prop}, Inv (X.suite p (X.pn ++ pins)) [] σ4 H4 s4 → (∀ s5, Inv X pins (σ4.set i none) H4 s5 → Q s5) →
          wpAny (model X.prog X.w) X.A (do bindName X.env n .none; unbindBehindTheSuite X.env n pos') (fun _ s5 => Q s5) X.xe s4 := fun {σ4 H4 Q} S4 go => gone_ok (outOfSuite S4 okX) nd slot isLocal go
      match flow, done with
      | .next, ⟨_, _, S4, q⟩ => exact gone S4 fun _ J5 => ⟨_, _, J5, q⟩
      | .brk, ⟨_, _, S4, q⟩ => exact gone S4 fun _ J5 => ⟨_, _, J5, q⟩
      | .cont, ⟨_, _, S4, q⟩ => exact gone S4 fun _ J5 => ⟨_, _, J5, q⟩
      | .ret _, ⟨_, _, _, S4, rv, q⟩ => exact gone S4 fun _ J5 => ⟨_, _, _, J5, rv, q⟩
    | false, _, no =>
      show wpAny _ X.A (handleBy (.ref p) X.env []) _ _ _
      refine wpAny_handleBy_nil ?_
      obtain ⟨_, _, _, obF, slF, T, _, _, getF, _, datF, traced, _⟩ := id fly1
      unfold PySem.passOn
      refine wpAny_bind (wpAny_field getF datF traced ?_)
      rw [if_neg (show ¬ ((Value.ref T == Value.none) = true) by simp)]
      have on_ : wpAny (model X.prog X.w) X.A (setFlight (.ref p) X.env.frame) (fun _ s4 => wpAny (model X.prog X.w) X.A (throw (.ref p) : Sem Flow) (SP X pins D) X.xe s4) X.xe { s' with heap := h1 } := by
        rw [frm]
        exact HandSPX.setFlight_upZ fly1 fun h2 held2 upto2 => wpAny_throw (out _ _ ⟨p, B, ground, pins, σ', H', cls, d, rfl, J, below, (upto.trans upto1).trans upto2, .inr (.inr (by rw [stk]; exact held2)), un, sameOs, bare, no rfl⟩)
      first
        | exact wpAny_bind (wpAny_pure (wpAny_bind on_))
        | exact wpAny_bind on_
  · match flow, done with
    | .next, ⟨_, _, J, q⟩ => exact wpAny_execs_nil ⟨_, _, J.ofTry okX, q⟩
    | .brk, ⟨_, _, J, q⟩ => exact ⟨_, _, J.ofTry okX, q⟩
    | .cont, ⟨_, _, J, q⟩ => exact ⟨_, _, J.ofTry okX, q⟩
    | .ret _, ⟨_, _, _, J, rv, q⟩ => exact ⟨_, _, _, J.ofTry okX, rv, q⟩
end
end Fz

set_option Elab.async false
set_option linter.all false
set_option maxRecDepth 100000
set_option maxHeartbeats 4000000
/-! Own layer, third part: what is asked of a tracked error: its fields, its class. -/
namespace Fz
open PySem PySem.Spec PyProof.Rows L2
section
open PySem.W
variable {prog : Program} {w : World} {A : Around} {E : Value → Shared → Prop} {s : Shared} {K : Frag} {p cl : Addr} {ob : Obj} {own : Option Obj}
/-- err.__class__, the error with a dict or without one -/
theorem err_class {Q : Option Value → Shared → Prop} (C : ExcC K cl) (X : K.In s.heap) (I : InstAt s.heap p ob cl own) (fin : Q (some (.ref cl)) { s with toks := s.toks + 1 }) : wpAny (model prog w) A (getAttr? (.ref p) "__class__") Q E s := by
  have found : findObj K cl own "__class__" = some (.bind (.builtin "getset_descriptor.__get__") (.builtin "object.__class__")) := by
    have isC : (clsIn K cl).isSome = true := by
      obtain ⟨cd, q, _⟩ := any_some C.hd
      rw [q]
      rfl
    cases own with
    | none => exact findObj_dataN isC C.ha C.hn C.ht
    | some od => exact findObj_data isC C.ha C.hn C.ht
  obtain ⟨heap, gens, drawn, tok, os⟩ := s
  have t1 := I.type (M := model prog w)
  have t2 := looks_findIn (M := model prog w) X C.hg
  have t3 := looks_findIn (M := model prog w) X C.hk
  have t4 := looks_find (M := model prog w) X I found
  have isExc : Looks (model prog w) heap (isInstance (.ref p) (.type "BaseException")) true := t1.andThen (looks_subIn X C.hs)
  have n1 : (Value.builtin "BaseException.__getattribute__" == Value.builtin "object.__getattribute__") = false := by decide +kernel
  have n2 : (onTheHeap (Value.ref cl) && Value.builtin "BaseException.__getattribute__" == Value.builtin "object.__getattribute__") = false := by rw [n1]; rfl
  have n3 : (false && onTheHeap (Value.builtin "BaseException.__getattribute__")) = false := rfl
  unfold getAttr? getAttrBy? getAttrBy
  refine wpAny_bind (wpAny_mkText (wpAny_bind (wpAny_attempt (wpAny_holding (wpAny_bind (t1.at (wpAny_bind (t2.at ?_))))))))
  show wpAny _ _ (if (onTheHeap (Value.ref cl) && Value.builtin "BaseException.__getattribute__" == Value.builtin "object.__getattribute__") = true then _ else _) _ _ _
  rw [n2, if_neg Bool.false_ne_true]
  unfold getAttrByItsOwn hookBefore
  refine wpAny_bind ?_
  rw [if_pos (show onTheHeap (Value.ref cl) = true from rfl)]
  refine t3.at (wpAny_bind (wpAny_attempt (wpAny_holding ?_)))
  unfold callGetattribute
  rw [n3, if_neg Bool.false_ne_true]
  unfold boundAndCalled
  rw [PySem.F.excAttr_ValueError.ga.bind (.ref p)]
  refine wpAny_bind (wpAny_pure ?_)
  show wpAny _ _ (call (.builtin "BaseException.__getattribute__") [.ref p, .str "__class__" tok]) _ _ _
  refine wpAny_call (codeAny_call_builtin PySem.F.excAttr_ValueError.ga.plain PySem.F.entry_bexc_ga ?_)
  refine @check_slot (model prog w) _ _ ⟨heap, gens, drawn, tok + 1, os⟩ "BaseException.__getattribute__" "BaseException" "__getattribute__" (.ref p) [.str "__class__" tok] [] _ (by decide +kernel) (by decide +kernel) isExc (PySem.F.args_bexc_ga (.ref p) (.str "__class__" tok)) ?_
  unfold Builtin.«object.__getattribute__»
  refine wpAny_bind (wpAny_of_eq (a := ((Value.ref p : Value), [Value.str "__class__" tok])) (by first | rfl | (simp only [slotArgs]; rfl)) ?_)
  refine wpAny_bind (wpAny_pure (wpAny_bind (t1.at (wpAny_bind (t4.at ?_)))))
  show wpAny _ _ (holding [Value.builtin "object.__class__"] (call (.builtin "getset_descriptor.__get__") [.builtin "object.__class__", .ref p, .ref cl]) >>= ret) _ _ _
  refine wpAny_bind (wpAny_holding (wpAny_call (class_get (s := ⟨heap, gens, drawn, tok + 1, os⟩) (ox := ob) (od := own) X I C.hm ?_)))
  refine wpAny_pure ?_
  show wpAny _ _ (handedOut (.ref cl)) _ _ _
  rw [handedOut_of (v := .ref cl) rfl]
  first
    | exact wpAny_pure (wpAny_pure fin)
    | exact wpAny_pure fin
    | exact wpAny_pure (wpAny_bind (wpAny_pure (wpAny_pure fin)))
theorem cls_obj (C : ExcC K cl) : ∃ o : Obj, K.lookup cl = some o ∧ (∀ its n, o.data ≠ .seq its n) ∧ ∀ (M : Model) (h : Heap), K.In h → Looks M h (isType (.ref cl)) true := by
  obtain ⟨cd, q, _⟩ := any_some C.hd
  unfold clsIn at q
  split at q
  · rename_i c d dat sl here
    refine ⟨_, here, fun its n z => (by cases z), fun M h X A Q E st stay fin => ?_⟩
    unfold isType loadHead
    exact wpAny_bind (wpAny_loadPart (stay _ _ (X _ _ here)) (wpAny_pure fin))
  · cases q
theorem kit_err (C : ExcC K cl) : KitX K (.ref p) (.ref cl) (fun h => InstAt h p ob cl own) where
  ty := fun _ _ _ I => I.type
  it := fun M h X _ => (cls_obj C).choose_spec.2.2 M h X
  ne := fun h tp dd its n sl X there => by
    obtain ⟨o, here, noSeq, _⟩ := cls_obj C
    refine Bool.eq_false_iff.mpr fun q => ?_
    cases Value.ref.inj (beq_iff_eq.mp q)
    have z := Option.some.inj ((X _ _ here).symm.trans there)
    exact noSeq its.toArray n (by rw [z])
  ca := fun X I fin => err_class C X I fin
end
section
variable {X : Cx}
/-- an error's place as the library's rules take it -/
theorem inst_err {pins : List (Addr × Obj)} {σ : L2.St} {H : Hp} {s : Shared} {p cl : Addr} {d : Option Addr} (I : Inv X pins σ H s) (here : H p = some (Err (.ref cl) d p)) (dict : ∀ dd, d = some dd → ∃ fs, H dd = some (.xd fs)) :
    ∃ (ob : Obj) (own : Option Obj), PySem.W.InstAt s.heap p ob cl own := by
  obtain ⟨ob, slots, get, z, dat⟩ := Err.at_ I.hok here
  have notC : PySem.W.notCls ob = true := by
    unfold PySem.W.notCls
    rw [dat] <;> rfl
  match d, z, dict with
  | none, z, _ => exact ⟨ob, none, get, z.1, notC, by rw [z.2]; trivial⟩
  | some dd, z, dict =>
    obtain ⟨fs, q⟩ := dict dd rfl
    obtain ⟨mA, names, _⟩ := (show ObjOk X.prog X.w H s.heap dd (.xd fs) from I.hok dd _ q)
    obtain ⟨od, getD, _⟩ := lookIn_ns names
    exact ⟨ob, some od, get, z.1, notC, by rw [z.2]; exact getD⟩
/-- isinstance(err, c) -/
def rIsErr (K : PySem.W.Frag) : List V → Hp → VK → Prop := fun vs H Q => ∃ (p cl : Addr) (d : Option Addr) (c : V) (cv : Value) (b : Bool), vs = [.ref p, c] ∧ H p = some (Err (.ref cl) d p) ∧ (∀ dd, d = some dd → ∃ fs, H dd = some (.xd fs)) ∧ ExcC K cl ∧ ClsV c cv ∧
  PySem.W.kitOne K (.ref cl) cv = some b ∧ Q (.bl b) H
theorem call_isErr : CallR X (.builtin "isinstance") (rIsErr X.K) := by
  intro pins s σ H vs us Q I rvs hyp
  obtain ⟨p, cl, d, c, cv, b, rfl, here, dict, C, isC, ans, fin⟩ := hyp
  obtain ⟨u1, u2, rfl, r1, r2⟩ := vals2 rvs
  cases r1
  cases isC.eq r2
  obtain ⟨ob, own, J⟩ := inst_err I here dict
  exact PySem.W.kia_one (kit_err C) I.kIn J ans (fun z => nomatch z) fun tk => ⟨.bl b, H, I.tok tk, rfl, fin⟩
/-- err.f -/
def tErrF (K : PySem.W.Frag) (f : Str) (te : TE) : TE := fun σ H Q => te σ H fun x H1 => ∃ (p cl dd : Addr) (fs : List (Str × V)) (v : V), x = .ref p ∧ H1 p = some (Err (.ref cl) (some dd) p) ∧ H1 dd = some (.xd fs) ∧ XfC K cl ∧ PySem.W.findIn K (.ref cl) f = some none ∧ fs.lookup f = some v ∧ Q v H1
theorem pe_errF {e : Expr} {te : TE} {f : Str} {pos : Pos} (he : PE X e te) (base : attributeBase e f X.env (eval e X.env) = eval e X.env := by rfl) : PE X (.Attribute e f pos) (tErrF X.K f te) := by
  refine ⟨fun pins s σ H Q I hyp => attr_of base (thn (he.run pins s σ H _ I hyp) fun u s1 ⟨x, H1, I1, rx, p, cl, dd, fs, v, ex, here, dict, T, none_, look, fin⟩ => ?_)⟩
  subst ex
  obtain rfl : u = Value.ref p := rx
  obtain ⟨ob, slots, get, z, dat⟩ := Err.at_ I1.hok here
  obtain ⟨mA, names, rel⟩ := (show ObjOk X.prog X.w H1 s1.heap dd (.xd fs) from I1.hok dd _ dict)
  obtain ⟨od, getD, lookD⟩ := lookIn_ns names
  obtain ⟨u', atf, ru⟩ := RelO.some_of (v := v) (o := mA f) (by rw [← look]; exact rel f)
  have J : PySem.W.InstAt s1.heap p ob cl (some od) := ⟨get, z.1, by unfold PySem.W.notCls; rw [dat] <;> rfl, by rw [z.2]; exact getD⟩
  exact HandSPX.exc_get I1.kIn J T.ga T.gg T.exC (PySem.W.findObj_own T.hdC none_ rfl (by rw [lookD, atf])) (handed_of ru) ⟨v, H1, I1.tok _, ru, fin⟩
end
end Fz

set_option Elab.async false
set_option linter.all false
set_option maxRecDepth 100000
set_option maxHeartbeats 4000000
/-! Own layer, fourth part: the end of a law's row, for a law whose defs ask for repr, its tables of code objects told. -/
namespace Fz
open PySem PySem.Spec PyProof.Rows L2
section
variable {P : Program} {w : World} {K : PySem.W.Frag} {mg mb : Str → Option Value} {s : Shared} {H : Hp}
/-- what is tracked at first: lists and empty records, none of them in the written part -/
structure First (K : PySem.W.Frag) (h : Heap) (H : Hp) : Prop where
  out : ∀ b, H b ≠ none → K.lookup b = none
  kind : ∀ b o, H b ≠ none → h.get? b = some o → (∃ its n, o.data = .seq its n) ∨ o.data = .fields #[]
theorem First.free (F : First K s.heap H) {b : Addr} {o : Obj} (get : s.heap.get? b = some o) (n1 : ∀ its n, o.data ≠ .seq its n) (n2 : o.data ≠ .fields #[]) : H b = none := by
  cases q : H b with
  | none => rfl
  | some u =>
    rcases F.kind b o (by rw [q]; exact fun z => nomatch z) get with ⟨its, n, z⟩ | z
    · exact absurd z (n1 its n)
    · exact absurd z n2
theorem First.names (F : First K s.heap H) {b : Addr} {m : Str → Option Value} (N : s.heap.Ns b m) : (hidT s.heap H).Ns b m := by
  obtain ⟨o, es, ep, get, dat, more⟩ := N
  exact ⟨o, es, ep, hidT_get get (F.free get (fun its n z => by rw [dat] at z; cases z) (fun z => by rw [dat] at z; cases z)), dat, more⟩
theorem First.part (F : First K s.heap H) (X : K.In s.heap) : K.In (hidT s.heap H) := fun b o here => hidT_get (X b o here) (by
  cases q : H b with
  | none => rfl
  | some u =>
    have z := F.out b (by rw [q]; exact fun z => nomatch z)
    rw [here] at z
    cases z)
theorem First.env (F : First K s.heap H) (X : K.In s.heap) (N : s.heap.Ns mainGlobals mg) (B : s.heap.Ns builtinsNs mb) (boot : ∀ x : Str, x ≠ "__name__" → mb x = bootBuiltins x) (lim : s.heap.NoLimit) (noGens : s.gens = #[]) (ok : HOk P w H s.heap) :
    Env0 P w K mg (hidT s.heap H) callerA [] s H where
  frames := rfl
  mod := ⟨F.part X, F.names N, ⟨mb, F.names B, boot⟩, let ⟨mc, q, r⟩ := lim; ⟨mc, F.names q, r⟩⟩
  bs := fun _ _ z => of_hidT z
  bsz := Nat.le_of_eq (hidT_size _ _)
  funs := trivial
  frf := fun b z => nomatch (show b ∈ ([] : List Addr) from z)
  hok := ok
  bare := .of_eq noGens
theorem First.table (F : First K s.heap H) (N : s.heap.Ns mainGlobals mg) {c T : Addr} (tab : s.heap.get? T = some { cls := .none, data := .fields #[] }) (code : PySem.W.CodeHd s.heap c T)
    (main : ∃ (bm : Addr) (ob : Obj), mg "__builtins__" = some (.ref bm) ∧ bm ≠ builtinsNs ∧ s.heap.get? bm = some ob ∧ ob.cls = .type "module" ∧ ob.dict = some builtinsNs ∧ ob.data = .plain) : LamX.TabB (hidT s.heap H) mg c T := by
  obtain ⟨om, es, ep, getM, datM, _⟩ := N
  refine ⟨?_, ?_, fun z => ?_⟩
  · obtain ⟨o, us, file, tf, flags, tg, inF, text, tt, get, isCode, dat, r⟩ := code
    exact ⟨o, us, file, tf, flags, tg, inF, text, tt, hidT_get get (F.free get (fun its n z => by rw [dat] at z; cases z) (fun z => by
      rw [dat] at z
      cases z
      have z2 := r.1
      simp at z2)), isCode, dat, r⟩
  · obtain ⟨bm, ob, r1, r2, r3, r4, r5, r6⟩ := main
    refine ⟨bm, ob, r1, r2, fun z => ?_, fun z => ?_, hidT_get r3 (F.free r3 (fun its n z => by rw [r6] at z; cases z) (fun z => by rw [r6] at z; cases z)), r4, r5, r6⟩
    · rw [z, getM] at r3
      cases r3
      rw [datM] at r6
      cases r6
    · rw [z, tab] at r3
      cases r3
      cases r6
  · rw [z, tab] at getM
    cases getM
    cases datM
end
/-- what a law's proof gives at the end of the top -/
def LawEnd (l : PySem.W.OpenLaw) (w : World) (K : PySem.W.Frag) (k n : Nat) (x : Str) (mg : Str → Option Value) (fa : Addr) (h : Heap) : Prop :=
  ∃ (fd : FuncData) (tabs : List (Addr × Addr)) (sp : Sp), (∀ q ∈ tabs, h.get? q.2 = some { cls := .none, data := .fields #[] } ∧ K.lookup q.2 = none ∧ PySem.W.CodeHd h q.1 q.2) ∧ (∀ (s : Shared) (u : Value), BindsTo s fd ⟨[u], []⟩ [(x, u)]) ∧
    (∀ (H : Hp) (a : Addr) (ns : List Int), ns.length ≤ n → (∀ z ∈ ns, Builtin.Int.intBits z ≤ 1048576) → (∀ q ∈ tabs, H q.2 = some (.tbl #[])) → SqL K H a (ns.map V.int) → sp [.ref a] H (fun v _ => v = .bl true) fun _ _ _ => False) ∧
    ∀ base : Heap, K.In base → base.Ns mainGlobals mg → (∀ q ∈ tabs, LamX.TabB base mg q.1 q.2) → FnG l.prog w K mg base CX0 k fa fd [x] sp
theorem law_end {l : PySem.W.OpenLaw} {w : World} {K : PySem.W.Frag} {mg mb : Str → Option Value} {k n : Nat} {fa a : Addr} {x : Str} {s : Shared} {vs : List Value} {ns : List Int}
    (X : K.In s.heap) (N : s.heap.Ns mainGlobals mg) (B : s.heap.Ns builtinsNs mb) (boot : ∀ x : Str, x ≠ "__name__" → mb x = bootBuiltins x) (lim : s.heap.NoLimit) (noGens : s.gens = #[])
    (main : ∃ (bm : Addr) (ob : Obj), mg "__builtins__" = some (.ref bm) ∧ bm ≠ builtinsNs ∧ s.heap.get? bm = some ob ∧ ob.cls = .type "module" ∧ ob.dict = some builtinsNs ∧ ob.data = .plain)
    (script : s.heap.get? a = some { cls := .type "list", data := .seq vs.toArray }) (areInts : IntsAre vs ns) (few : ns.length ≤ n) (line : n ≤ sizeLine) (bits : ∀ z ∈ ns, Builtin.Int.intBits z ≤ 1048576) (room : Room k callerA) (L : LawEnd l w K k n x mg fa s.heap) :
    codeAny (model l.prog w) callerA (.call (.ref fa) ⟨[.ref a], []⟩) (fun r s' => r = .ok (.ret (.bool true)) ∧ OldK s.heap s'.heap ∧ s'.os = s.os ∧ AllBare s'.gens) s := by
  obtain ⟨fd, tabs, sp, tab, binds, promise, fn⟩ := L
  have vals := vals_ints areInts
  have many := areInts.length
  have isTab : ∀ b ∈ tabs.map (·.2), s.heap.get? b = some { cls := .none, data := .fields #[] } := fun b hb => by
    obtain ⟨q, hq, z⟩ := List.mem_map.mp hb
    rw [← z]
    exact (tab q hq).1
  have apart : a ∉ tabs.map (·.2) := fun z => by
    have z2 := isTab a z
    rw [script] at z2
    cases z2
  have asTab : ∀ q ∈ tabs, q.2 ∈ tabs.map (·.2) := fun q hq => List.mem_map.mpr ⟨q, hq, rfl⟩
  -- from what is tracked at first: the tables, and the script where it is no object of the top
  have start_ : ∀ H : Hp, (∀ q ∈ tabs, H q.2 = some (.tbl #[])) → (∀ b, b ∉ tabs.map (·.2) → H b = none ∨ (b = a ∧ H b = some (.frz { cls := .type "list", data := .seq vs.toArray } (.lst (ns.map V.int))))) → (H a ≠ none → K.lookup a = none) → SqL K H a (ns.map V.int) →
      codeAny (model l.prog w) callerA (.call (.ref fa) ⟨[.ref a], []⟩) (fun r s' => r = .ok (.ret (.bool true)) ∧ OldK s.heap s'.heap ∧ s'.os = s.os ∧ AllBare s'.gens) s := by
    intro H onTab else_ outA read
    have cases_ : ∀ b u, H b = some u → (b ∈ tabs.map (·.2) ∧ u = .tbl #[]) ∨ (b = a ∧ u = .frz { cls := .type "list", data := .seq vs.toArray } (.lst (ns.map V.int))) := fun b u q => by
      by_cases hb : b ∈ tabs.map (·.2)
      · obtain ⟨t, ht, z⟩ := List.mem_map.mp hb
        have z2 := onTab t ht
        rw [z, q] at z2
        exact .inl ⟨hb, Option.some.inj z2⟩
      · rcases else_ b hb with z | ⟨z, z2⟩
        · rw [q] at z
          cases z
        · rw [q] at z2
          exact .inr ⟨z, Option.some.inj z2⟩
    have F : First K s.heap H := by
      refine ⟨fun b hb => ?_, fun b o hb get => ?_⟩
      · obtain ⟨u, q⟩ := Option.ne_none_iff_exists'.mp hb
        rcases cases_ b u q with ⟨z, _⟩ | ⟨z, _⟩
        · obtain ⟨t, ht, e⟩ := List.mem_map.mp z
          rw [← e]
          exact (tab t ht).2.1
        · rw [z] at hb ⊢
          exact outA hb
      · obtain ⟨u, q⟩ := Option.ne_none_iff_exists'.mp hb
        rcases cases_ b u q with ⟨z, _⟩ | ⟨z, _⟩
        · rw [isTab b z] at get
          cases get
          exact .inr rfl
        · rw [z, script] at get
          cases get
          exact .inl ⟨_, _, rfl⟩
    have ok : HOk l.prog w H s.heap := fun b u q => by
      rcases cases_ b u q with ⟨z, rfl⟩ | ⟨rfl, rfl⟩
      · exact isTab b z
      · exact ⟨script, by rw [List.length_map]; exact Nat.le_trans few line, vs, _, vals, script⟩
    have G := fn _ (F.part X) (F.names N) fun q hq => F.table N (tab q hq).1 (tab q hq).2.2 main
    refine codeAny_mono (G.run callerA [] s H ⟨[.ref a], []⟩ [.ref a] [.ref a] _ _ room rfl (F.env X N B boot lim noGens ok) (binds s (.ref a)) (.cons rfl .nil) (promise H a ns few bits onTab read)) fun r s' got => ?_
    match r, got with
    | .error _, got => exact got.elim
    | .ok .next, got => exact got.elim
    | .ok .brk, got => exact got.elim
    | .ok .cont, got => exact got.elim
    | .ok (.ret u), ⟨v, H', os, bare, un, ok', rv, fin⟩ =>
      cases (show v = .bl true from fin)
      cases (show u = Value.bool true from rv)
      have grown : ∀ b, b ∈ tabs.map (·.2) → ∃ more : Array Value, s'.heap.get? b = some { cls := .none, data := .fields more } := fun b hb => by
        obtain ⟨t, ht, e⟩ := List.mem_map.mp hb
        obtain ⟨more, z⟩ := un.tbls t.2 #[] (onTab t ht)
        rw [← e]
        exact ⟨_, ok' t.2 _ z⟩
      have kept : ∀ b o, b ∉ tabs.map (·.2) → s.heap.get? b = some o → s'.heap.get? b = some o := fun b o hb get => by
        rcases else_ b hb with z | ⟨rfl, z⟩
        · exact un.keep b o get z (fun y => nomatch (show b ∈ ([] : List Addr) from y)) (fun y => nomatch y)
        · obtain ⟨z1, _⟩ := ok b _ z
          obtain ⟨z2, _⟩ := ok' b _ (un.frzs b _ _ z)
          rw [get] at z1
          cases z1
          exact z2
      refine ⟨rfl, ⟨fun b o get => ?_, fun b o get => ?_⟩, os, bare⟩
      · by_cases hb : b ∈ tabs.map (·.2)
        · obtain ⟨more, z⟩ := grown b hb
          obtain ⟨t, ht, e⟩ := List.mem_map.mp hb
          have z0 := isTab b hb
          rw [get] at z0
          cases z0
          rw [← e] at get z ⊢
          exact .inr (.inl ⟨((tab t ht).2.2.tab get).isCodeTable, rfl, #[], more, rfl, by rw [Array.empty_append]; exact z⟩)
        · exact .inl (kept b o hb get)
      · by_cases hb : b ∈ tabs.map (·.2)
        · obtain ⟨more, z⟩ := grown b hb
          exact ⟨_, z⟩
        · exact ⟨o, kept b o hb get⟩
  cases inTop : K.lookup a with
  | some o =>
    have same := X a o inTop
    rw [script] at same
    cases same
    refine start_ (fun b => if b ∈ tabs.map (·.2) then some (.tbl #[]) else none) (fun q hq => if_pos (asTab q hq)) (fun b hb => .inl (if_neg hb)) (fun z => absurd (if_neg apart) z)
      (.inr ⟨_, vs.toArray, _, inTop, rfl, rfl, rfl, by rw [List.size_toArray, many]; exact Nat.le_trans few line, by simpa using vals⟩)
  | none =>
    refine start_ (fun b => if b ∈ tabs.map (·.2) then some (.tbl #[]) else if b = a then some (.frz { cls := .type "list", data := .seq vs.toArray } (.lst (ns.map V.int))) else none) (fun q hq => if_pos (asTab q hq)) (fun b hb => ?_) (fun _ => inTop)
      (.inl (.inr ⟨_, (if_neg apart).trans (if_pos rfl)⟩))
    by_cases ba : b = a
    · exact .inr ⟨ba, (if_neg hb).trans (if_pos ba)⟩
    · exact .inl ((if_neg hb).trans (if_neg ba))
/-- the goal that k_head leaves -/
theorem walk_fz {l : PySem.W.OpenLaw} {n k : Nat} {q : Program} {loose : List Str} {XP : (Str → Option Value) → Heap → Prop} {YP : World → Heap → Prop} {d : DefRec} {K : Params → PySem.W.Frag} {x : Str}
    (most : l.most = some n) (line : n ≤ sizeLine) (noDef : d.params.defaults = []) (room : Room k callerA) (part : ∀ (w : World) (h : Heap), YP w h → (K w.params).In h)
    (F : ∀ (w : World) (mg mb : Str → Option Value) (fa : Addr) (h : Heap) (lo : List Str) (mean : ExcName → Option Value), (K w.params).In h → Top q lo mean mg mb h → mg d.name = some (.ref fa) → LawEnd l w (K w.params) k n x mg fa h) :
    PySem.W.WalkO q loose XP YP l.row.toRowW d [] (fun f vs => PySem.call f vs) :=
  Att.attach_callB most noDef fun w _ s₁ mg mb fa _ _ _ _ _ vs ns G Y _ _ _ hmg script areInts few bits noGens =>
    law_end (part w _ Y) G.T.g G.T.b G.T.builtins G.T.nolimit noGens G.T.bmain script areInts few line bits room (F w mg mb fa _ _ _ (part w _ Y) G.T hmg)
end Fz

set_option Elab.async false
set_option linter.all false
set_option maxRecDepth 100000
set_option maxHeartbeats 4000000
/-! Own layer, fifth part: a def read off a class and called; values of any kind; numbers within bounds; data of lists. -/
namespace Fz
open PySem PySem.Spec PyProof.Rows L2
section
variable {X : Cx} {CX : CXT} {k : Nat} {C g : Addr} {mc : Value} {fd : FuncData} {ps : List Str} {sp : Sp} {dvs : List V} {ds : List Value} {E : XK} {o e : Expr} {es : List Expr} {m : Str} {pos apos : Pos} {ta : TE} {t : TA} {pl : Sem Bool}
/-- C.m(e, ..), C a class, m a def of it or of one above it -/
def tClsFn (C : Addr) (sp : Sp) (dvs : List V) (E : XK) (ta : TE) (t : TA) : TE := fun σ H Q => ta σ H fun x H1 => x = .ref C ∧ t σ H1 fun vs H2 => sp (vs ++ dvs) H2 Q E
theorem pe_clsFn (he : PE X o ta) (r : ClX.CRead X.K C mc) (found : PySem.W.findCls X.K (.ref C) mc m = some (.val (.ref g))) (F : FnOk X.prog X.w X.K X.mg X.base CX k g fd ps sp) (room : Room k X.A) (keep : PySem.W.keepIn X.K (.ref g) = true) (binds : L2.Binds X.K fd ps ds) (rd : Vals dvs ds)
    (pass : Passes CX X E) (ha : PA X (e :: es) t) (star : starEach (e :: es) X.env = (false, eval e X.env) :: starEach es X.env := by rfl) (plain : (backTo pos (starEach es X.env)).any (·.1) = false := by rfl)
    (tree : eval (.Call (.Attribute o m apos) (e :: es) [] pos) X.env = (do
      let ov ← eval o X.env
      standAt apos.atName
      let (f, first) ← holding [ov] (getMethod ov m pl)
      callWith pos f first (backTo pos (starEach (e :: es) X.env)) (backToKw pos (keywordEach [] X.env))) := by rfl) :
    PE X (.Call (.Attribute o m apos) (e :: es) [] pos) (tClsFn C sp dvs E ta t) := by
  refine ⟨fun pins s σ H Q I hyp => PySem.W.methodCall_KW (pl := pl) (thn (he.run pins s σ H _ I hyp) fun u s1 ⟨x, H1, I1, rx, isC, rest⟩ => ?_) tree⟩
  subst isC
  obtain rfl : u = Value.ref C := rx
  refine PySem.W.method_cls I1.kIn r.ga (PySem.W.cls_value I1.kIn r.rd found rfl ?_)
  have I2 := I1.tok (s1.toks + 1)
  exact PySem.W.callWith_K (first := []) (h₀ := X.base) I2.ok.mod.kin keep (thn (ha.run pos pins _ σ H1 _ I2 rest) fun us s3 ⟨vs, H3, I3, rv, fin⟩ => ⟨I3.kIn, run_fn F room binds rd pass I3 rv fin⟩) star plain
end

/-! ### values of any kind -/
/-- of a built-in kind, what it holds left open -/
def Kd (H : Hp) : V → Prop
  | .non | .bl _ | .int _ | .str _ => True
  | .ref a => (∃ xs, H a = some (.tup xs)) ∨ (∃ xs, H a = some (.lst xs)) ∨ ∃ kvs, H a = some (.dK kvs)
  | _ => False
theorem Kd.keep {H H' : Hp} {x : V} (h : Kd H x) (k : ∀ a o, x = .ref a → H a = some o → H' a = some o) : Kd H' x := by
  cases x with
  | ref a =>
    rcases h with ⟨xs, h⟩ | ⟨xs, h⟩ | ⟨kvs, h⟩
    · exact .inl ⟨xs, k a _ rfl h⟩
    · exact .inr (.inl ⟨xs, k a _ rfl h⟩)
    · exact .inr (.inr ⟨kvs, k a _ rfl h⟩)
  | _ => exact h
def isIntV : V → Bool
  | .int _ => true
  | .bl _ => true
  | _ => false
def isBlV : V → Bool
  | .bl _ => true
  | _ => false
theorem Kd.isInt {K : PySem.W.Frag} {H : Hp} {x : V} (h : Kd H x) : ∃ t, TyX K H x t ∧ PySem.W.kitOne K t (.type "int") = some (isIntV x) ∧ PySem.W.kitOne K t (.type "bool") = some (isBlV x) := by
  cases x with
  | non => exact ⟨_, .base .non, kit_ty (show kitB "NoneType" "int" = some false by decide +kernel), kit_ty (show kitB "NoneType" "bool" = some false by decide +kernel)⟩
  | bl b => exact ⟨_, .base (.bl b), kit_ty (show kitB "bool" "int" = some true by decide +kernel), kit_ty (show kitB "bool" "bool" = some true by decide +kernel)⟩
  | int i => exact ⟨_, .base (.int i), kit_ty (show kitB "int" "int" = some true by decide +kernel), kit_ty (show kitB "int" "bool" = some false by decide +kernel)⟩
  | str z => exact ⟨_, .base (.str z), kit_ty (show kitB "str" "int" = some false by decide +kernel), kit_ty (show kitB "str" "bool" = some false by decide +kernel)⟩
  | ref a =>
    rcases h with ⟨xs, h⟩ | ⟨xs, h⟩ | ⟨kvs, h⟩
    · exact ⟨_, .base (.tup h), kit_ty (show kitB "tuple" "int" = some false by decide +kernel), kit_ty (show kitB "tuple" "bool" = some false by decide +kernel)⟩
    · exact ⟨_, .base (.lst h), kit_ty (show kitB "list" "int" = some false by decide +kernel), kit_ty (show kitB "list" "bool" = some false by decide +kernel)⟩
    · exact ⟨_, .base (.dK h), kit_ty (show kitB "dict" "int" = some false by decide +kernel), kit_ty (show kitB "dict" "bool" = some false by decide +kernel)⟩
  | byt _ => exact h.elim
  | flt _ => exact h.elim
  | ty _ => exact h.elim
/-- an int (no bool) within bounds -/
def numV (lo hi : Int) : V → Bool
  | .int i => decide (lo ≤ i) && decide (i ≤ hi)
  | _ => false
theorem numV_is {lo hi : Int} {x : V} (h : numV lo hi x = true) : ∃ i, x = .int i ∧ lo ≤ i ∧ i ≤ hi := by
  cases x with
  | int i =>
    obtain ⟨a, b⟩ := Bool.and_eq_true_iff.mp h
    exact ⟨i, rfl, of_decide_eq_true a, of_decide_eq_true b⟩
  | _ => exact absurd (show false = true from h) Bool.false_ne_true
theorem small_log {m : Int} (h0 : 0 < m) (h1 : m ≤ 10 ^ 40) : m.natAbs.log2 < 9000 := by
  have h2 : m.natAbs < 2 ^ 9000 := Nat.lt_of_le_of_lt (show m.natAbs ≤ 10 ^ 40 by omega) (by decide +kernel)
  exact (Nat.log2_lt (by omega)).mpr h2

/-! ### data -/
theorem dp_ints {K : PySem.W.Frag} {H : Hp} : ∀ ns : List Int, DpAll K H (ns.map V.int) (ns.map PyData.int)
  | [] => .nil
  | n :: ns => .cons (.int n) (dp_ints ns)
theorem lay_ints : ∀ ns : List Int, PyData.canLayAll0 (ns.map PyData.int) = true
  | [] => by simp only [List.map_nil, PyData.canLayAll0]
  | n :: ns => by
    have ih := lay_ints ns
    simp only [List.map_cons, PyData.canLayAll0, PyData.canLay0, ih, Bool.and_self]
theorem depth_ints : ∀ ns : List Int, PyData.depthAll (ns.map PyData.int) ≤ 1
  | [] => by simp only [List.map_nil, PyData.depthAll]; omega
  | n :: ns => by
    have ih := depth_ints ns
    simp only [List.map_cons, PyData.depthAll, PyData.depth]
    omega
theorem shaped_ints (ns : List Int) : SeqAt.shaped (.list (ns.map PyData.int)) = true := by
  have h1 := depth_ints ns
  have h2 : PyData.depth (.list (ns.map PyData.int)) ≤ 64 := by
    simp only [PyData.depth]
    omega
  show (PyData.canLay0 (.list (ns.map PyData.int)) && decide (PyData.depth (.list (ns.map PyData.int)) ≤ 64)) = true
  rw [Bool.and_eq_true]
  exact ⟨by simp only [PyData.canLay0]; exact lay_ints ns, decide_eq_true h2⟩
theorem at_mod {xs : List V} (i : Int) (h : 0 < xs.length) : ∃ x, x ∈ xs ∧ atI xs (i % (xs.length : Int)) = some x := by
  have hp := mod_place (i := i) h
  have e : xs[(i % (xs.length : Int)).toNat]? = some xs[(i % (xs.length : Int)).toNat] := List.getElem?_eq_getElem hp.1
  refine ⟨_, List.getElem_mem hp.1, ?_⟩
  have z := atI_nat e
  rw [hp.2] at z
  exact z
theorem at_in {xs : List V} {i : Int} (h0 : 0 ≤ i) (h1 : i < xs.length) : ∃ x, x ∈ xs ∧ atI xs i = some x := by
  have hn : i.toNat < xs.length := by omega
  have e : xs[i.toNat]? = some xs[i.toNat] := List.getElem?_eq_getElem hn
  refine ⟨_, List.getElem_mem hn, ?_⟩
  have z := atI_nat e
  rw [show ((i.toNat : Nat) : Int) = i by omega] at z
  exact z
end Fz

set_option Elab.async false
set_option linter.all false
set_option maxRecDepth 100000
set_option maxHeartbeats 4000000
/-! Own layer, sixth part: the text of a list of numbers is short. -/
namespace Fz
open PySem PySem.Spec PyProof.Rows L2
section
variable {X : Cx} {e : Expr} {t : TE}
/-- a reading, closed -/
structure Box (t : TE) (σ : L2.St) (H : Hp) (Q : VK) : Prop where
  open_ : t σ H Q
theorem pe_box (h : PE X e t) : PE X e (Box t) := ⟨fun pins s σ H Q I h' => h.run pins s σ H Q I h'.open_⟩
/-- a reading may be asked for less -/
def tWeak (t : TE) : TE := fun σ H Q => ∃ Q' : VK, t σ H Q' ∧ ∀ x H', Q' x H' → Q x H'
theorem pe_weak (h : PE X e t) : PE X e (tWeak t) :=
  ⟨fun pins s σ H Q I ⟨Q', h', k⟩ => wpAny_mono (h.run pins s σ H Q' I h') (fun _ _ ⟨x, H1, I1, r, q⟩ => ⟨x, H1, I1, r, k _ _ q⟩) fun _ _ z => z⟩
end
/-- the rule for a def of the law that may ask for repr -/
theorem funG {P : Program} {w : World} {K : PySem.W.Frag} {mg : Str → Option Value} {base : Heap} {x qual : Str} {st : Stmt} {f : Addr} {fd : FuncData} {N ps : List Str} {k : Nat} {sp : Sp} (F : Fun K x qual st f fd) (S : FnScope N ps (defScope st)) (len : ∀ vs H Q E, sp vs H Q E → vs.length = ps.length)
    (walk : ∀ (cdv : Value) (A : Around) (outer : List Env) (s : Shared) (H : Hp) (vs : List V) (Q : VK) (E : XK), fd.code = cdv → Room k (A.deeper (envOfC qual (defScope st) s.heap.objs.size f cdv)) → A.guards = some [] → sp vs H Q E →
      ∃ t, PSs (cxOf CX0 P w K mg base N qual (defScope st) f cdv A outer s H E).nox (defBody st) t ∧ t { nx := fun _ H' => Q .non H', rt := Q } (start N vs) H) : FnG P w K mg base CX0 (k + 1) f fd ps sp := by
  obtain ⟨oc, od, kV, doc, pm, an, cdv, ct, osl, rfl, lk, code⟩ := F.ex
  refine fnG_of lk code S len fun A outer s H vs Q E room clear h => ?_
  obtain ⟨t, ht, hq⟩ := walk cdv A outer s H vs Q E rfl room clear h
  exact ⟨t, ht.nox, hq⟩
theorem textFrom_most (m : Nat) : ∀ (ts : List Str) (k : Nat) (acc : Str), (∀ t ∈ ts, t.length ≤ m) → (textFrom k acc ts).length ≤ acc.length + ts.length * (m + 2)
  | [], k, acc, _ => by
    show acc.length ≤ _
    omega
  | t :: r, k, acc, h => by
    have ih := textFrom_most m r (k + 1) (acc ++ (if k > 0 then ", " else "" : String) ++ t) fun u hu => h u (List.mem_cons_of_mem _ hu)
    have ht := h t List.mem_cons_self
    have e : (acc ++ (if k > 0 then ", " else "" : String) ++ t).length ≤ acc.length + 2 + t.length := by
      rw [strLen_append, strLen_append]
      split
      · have z : (Str.ofString ", ").length = 2 := by decide +kernel
        show acc.length + (Str.ofString ", ").length + t.length ≤ _
        omega
      · have z : (Str.ofString "").length = 0 := by decide +kernel
        show acc.length + (Str.ofString "").length + t.length ≤ _
        omega
    show (textFrom (k + 1) _ r).length ≤ _
    have l : (t :: r).length = r.length + 1 := rfl
    rw [l, Nat.add_mul]
    omega
theorem shown_int_short {n : Int} (h0 : 0 ≤ n) (h1 : n < 10 ^ 10) : (PyData.shown (.int n)).length ≤ 10 := by
  rw [PyData.shown]
  exact toString_length_le h0 (by decide) h1
theorem shownAll_ints : ∀ ns : List Int, PyData.shownAll (ns.map PyData.int) = ns.map fun n => PyData.shown (.int n)
  | [] => by simp only [List.map_nil, PyData.shownAll]
  | n :: ns => by
    have ih := shownAll_ints ns
    simp only [List.map_cons, PyData.shownAll, ih]
theorem text_ints {ns : List Int} (h : ∀ n ∈ ns, 0 ≤ n ∧ n < 10 ^ 10) (l : ns.length ≤ 1000) : (PyData.shown (.list (ns.map PyData.int))).length ≤ sizeLine := by
  rw [PyData.shown, shownAll_ints]
  have z := textFrom_most 10 (ns.map fun n => PyData.shown (.int n)) 0 "[" fun t ht => by
    obtain ⟨n, hn, e⟩ := List.mem_map.mp ht
    rw [← e]
    exact shown_int_short (h n hn).1 (h n hn).2
  rw [List.length_map] at z
  have z1 : (Str.ofString "[").length = 1 := by decide +kernel
  have z2 : (Str.ofString "]").length = 1 := by decide +kernel
  have z3 : (textFrom 0 "[" (ns.map fun n => PyData.shown (.int n))).length ≤ 1 + ns.length * 12 := by
    rw [← z1]
    exact z
  show (textFrom 0 "[" _ ++ Str.ofString "]").length ≤ sizeLine
  rw [strLen_append]
  show _ ≤ 16777216
  omega
theorem showable_ints : ∀ {ns : List Int}, (∀ n ∈ ns, 0 ≤ n ∧ n < 10 ^ 10) → PyData.showableAll (ns.map PyData.int) = true
  | [], _ => by simp only [List.map_nil, PyData.showableAll]
  | n :: ns, h => by
    have ih := showable_ints (ns := ns) fun m hm => h m (List.mem_cons_of_mem _ hm)
    obtain ⟨h0, h1⟩ := h n List.mem_cons_self
    have z : n.natAbs.log2 < 1920 := by
      have h2 : n.natAbs < 2 ^ 1920 := Nat.lt_of_lt_of_le (show n.natAbs < 10 ^ 10 by omega) (by decide +kernel)
      by_cases e : n.natAbs = 0
      · rw [e]
        decide +kernel
      · exact (Nat.log2_lt e).mpr h2
    simp only [List.map_cons, PyData.showableAll, PyData.showable, ih, decide_eq_true z, Bool.and_self]
theorem noDict_ints : ∀ ns : List Int, PyData.hasDictAll (ns.map PyData.int) = false
  | [] => by simp only [List.map_nil, PyData.hasDictAll]
  | n :: ns => by
    have ih := noDict_ints ns
    simp only [List.map_cons, PyData.hasDictAll, PyData.hasDict, ih, Bool.or_self]
/-- repr of a list of numbers, in the words that call_repD asks for -/
theorem rep_ints {K : PySem.W.Frag} {H : Hp} {Q : VK} {l : Addr} {ns : List Int} (hl : H l = some (.lst (ns.map V.int))) (h : ∀ n ∈ ns, 0 ≤ n ∧ n < 10 ^ 10) (few : ns.length ≤ 1000) (fin : Q (.str (PyData.shown (.list (ns.map PyData.int)))) H) : rRepD K [.ref l] H Q := by
  refine ⟨⟨l, _, rfl, Dp.lst (SqL.of hl) (dp_ints ns), ?_, ?_, ?_, text_ints h few, fin⟩⟩
  · rw [PyData.showable]
    exact showable_ints h
  · rw [PyData.hasDict]
    exact noDict_ints ns
  · have z := depth_ints ns
    rw [PyData.depth]
    omega
end Fz

set_option Elab.async false
set_option linter.all false
set_option maxRecDepth 100000
set_option maxHeartbeats 2000000
/-! Own layer, seventh part: the words of the laws on rules: the pen, numbers, errors, rules, what is heard. -/
namespace Fz
open PySem PySem.Spec PyProof.Rows L2
/-- at p: the pen, of which at most n draws were made -/
def PenAt (n : Nat) (H : Hp) (p q : Addr) : Prop := ∃ (ns : List Int) (spot great : Int), H p = some (.lst [.ref q, .int spot, .int great]) ∧ H q = some (.lst (ns.map V.int)) ∧ q ≠ p ∧ ns.length ≤ 63 ∧ 0 ≤ spot ∧ spot ≤ n
/-- all but what stands at p is as it was -/
def Mv (p : Addr) (H H' : Hp) : Prop := ∀ b o, b ≠ p → H b = some o → H' b = some o
theorem Mv.refl (p : Addr) (H : Hp) : Mv p H H := fun _ _ _ z => z
theorem Mv.trans {p : Addr} {H H1 H2 : Hp} (a : Mv p H H1) (b : Mv p H1 H2) : Mv p H H2 := fun c o n z => b c o n (a c o n z)
theorem Mv.new {p l : Addr} {H : Hp} {o : HO} (h : H l = none) : Mv p H (upd H l o) := fun b u _ z => by
  rw [upd_ne (ne_of_none z h)]
  exact z
theorem Mv.here {p : Addr} {H : Hp} {o : HO} : Mv p H (upd H p o) := fun b u n z => by
  rw [upd_ne n]
  exact z
theorem PenAt.ne {n : Nat} {H : Hp} {p q : Addr} (h : PenAt n H p q) : q ≠ p := let ⟨_, _, _, _, _, z, _⟩ := h; z
theorem PenAt.there {n : Nat} {H : Hp} {p q : Addr} (h : PenAt n H p q) : H p ≠ none ∧ H q ≠ none := by
  obtain ⟨_, _, _, a, b, _⟩ := h
  exact ⟨fun z => (by rw [a] at z; cases z), fun z => (by rw [b] at z; cases z)⟩
theorem PenAt.fresh {n : Nat} {H : Hp} {p q l : Addr} (h : PenAt n H p q) (hl : H l = none) : l ≠ p ∧ l ≠ q := by
  obtain ⟨a, b⟩ := h.there
  exact ⟨fun z => a (z ▸ hl), fun z => b (z ▸ hl)⟩
theorem PenAt.keep {n m : Nat} {H H' : Hp} {p q : Addr} (h : PenAt n H p q) (le : n ≤ m) (kp : H' p = H p) (kq : H' q = H q) : PenAt m H' p q := by
  obtain ⟨ns, spot, great, a, b, c, d, e, f⟩ := h
  exact ⟨ns, spot, great, by rw [kp]; exact a, by rw [kq]; exact b, c, d, e, by omega⟩
theorem PenAt.put {n : Nat} {H : Hp} {p q l : Addr} {o : HO} (h : PenAt n H p q) (hp : l ≠ p) (hq : l ≠ q) : PenAt n (upd H l o) p q := h.keep (Nat.le_refl _) (upd_ne (Ne.symm hp)) (upd_ne (Ne.symm hq))
theorem PenAt.new {n : Nat} {H : Hp} {p q l : Addr} {o : HO} (h : PenAt n H p q) (hl : H l = none) : PenAt n (upd H l o) p q := h.put (h.fresh hl).1 (h.fresh hl).2
theorem PenAt.same {n : Nat} {H H' : Hp} {p q : Addr} (h : PenAt n H p q) (s : Same H H') : PenAt n H' p q := by
  obtain ⟨ns, spot, great, a, b, c⟩ := h
  exact ⟨ns, spot, great, s _ _ a, s _ _ b, c⟩
theorem PenAt.more {n m : Nat} {H : Hp} {p q : Addr} (h : PenAt n H p q) (le : n ≤ m) : PenAt m H p q := h.keep le rfl rfl
theorem PenAt.lst {n : Nat} {H : Hp} {p q : Addr} (h : PenAt n H p q) : ∃ xs, H p = some (.lst xs) := by
  obtain ⟨_, _, _, a, _⟩ := h
  exact ⟨_, a⟩
theorem PenAt.ext {n : Nat} {H H' : Hp} {p q : Addr} (h : PenAt n H p q) (s : LamX.ExtN H H') : PenAt n H' p q := by
  obtain ⟨ns, spot, great, a, b, c⟩ := h
  exact ⟨ns, spot, great, s _ _ a (fun _ z => nomatch z), s _ _ b (fun _ z => nomatch z), c⟩
theorem PenAt.mv {n : Nat} {H H' : Hp} {p q r : Addr} (h : PenAt n H p q) (m : Mv r H H') (hp : r ≠ p) (hq : r ≠ q) : PenAt n H' p q := by
  obtain ⟨ns, spot, great, a, b, c⟩ := h
  exact ⟨ns, spot, great, m _ _ (Ne.symm hp) a, m _ _ (Ne.symm hq) b, c⟩
/-- the names that the laws mean as Python means them -/
structure Blt (mg : Str → Option Value) : Prop where
  z_int : mg "int" = none
  z_len : mg "len" = none
  z_abs : mg "abs" = none
  z_list : mg "list" = none
  z_range : mg "range" = none
  z_isinstance : mg "isinstance" = none
  z_repr : mg "repr" = none
  z_bool : mg "bool" = none
  z_tuple : mg "tuple" = none
  z_str : mg "str" = none
  z_max : mg "max" = none
  z_min : mg "min" = none
  z_dict : mg "dict" = none
  z_set : mg "set" = none
  z_sorted : mg "sorted" = none
  z_sum : mg "sum" = none
  z_all : mg "all" = none
  z_any : mg "any" = none
  z_zip : mg "zip" = none
  z_enumerate : mg "enumerate" = none
  z_reversed : mg "reversed" = none
def spPen (K : PySem.W.Frag) : Sp := fun vs H Q _ => ∃ (a : Addr) (ns : List Int), vs = [.ref a] ∧ SqL K H a (ns.map V.int) ∧ ns.length ≤ 63 ∧ ∀ H' p q, H p = none → H q = none → PenAt 0 H' p q → Same H H' → Q (.ref p) H'
def spDraw : Sp := fun vs H Q _ => ∃ (n : Nat) (p q : Addr) (m : Int), vs = [.ref p, .int m] ∧ PenAt n H p q ∧ n < 100000 ∧ 0 < m ∧ m.natAbs.log2 < 9000 ∧ ∀ H' r, PenAt (n + 1) H' p q → Mv p H H' → 0 ≤ r → r < m → Q (.int r) H'
def spPick (K : PySem.W.Frag) : Sp := fun vs H Q _ => ∃ (n : Nat) (p q l : Addr) (xs : List V), vs = [.ref p, .ref l] ∧ PenAt n H p q ∧ n < 100000 ∧ l ≠ p ∧ H l = some (.lst xs) ∧ 0 < xs.length ∧ xs.length ≤ 1000 ∧ ∀ H' x, PenAt (n + 1) H' p q → Mv p H H' → x ∈ xs → Q x H'
/-- the rank of a rule -/
def rankI (k a b c e : Int) : Int := (((k * 401 + a) * 401 + b) * 401 + c) * 401 + e
def spNum : Sp := fun vs H Q _ => ∃ (x : V) (lo hi : Int), vs = [x, .int lo, .int hi] ∧ Kd H x ∧ Q (.bl (numV lo hi x)) H
def spBadI (C : Addr) : Sp := fun vs H Q _ => ∃ (a : Addr) (v : V), vs = [.ref a, v] ∧ H a = some (exo a C none) ∧ ∀ d, H d = none → d ≠ a → Q .non (upd (upd H d (exd d [("part", v)])) a (exo a C (some d)))
/-- a BadRule of this part may leave -/
def Bad (C : Addr) (E : XK) (H : Hp) (z : Str) : Prop := ∀ d, H d = none → E (.ref C) (some d) (upd H d (.xd [("part", .str z)]))
def spRank : Sp := fun vs H Q _ => ∃ k a b c e : Int, vs = [.int k, .int a, .int b, .int c, .int e] ∧ 0 ≤ k ∧ k ≤ 1 ∧ 0 ≤ a ∧ a ≤ 400 ∧ 0 ≤ b ∧ b ≤ 400 ∧ 0 ≤ c ∧ c ≤ 400 ∧ 0 ≤ e ∧ e ≤ 400 ∧ ∀ H', Same H H' → Q (.int (rankI k a b c e)) H'
/-- the wrong one of rest and modulus -/
def dueR (r m : V) : Option Str := if numV 1 6 m = true then (match m with | .int i => if numV 0 (i - 1) r = true then none else some "rest" | _ => none) else some "modulus"
def spRested (CB C : Addr) : Sp := fun vs H Q E => ∃ (x dx : Addr) (fs : List (Str × V)) (r m : V), vs = [.ref x, r, m] ∧ H x = some (.ins C dx fs) ∧ fs.length < 900 ∧ Kd H r ∧ Kd H m ∧ (∀ z, dueR r m = some z → Bad CB E H z) ∧
  (dueR r m = none → Q .non (upd H x (.ins C dx (putF "modulus" m (putF "rest" r fs)))))
/-- the wrong one of size and leave -/
def dueS (s l : V) : Option Str := if numV 1 400 s = true then (if numV 0 400 l = true then none else some "leave") else some "size"
def spSized (CB C : Addr) : Sp := fun vs H Q E => ∃ (x dx : Addr) (fs : List (Str × V)) (s l : V), vs = [.ref x, s, l] ∧ H x = some (.ins C dx fs) ∧ fs.length < 900 ∧ Kd H s ∧ Kd H l ∧ (∀ z, dueS s l = some z → Bad CB E H z) ∧
  (dueS s l = none → Q .non (upd H x (.ins C dx (putF "leave" l (putF "size" s fs)))))
/-- the wrong one of the parts of a Down -/
def dueD (t r m : V) : Option Str := if numV 0 400 t = true then dueR r m else some "to"
def dfs (t r m k : Int) : List (Str × V) := putF "rank" (.int k) (putF "start" (.int (t + 1)) (putF "to" (.int t) (putF "modulus" (.int m) (putF "rest" (.int r) []))))
def spDown (CB CD : Addr) : Sp := fun vs H Q E => ∃ (x dx : Addr) (t r m : V), vs = [.ref x, t, r, m] ∧ H x = some (.ins CD dx []) ∧ Kd H t ∧ Kd H r ∧ Kd H m ∧ (∀ z, dueD t r m = some z → Bad CB E H z) ∧
  (∀ (ti ri mi : Int) (H' : Hp), t = .int ti → r = .int ri → m = .int mi → dueD t r m = none → Mv x H H' → H' x = some (.ins CD dx (dfs ti ri mi (rankI 1 ti mi ri 0))) → Q .non H')
/-- the wrong one of the parts of a Fixed -/
def dueF (s r m l : V) : Option Str := match dueS s l with
  | some z => some z
  | none => dueR r m
def ffs (s r m l k : Int) : List (Str × V) := putF "rank" (.int k) (putF "start" (.int (s + l)) (putF "modulus" (.int m) (putF "rest" (.int r) (putF "leave" (.int l) (putF "size" (.int s) [])))))
def spFixed (CB CF : Addr) : Sp := fun vs H Q E => ∃ (x dx : Addr) (s r m l : V), vs = [.ref x, s, r, m, l] ∧ H x = some (.ins CF dx []) ∧ Kd H s ∧ Kd H r ∧ Kd H m ∧ Kd H l ∧ (∀ z H', dueF s r m l = some z → Mv x H H' → Bad CB E H' z) ∧
  (∀ (si ri mi li : Int) (H' : Hp), s = .int si → r = .int ri → m = .int mi → l = .int li → dueF s r m l = none → Mv x H H' → H' x = some (.ins CF dx (ffs si ri mi li (rankI 0 si mi ri li))) → Q .non H')
/-- what the rules' makers ask of the module -/
structure PrgB (K : PySem.W.Frag) (mg : Str → Option Value) (CRl CB fB : Addr) : Prop where
  g_Rule : mg "Rule" = some (.ref CRl)
  g_BadRule : mg "BadRule" = some (.ref CB)
  rdRl : ClX.CRead K CRl (.type "type")
  most : ∃ u, ClX.CVal K CRl (.type "type") "MOST" (.int 400) u
  mostM : ∃ u, ClX.CVal K CRl (.type "type") "MOST_MODULUS" (.int 6) u
  oB : OexC K CB
  nPart : PySem.W.findIn K (.ref CB) "part" = some none
  iB : PySem.W.findIn K (.ref CB) "__init__" = some (some (.ref fB))
  tB : PySem.W.typeIn K (.ref fB) = some (.type "function")
/-- a class whose maker is called by name -/
structure BaseC (K : PySem.W.Frag) (C f : Addr) : Prop where
  rd : ClX.CRead K C (.type "type")
  fn : PySem.W.findCls K (.ref C) (.type "type") "__init__" = some (.val (.ref f))
/-- a class of rules -/
structure InsC (K : PySem.W.Frag) (C : Addr) : Prop where
  cl : Cls K C
  nTo : NoAttr K C "to"
  nSize : NoAttr K C "size"
  nLeave : NoAttr K C "leave"
  nRest : NoAttr K C "rest"
  nModulus : NoAttr K C "modulus"
  nStart : NoAttr K C "start"
  nRank : NoAttr K C "rank"
/-- isinstance may be asked of its objects -/
structure TyC (K : PySem.W.Frag) (C : Addr) : Prop where
  ga : PySem.W.findIn K (.ref C) "__class__" = some (some (.builtin "object.__class__"))
  gn : PySem.W.specialIn K (.builtin "object.__class__") "__get__" = some (some (.builtin "getset_descriptor.__get__"))
  gt : PySem.W.takesIn K (.builtin "object.__class__") = some true
  gm : PySem.W.mroIn K C (.type "object") = some true
theorem TyC.ty {K : PySem.W.Frag} {C x dx : Addr} {H : Hp} {fs : List (Str × V)} (t : TyC K C) (c : Cls K C) (h : H x = some (.ins C dx fs)) : TyX K H (.ref x) (.ref C) := .base (.ins h c t.ga t.gn t.gt t.gm)
theorem int_of_num {lo hi : Int} {x : V} (h : numV lo hi x = true) : ∃ i, x = .int i ∧ lo ≤ i ∧ i ≤ hi := numV_is h
theorem dueS_none {s l : V} (h : dueS s l = none) : ∃ si li : Int, s = .int si ∧ l = .int li ∧ 1 ≤ si ∧ si ≤ 400 ∧ 0 ≤ li ∧ li ≤ 400 := by
  unfold dueS at h
  split at h
  · rename_i e1
    split at h
    · rename_i e2
      obtain ⟨si, rfl, s0, s1⟩ := numV_is e1
      obtain ⟨li, rfl, l0, l1⟩ := numV_is e2
      exact ⟨si, li, rfl, rfl, s0, s1, l0, l1⟩
    · cases h
  · cases h
theorem dueR_none {r m : V} (h : dueR r m = none) : ∃ ri mi : Int, r = .int ri ∧ m = .int mi ∧ 0 ≤ ri ∧ ri ≤ mi - 1 ∧ 1 ≤ mi ∧ mi ≤ 6 := by
  unfold dueR at h
  split at h
  · rename_i e2
    obtain ⟨mi, rfl, m0, m1⟩ := numV_is e2
    have h' : (if numV 0 (mi - 1) r = true then none else some ("rest" : Str)) = none := h
    split at h'
    · rename_i e3
      obtain ⟨ri, rfl, r0, r1⟩ := numV_is e3
      exact ⟨ri, mi, rfl, rfl, r0, r1, m0, m1⟩
    · cases h'
  · cases h
theorem dueD_none {t r m : V} (h : dueD t r m = none) : ∃ ti ri mi : Int, t = .int ti ∧ r = .int ri ∧ m = .int mi ∧ 0 ≤ ti ∧ ti ≤ 400 ∧ 0 ≤ ri ∧ ri ≤ mi - 1 ∧ 1 ≤ mi ∧ mi ≤ 6 := by
  unfold dueD at h
  split at h
  · rename_i e1
    obtain ⟨ti, rfl, t0, t1⟩ := numV_is e1
    obtain ⟨ri, mi, rfl, rfl, z⟩ := dueR_none h
    exact ⟨ti, ri, mi, rfl, rfl, rfl, t0, t1, z⟩
  · cases h
theorem dueF_none {s r m l : V} (h : dueF s r m l = none) : ∃ si ri mi li : Int, s = .int si ∧ r = .int ri ∧ m = .int mi ∧ l = .int li ∧ 1 ≤ si ∧ si ≤ 400 ∧ 0 ≤ ri ∧ ri ≤ mi - 1 ∧ 1 ≤ mi ∧ mi ≤ 6 ∧ 0 ≤ li ∧ li ≤ 400 := by
  unfold dueF at h
  split at h
  · cases h
  · rename_i e
    obtain ⟨si, li, rfl, rfl, s0, s1, l0, l1⟩ := dueS_none e
    obtain ⟨ri, mi, rfl, rfl, r0, r1, m0, m1⟩ := dueR_none h
    exact ⟨si, ri, mi, li, rfl, rfl, rfl, rfl, s0, s1, r0, r1, m0, m1, l0, l1⟩
theorem numV_of {lo hi i : Int} (h0 : lo ≤ i) (h1 : i ≤ hi) : numV lo hi (.int i) = true := by
  show (decide (lo ≤ i) && decide (i ≤ hi)) = true
  rw [decide_eq_true h0, decide_eq_true h1] <;> rfl
theorem dueR_of {r m : Int} (r0 : 0 ≤ r) (r1 : r ≤ m - 1) (m0 : 1 ≤ m) (m1 : m ≤ 6) : dueR (.int r) (.int m) = none := by
  unfold dueR
  rw [numV_of m0 m1]
  show (if numV 0 (m - 1) (.int r) = true then none else some ("rest" : Str)) = none
  rw [numV_of r0 r1]
  rfl
theorem dueD_of {t r m : Int} (t0 : 0 ≤ t) (t1 : t ≤ 400) (r0 : 0 ≤ r) (r1 : r ≤ m - 1) (m0 : 1 ≤ m) (m1 : m ≤ 6) : dueD (.int t) (.int r) (.int m) = none := by
  unfold dueD
  rw [numV_of t0 t1, dueR_of r0 r1 m0 m1]
  rfl
theorem dueF_of {s r m l : Int} (s0 : 1 ≤ s) (s1 : s ≤ 400) (r0 : 0 ≤ r) (r1 : r ≤ m - 1) (m0 : 1 ≤ m) (m1 : m ≤ 6) (l0 : 0 ≤ l) (l1 : l ≤ 400) : dueF (.int s) (.int r) (.int m) (.int l) = none := by
  unfold dueF dueS
  rw [numV_of s0 s1, numV_of l0 l1, dueR_of r0 r1 m0 m1]
  rfl
/-- BadRule(z), raised -/
theorem bad_made {C : Addr} {E : XK} {W : WX} {σ : L2.St} {H : Hp} {z : Str} (h : Bad C E H z) (hW : ∀ cls d H', E cls d H' → W cls d σ H') : tMkO C (spBadI C) [] (tCons (tC (.str z)) tNil) σ H (fun cls d H' => W cls d σ H') := by
  refine ⟨(show 1 ≤ 1000 by decide), fun a ha => ⟨a, .str z, rfl, upd_same, fun d hd ne => ⟨rfl, d, _, upd_same, by rw [upd_ne ne, upd_same], by rw [upd_ne ne] at hd; exact hd, ?_⟩⟩⟩
  have hd0 : H d = none := by rw [upd_ne ne] at hd; exact hd
  have e : upd (del (upd (upd (upd H a (exo a C none)) d (exd d [("part", V.str z)])) a (exo a C (some d))) a) d (.xd [("part", V.str z)]) = upd H d (.xd [("part", V.str z)]) := by
    funext b
    by_cases hb : b = d
    · subst hb
      rw [upd_same, upd_same]
    · rw [upd_ne hb, upd_ne hb]
      by_cases hba : b = a
      · subst hba
        rw [del_same, ha]
      · rw [del_ne hba, upd_ne hba, upd_ne hb, upd_ne hba]
  show W (.ref C) (some d) σ (upd (del (upd (upd (upd H a (exo a C none)) d (exd d [("part", V.str z)])) a (exo a C (some d))) a) d (.xd [("part", V.str z)]))
  rw [e]
  exact hW _ _ _ (h d hd0)
/-- what the hearing of an act asks of the program -/
structure PrgE (K : PySem.W.Frag) (mg : Str → Option Value) (CB CF : Addr) : Prop where
  g_FreeError : mg "FreeError" = some (.ref CF)
  hit : PySem.W.exmOne K (.ref CB) (.ref CF) = some true
  exc : ExcC K CB
  xf : XfC K CB
  same : PySem.W.kitOne K (.ref CB) (.ref CB) = some true
/-- what the hearing makes of an act's reading -/
def TTh (CB : Addr) : (XK → Hp → VK → Prop) → Hp → VK → Prop := fun tl H Q => ∀ H1, Same H H1 →
  tl (fun cls d H' => cls = .ref CB ∧ ∃ (dd : Addr) (z : V), d = some dd ∧ H' dd = some (.xd [("part", z)]) ∧ ∀ H'' t, Same H' H'' → H'' t = some (.tup [.str "part", z]) → Q (.ref t) H'')
    H1 (fun x H' => ∀ H'' l, Same H' H'' → H'' l = some (.lst [x]) → Q (.ref l) H'')
/-- a value of a built-in kind, neither the pen nor l -/
def Good (p l : Addr) (H : Hp) (x : V) : Prop := Kd H x ∧ ∀ a, x = .ref a → a ≠ p ∧ a ≠ l
theorem Good.mv {p l : Addr} {H H' : Hp} {x : V} (h : Good p l H x) (m : Mv p H H') : Good p l H' x := ⟨h.1.keep fun a o e z => m a o (h.2 a e).1 z, h.2⟩
theorem Good.put {p l : Addr} {H : Hp} {x : V} {o : HO} (h : Good p l H x) : Good p l (upd H l o) x := ⟨h.1.keep fun a u e z => by rw [upd_ne (h.2 a e).2]; exact z, h.2⟩
theorem Good.int {p l : Addr} {H : Hp} (i : Int) : Good p l H (.int i) := ⟨True.intro, fun _ z => nomatch z⟩
theorem tabs_mv {T : List (Addr × Str)} {H H' : Hp} {p : Addr} {xs : List V} (hp : H p = some (.lst xs)) (m : Mv p H H') (t : LamX.Tabs T H) : LamX.Tabs T H' := fun b hb => by
  obtain ⟨ps, h1, h2, h3⟩ := t b hb
  refine ⟨ps, m _ _ (fun z => by rw [z, hp] at h1; cases h1) h1, h2, fun pos cv hc => ?_⟩
  obtain ⟨c, e1, e2⟩ := h3 pos cv hc
  exact ⟨c, e1, m _ _ (fun z => by rw [z, hp] at e2; cases e2) e2⟩
theorem Kd.ext {H H' : Hp} {x : V} (h : Kd H x) (s : LamX.ExtN H H') : Kd H' x := by
  cases x with
  | ref a =>
    rcases h with ⟨xs, h⟩ | ⟨xs, h⟩ | ⟨kvs, h⟩
    · exact .inl ⟨xs, s _ _ h fun _ z => nomatch z⟩
    · exact .inr (.inl ⟨xs, s _ _ h fun _ z => nomatch z⟩)
    · exact .inr (.inr ⟨kvs, s _ _ h fun _ z => nomatch z⟩)
  | _ => exact h
theorem made_same {H H' : Hp} {x dx C : Addr} (hx : H x = none) (hd : H dx = none) (m : Mv x (upd (upd H dx (.own x)) x (.ins C dx [])) H') : Same H H' := fun b o e => by
  have n1 := ne_of_none e hx
  have n2 := ne_of_none e hd
  exact m b o n1 (by rw [upd_ne n1, upd_ne n2]; exact e)
theorem extN_same {H H1 H2 : Hp} (a : LamX.ExtN H H1) (b : Same H1 H2) : LamX.ExtN H H2 := a.trans (.of b)
theorem Kd.put {H : Hp} {h : Addr} {xs ys : List V} {x : V} (k : Kd H x) (at_ : H h = some (.lst xs)) : Kd (upd H h (.lst ys)) x := by
  cases x with
  | ref a =>
    by_cases e : a = h
    · subst e
      exact .inr (.inl ⟨ys, upd_same⟩)
    · rcases k with ⟨zs, k⟩ | ⟨zs, k⟩ | ⟨zs, k⟩
      · exact .inl ⟨zs, by rw [upd_ne e]; exact k⟩
      · exact .inr (.inl ⟨zs, by rw [upd_ne e]; exact k⟩)
      · exact .inr (.inr ⟨zs, by rw [upd_ne e]; exact k⟩)
  | _ => exact k
theorem Same.new {H : Hp} {l : Addr} {o : HO} (h : H l = none) : Same H (upd H l o) := fun b u e => by
  rw [upd_ne (ne_of_none e h)]
  exact e
theorem Same.mv {H H' : Hp} (s : Same H H') (p : Addr) : Mv p H H' := fun b o _ e => s b o e
theorem Kd.same {H H' : Hp} {x : V} (h : Kd H x) (s : Same H H') : Kd H' x := h.keep fun a o _ e => s a o e
end Fz
set_option Elab.async false
set_option linter.all false
set_option maxRecDepth 100000
set_option maxHeartbeats 2000000
/-! Own layer, eighth part: rules made, and what is heard of their making. -/
namespace Fz
open PySem PySem.Spec PyProof.Rows L2
def toI : V → Int
  | .int i => i
  | _ => 0
/-- what a law hears of a making: the wrong part, or the object in a list -/
def Ans (C : Addr) (due : Option Str) (fs : Int → List (Str × V)) (H : Hp) (v : V) : Prop := (∃ (z : Str) (a : Addr), due = some z ∧ v = .ref a ∧ H a = some (.tup [.str "part", .str z])) ∨
  ∃ (a x dx : Addr) (k : Int), due = none ∧ v = .ref a ∧ H a = some (.lst [.ref x]) ∧ H x = some (.ins C dx (fs k))
section
variable {C CB : Addr} {due : Option Str} {fs : Int → List (Str × V)} {H H' : Hp} {v : V}
theorem Ans.ext (h : Ans C due fs H v) (s : LamX.ExtN H H') : Ans C due fs H' v := by
  rcases h with ⟨z, a, h1, h2, h3⟩ | ⟨a, x, dx, k, h1, h2, h3, h4⟩
  · exact .inl ⟨z, a, h1, h2, s _ _ h3 (fun _ z => nomatch z)⟩
  · exact .inr ⟨a, x, dx, k, h1, h2, s _ _ h3 (fun _ z => nomatch z), s _ _ h4 (fun _ z => nomatch z)⟩
theorem Ans.put {h : Addr} {a1 : V} {o : HO} {C' : Addr} {due' : Option Str} {fs' : Int → List (Str × V)} (k : Ans C due fs H v) (at_ : H h = some (.lst [a1])) (k1 : Ans C' due' fs' H a1) : Ans C due fs (upd H h o) v := by
  have no : ∀ {x C dx fs}, H x = some (.ins C dx fs) → a1 ≠ .ref x := fun {x C dx fs} hx e => by
    rcases k1 with ⟨_, b, _, e2, z⟩ | ⟨b, _, _, _, _, e2, z, _⟩ <;>
    · rw [e] at e2
      cases e2
      rw [hx] at z
      cases z
  rcases k with ⟨z, a, h1, h2, h3⟩ | ⟨a, x, dx, k, h1, h2, h3, h4⟩
  · exact .inl ⟨z, a, h1, h2, by rw [upd_ne (fun e => by rw [e, at_] at h3; cases h3)]; exact h3⟩
  · refine .inr ⟨a, x, dx, k, h1, h2, ?_, ?_⟩
    · rw [upd_ne (fun e => ?_)]
      · exact h3
      · rw [e, at_] at h3
        exact no h4 (List.cons.inj (HO.lst.inj (Option.some.inj h3))).1
    · rw [upd_ne (fun e => by rw [e, at_] at h4; cases h4)]
      exact h4
/-- what stands in the answer of a making -/
abbrev heardNx (Q : VK) : VK := fun x H' => ∀ H'' l, Same H' H'' → H'' l = some (.lst [x]) → Q (.ref l) H''
abbrev heardEx (CB : Addr) (Q : VK) : XK := fun cls d H' => cls = .ref CB ∧ ∃ (dd : Addr) (z : V), d = some dd ∧ H' dd = some (.xd [("part", z)]) ∧ ∀ H'' t, Same H' H'' → H'' t = some (.tup [.str "part", z]) → Q (.ref t) H''
end
section
variable {CD CB : Addr} {H : Hp} {Q : VK} {t r m z l : V} {x dx : Addr}
theorem up_made {C : Addr} (hx : H x = none) (hd : H dx = none) : Same H (upd (upd H dx (.own x)) x (.ins C dx [])) := fun b o e => by rw [upd_ne (ne_of_none e hx), upd_ne (ne_of_none e hd)]; exact e
theorem down_heard (kt : Kd H t) (kr : Kd H r) (km : Kd H m) (hQ : ∀ H' v, Same H H' → Ans CD (dueD t r m) (fun k => dfs (toI t) (toI r) (toI m) k) H' v → Q v H') (hx : H x = none) (hd : H dx = none) :
    spDown CB CD [.ref x, t, r, m] (upd (upd H dx (.own x)) x (.ins CD dx [])) (fun v H' => v = .non ∧ heardNx Q (.ref x) H') (heardEx CB Q) := by
  have up := up_made (C := CD) hx hd
  refine ⟨x, dx, t, r, m, rfl, upd_same, kt.same up, kr.same up, km.same up, fun z hz d hd2 => ⟨rfl, d, .str z, rfl, upd_same, fun H'' a s at_ => ?_⟩, fun ti ri mi H' e1 e2 e3 hz mv at_ => ⟨rfl, fun H'' a s at2 => ?_⟩⟩
  · exact hQ H'' _ (fun b o e => s b o (by rw [upd_ne (ne_of_none (up b o e) hd2)]; exact up b o e)) (.inl ⟨z, a, hz, rfl, at_⟩)
  · cases e1
    cases e2
    cases e3
    exact hQ H'' _ (fun b o e => s b o (made_same hx hd mv b o e)) (.inr ⟨a, x, dx, _, hz, rfl, at2, s _ _ at_⟩)
theorem down_made (kt : Kd H t) (kr : Kd H r) (km : Kd H m) (none_ : dueD t r m = none) {E : XK} (hx : H x = none) (hd : H dx = none)
    (hQ : ∀ H' k, Same H H' → H' x = some (.ins CD dx (dfs (toI t) (toI r) (toI m) k)) → Q (.ref x) H') :
    spDown CB CD [.ref x, t, r, m] (upd (upd H dx (.own x)) x (.ins CD dx [])) (fun v H' => v = .non ∧ Q (.ref x) H') E := by
  have up := up_made (C := CD) hx hd
  refine ⟨x, dx, t, r, m, rfl, upd_same, kt.same up, kr.same up, km.same up, fun z hz => ?_, fun ti ri mi H' e1 e2 e3 hz mv at_ => ⟨rfl, ?_⟩⟩
  · rw [none_] at hz
    cases hz
  · cases e1
    cases e2
    cases e3
    exact hQ H' _ (made_same hx hd mv) at_
theorem fixed_heard (kz : Kd H z) (kr : Kd H r) (km : Kd H m) (kl : Kd H l) (hQ : ∀ H' v, Same H H' → Ans CD (dueF z r m l) (fun k => ffs (toI z) (toI r) (toI m) (toI l) k) H' v → Q v H') (hx : H x = none) (hd : H dx = none) :
    spFixed CB CD [.ref x, z, r, m, l] (upd (upd H dx (.own x)) x (.ins CD dx [])) (fun v H' => v = .non ∧ heardNx Q (.ref x) H') (heardEx CB Q) := by
  have up := up_made (C := CD) hx hd
  refine ⟨x, dx, z, r, m, l, rfl, upd_same, kz.same up, kr.same up, km.same up, kl.same up, fun y H1 hy mv1 d hd2 => ⟨rfl, d, .str y, rfl, upd_same, fun H'' a s at_ => ?_⟩, fun ti ri mi li H' e1 e2 e3 e4 hz mv at_ => ⟨rfl, fun H'' a s at2 => ?_⟩⟩
  · have s1 := made_same hx hd mv1
    exact hQ H'' _ (fun b o e => s b o (by rw [upd_ne (ne_of_none (s1 b o e) hd2)]; exact s1 b o e)) (.inl ⟨y, a, hy, rfl, at_⟩)
  · cases e1
    cases e2
    cases e3
    cases e4
    exact hQ H'' _ (fun b o e => s b o (made_same hx hd mv b o e)) (.inr ⟨a, x, dx, _, hz, rfl, at2, s _ _ at_⟩)
theorem fixed_made (kz : Kd H z) (kr : Kd H r) (km : Kd H m) (kl : Kd H l) (none_ : dueF z r m l = none) {E : XK} (hx : H x = none) (hd : H dx = none)
    (hQ : ∀ H' k, Same H H' → H' x = some (.ins CD dx (ffs (toI z) (toI r) (toI m) (toI l) k)) → Q (.ref x) H') :
    spFixed CB CD [.ref x, z, r, m, l] (upd (upd H dx (.own x)) x (.ins CD dx [])) (fun v H' => v = .non ∧ Q (.ref x) H') E := by
  have up := up_made (C := CD) hx hd
  refine ⟨x, dx, z, r, m, l, rfl, upd_same, kz.same up, kr.same up, km.same up, kl.same up, fun y H1 hy => ?_, fun ti ri mi li H' e1 e2 e3 e4 hz mv at_ => ⟨rfl, ?_⟩⟩
  · rw [none_] at hy
    cases hy
  · cases e1
    cases e2
    cases e3
    cases e4
    exact hQ H' _ (made_same hx hd mv) at_
theorem dueD_some (h : dueD t r m = some x') : x' = ("to" : Str) ∨ x' = "modulus" ∨ x' = "rest" := by
  unfold dueD at h
  split at h
  · unfold dueR at h
    split at h
    · split at h
      · split at h
        · cases h
        · cases h
          exact .inr (.inr rfl)
      · cases h
    · cases h
      exact .inr (.inl rfl)
  · cases h
    exact .inl rfl
theorem dueF_some {y : Str} (h : dueF z r m l = some y) : y = "size" ∨ y = "leave" ∨ y = "modulus" ∨ y = "rest" := by
  unfold dueF at h
  split at h
  · rename_i e
    cases h
    unfold dueS at e
    split at e
    · split at e
      · cases e
      · cases e
        exact .inr (.inl rfl)
    · cases e
      exact .inl rfl
  · unfold dueR at h
    split at h
    · split at h
      · split at h
        · cases h
        · cases h
          exact .inr (.inr (.inr rfl))
      · cases h
    · cases h
      exact .inr (.inr (.inl rfl))
end
def partNames : List Str := ["to", "size", "leave", "modulus", "rest"]
theorem part_shaped : ∀ z ∈ partNames, SeqAt.shaped (.tuple [.str "part", .str z]) = true := by decide +kernel
end Fz

set_option Elab.async false
set_option linter.all false
set_option maxRecDepth 100000
set_option maxHeartbeats 2000000
/-! Own layer, ninth part: == and != of an instance by its class's own __eq__; str of an instance by its own __str__. -/
namespace Fz
open PySem PySem.Spec PyProof.Rows L2
section
variable {prog : Program} {w : World} {A : Around} {E : Value → Shared → Prop} {s : Shared} {K : PySem.W.Frag} {x C f : Addr} {ox : Obj} {od : Option Obj} {b tb : Value}
theorem bound_ne {M : Model} {args : List Value} {Q : Option Value → Shared → Prop} (X : K.In s.heap) (J : PySem.W.InstAt s.heap x ox C od) (slot : PySem.W.findIn K (.ref C) "__ne__" = some (some (.builtin "object.__ne__")))
    (called : wpAny M A (call (.builtin "object.__ne__") (.ref x :: args)) (fun v => Q (some v)) E s) : wpAny M A (callSpecialIfBound? (.ref x) "__ne__" args) Q E s := by
  simp only [callSpecialIfBound?, bindSpecialIfBound?]
  refine wpAny_holding <| wpAny_bind <| wpAny_bind <| wpAny_bind <| J.type.here <| (PySem.W.looks_findIn X slot).here ?_
  refine wpAny_bind <| wpAny_askSetting <| wpAny_ite ?_
  have end_ : wpAny M A (call (.builtin "object.__ne__") ([.ref x] ++ args) >>= fun v => pure (some v)) Q E s := wpAny_bind (wpAny_mono called (fun _ _ z => wpAny_pure z) fun _ _ z => z)
  split
  · exact wpAny_bind (wpAny_of_eq (F.cmp_object.ne.bind _) <| wpAny_pure (by exact end_))
  · exact wpAny_tryCatch (wpAny_bind (wpAny_of_eq (F.cmp_object.ne.bind _) <| wpAny_pure (by exact end_)))
theorem body_ne {Q : Fin → Shared → Prop} (room : A.units < cLine) (X : K.In s.heap) (J : PySem.W.InstAt s.heap x ox C od) (own : PySem.W.findIn K (.ref C) "__eq__" = some (some (.ref f))) (isF : PySem.W.isFn K (.ref f) = true)
    (called : wpAny (model prog w) A (call (.ref f) [.ref x, b]) (fun v s' => ∃ c, v = .bool c ∧ Q (.done (.ret (.bool (!c)))) s') E s) : wpAny (model prog w) A (Builtin.«object.__ne__» ⟨[.ref x, b], []⟩) Q E s := by
  unfold Builtin.«object.__ne__»
  repeat (first
    | with_reducible refine wpAny_cRoomFor room ?_
    | (refine wpAny_bind (m := callSpecialIfBound? (.ref x) (Str.ofString "__eq__") [b]) (PySem.W.ifBound_K X J own isF (wpAny_mono called (fun r s' z => by
          obtain ⟨c, rfl, q⟩ := z
          repeat (first | exact q | exact wpAny_pure q | exact wpAny_truthy_bool q | (refine wpAny_bind (m := truthy (.bool _)) (wpAny_truthy_bool ?_)) | wp_step)) fun _ _ z => z)))
    | wp_step)
theorem ne_own {Q : Value → Shared → Prop} (room : A.units + 1 < cLine) (X : K.In s.heap) (J : PySem.W.InstAt s.heap x ox C od) (isTb : PySem.W.Looks (model prog w) s.heap (typeOf b) tb) (first_ : PySem.W.notFirst K C tb = true)
    (slot : PySem.W.findIn K (.ref C) "__ne__" = some (some (.builtin "object.__ne__"))) (hm : PySem.W.mroIn K C (.type "object") = some true) (own : PySem.W.findIn K (.ref C) "__eq__" = some (some (.ref f))) (isF : PySem.W.isFn K (.ref f) = true)
    (called : wpAny (model prog w) A.in1 (call (.ref f) [.ref x, b]) (fun v s' => ∃ c, v = .bool c ∧ Q (.bool (!c)) s') E s) : wpAny (model prog w) A (richCompare .NotEq (.ref x) b) Q E s := by
  have one : wpAny (model prog w) A (tryCompare (.ref x) "__ne__" b) (fun r s' => ∃ v, r = some v ∧ Q v s') E s := by
    unfold tryCompare
    refine wpAny_bind <| bound_ne X J slot ?_
    refine wpAny_call <| codeAny_call_builtin F.cmp_object.ne.plain F.cmpEntry_ne <| PySem.W.check_slot F.cmpKind_ne F.cmpSplit_ne (J.type.andThen (PySem.W.looks_mroIn X hm)) (F.cmpArgs_ne _ _) ?_
    refine body_ne (A := A.in1) room X J own isF <| wpAny_mono called (fun v s' z => ?_) fun _ _ z => z
    obtain ⟨c, rfl, q⟩ := z
    exact ⟨c, rfl, wpAny_pure ⟨_, rfl, q⟩⟩
  unfold richCompare
  simp only [oneThing_ref]
  refine wpAny_holding <| wpAny_bind <| wpAny_cRoomFor (Nat.lt_of_succ_lt room) ?_
  rw [cmpInfo_NotEq]
  refine wpAny_bind <| J.type.here <| wpAny_bind <| isTb.here ?_
  split
  · rename_i q
    have below : PySem.W.subIn K tb (.ref C) = some false := by
      rcases Bool.or_eq_true_iff.mp first_ with z | z
      · rw [beq_iff_eq.mp z] at q
        simp at q
      · exact beq_iff_eq.mp z
    refine wpAny_bind <| (PySem.W.looks_subIn X below).here ?_
    simp only [Bool.false_eq_true, if_false]
    refine wpAny_bind <| wpAny_mono one (fun r s' z => ?_) fun _ _ z => z
    obtain ⟨v, rfl, q⟩ := z
    exact wpAny_pure q
  · refine wpAny_bind <| wpAny_pure ?_
    simp only [Bool.false_eq_true, if_false]
    refine wpAny_bind <| wpAny_mono one (fun r s' z => ?_) fun _ _ z => z
    obtain ⟨v, rfl, q⟩ := z
    exact wpAny_pure q
end
section
variable {X : Cx} {C f : Addr} {fd : FuncData} {ps : List Str} {sp : Sp} {k : Nat}
/-- x == y, x an instance of the class at C, whose def at f compares by sp -/
def rEqO (K : PySem.W.Frag) (C : Addr) (sp : Sp) : R2 := fun x y H Q => ∃ (a dx : Addr) (fs : List (Str × V)) (t : Value), x = .ref a ∧ H a = some (.ins C dx fs) ∧ TyX K H y t ∧ PySem.W.notFirst K C t = true ∧ sp [x, y] H Q E0
theorem op_eqO (own : PySem.W.findIn X.K (.ref C) "__eq__" = some (some (.ref f))) (isF : PySem.W.isFn X.K (.ref f) = true) (F : FnOk X.prog X.w X.K X.mg X.base CX0 k f fd ps sp) (binds : L2.Binds X.K fd ps []) (room : Room k X.A) : OpR X (compareOp .Eq) (rEqO X.K C sp) := by
  intro pins s σ H x y v u Q I rx ry h
  obtain ⟨a, dx, fs, t, rfl, ha, ty, nf, q⟩ := h
  cases (show v = Value.ref a from rx)
  obtain ⟨mA, O, _⟩ := ins_get I.hok ha
  obtain ⟨od, J, _⟩ := O.look
  obtain ⟨P, Z, p, _⟩ := kit_of I ry ty
  obtain ⟨m, hF⟩ := I.fr
  show wpAny _ _ (richCompare .Eq (.ref a) u) _ _ _
  refine PySem.W.cmp_K (op := .Eq) (tb := t) room.units0 hF I.ok.mod.kin J (Z.ty _ _ I.kIn p) nf own isF ?_
  refine wpAny_mono (run_fn (us := [.ref a, u]) (vs := [.ref a, y]) F room binds .nil pass0 I (.cons rfl (.cons ry .nil)) q) (fun w s' z => ?_) fun _ _ z => z
  obtain ⟨z', H', I', rz, qz⟩ := z
  exact SlX.cmpback rz ⟨z', H', I', rz, qz⟩
/-- x != y of the same -/
def rNeO (K : PySem.W.Frag) (C : Addr) (sp : Sp) : R2 := fun x y H Q => ∃ (a dx : Addr) (fs : List (Str × V)) (t : Value), x = .ref a ∧ H a = some (.ins C dx fs) ∧ TyX K H y t ∧ PySem.W.notFirst K C t = true ∧ sp [x, y] H (fun z H' => ∃ c, z = .bl c ∧ Q (.bl (!c)) H') E0
theorem op_neO (own : PySem.W.findIn X.K (.ref C) "__eq__" = some (some (.ref f))) (isF : PySem.W.isFn X.K (.ref f) = true) (slot : PySem.W.findIn X.K (.ref C) "__ne__" = some (some (.builtin "object.__ne__"))) (hm : PySem.W.mroIn X.K C (.type "object") = some true)
    (F : FnOk X.prog X.w X.K X.mg X.base CX0 k f fd ps sp) (binds : L2.Binds X.K fd ps []) (room : Room (k + 1) X.A) : OpR X (compareOp .NotEq) (rNeO X.K C sp) := by
  intro pins s σ H x y v u Q I rx ry h
  obtain ⟨a, dx, fs, t, rfl, ha, ty, nf, q⟩ := h
  cases (show v = Value.ref a from rx)
  obtain ⟨mA, O, _⟩ := ins_get I.hok ha
  obtain ⟨od, J, _⟩ := O.look
  obtain ⟨P, Z, p, _⟩ := kit_of I ry ty
  show wpAny _ _ (richCompare .NotEq (.ref a) u) _ _ _
  have r2 : Vals [V.ref a, y] [Value.ref a, u] := .cons rfl (.cons ry .nil)
  have many : ([Value.ref a, u] ++ ([] : List Value)).length = ps.length := r2.length.symm.trans (F.len _ _ _ _ q)
  refine ne_own (tb := t) (by have := room.units; omega) I.kIn J (Z.ty _ _ I.kIn p) nf slot hm own isF ?_
  refine wpAny_call (codeAny_mono (F.run X.A.in1 X.stack s H ⟨[.ref a, u], []⟩ ([.ref a, u] ++ []) [.ref a, y] _ E0 room.in1 I.env0.in1 (binds s [.ref a, u] I.kIn many) r2 q) fun res s' got => ?_)
  match res, got with
  | .error e, got => exact got.elim
  | .ok (.ret z), got =>
    obtain ⟨z', H', I', rz, c, rfl, qz⟩ := I.after got
    cases (show z = Value.bool c from rz)
    exact ⟨c, rfl, .bl (!c), H', I', rfl, qz⟩
  | .ok .next, got => exact got.elim
  | .ok .brk, got => exact got.elim
  | .ok .cont, got => exact got.elim
/-- str(x) of an instance -/
def rStrO (C : Addr) (sp : Sp) : List V → Hp → VK → Prop := fun vs H Q => ∃ (a dx : Addr) (fs : List (Str × V)), vs = [.ref a] ∧ H a = some (.ins C dx fs) ∧ sp [.ref a] H (fun z H' => ∃ t, z = .str t ∧ Q (.str t) H') E0
theorem call_strO (own : PySem.W.findIn X.K (.ref C) "__str__" = some (some (.ref f))) (isF : PySem.W.isFn X.K (.ref f) = true) (F : FnOk X.prog X.w X.K X.mg X.base CX0 k f fd ps sp) (binds : L2.Binds X.K fd ps []) (room : Room (k + 2) X.A) : CallR X (.type "str") (rStrO C sp) := by
  intro pins s σ H vs us Q I rvs h
  obtain ⟨a, dx, fs, rfl, ha, q⟩ := h
  obtain ⟨u, rfl, ru⟩ := vals1 rvs
  cases ru
  obtain ⟨mA, O, _⟩ := ins_get I.hok ha
  obtain ⟨od, J, _⟩ := O.look
  have r2 : Vals [V.ref a] [Value.ref a] := .cons rfl .nil
  have many : ([Value.ref a] ++ ([] : List Value)).length = ps.length := r2.length.symm.trans (F.len _ _ _ _ q)
  have room2 : Room k X.A.in1.in1 := (show Room (k + 1) X.A.in1 from Room.in1 room).in1
  refine PySem.W.kso_call (by have := room2.units; omega) I.kIn J own isF ?_
  refine wpAny_call (codeAny_mono (F.run X.A.in1.in1 X.stack s H ⟨[.ref a], []⟩ ([.ref a] ++ []) [.ref a] _ E0 room2 I.env0.in1.in1 (binds s [.ref a] I.kIn many) r2 q) fun res s' got => ?_)
  match res, got with
  | .error e, got => exact got.elim
  | .ok (.ret z), got =>
    obtain ⟨z', H', I', rz, t, rfl, qz⟩ := I.after got
    obtain ⟨tk, e⟩ := (show ∃ tk, z = Value.str t tk from rz)
    cases e
    exact ⟨.str t, H', I', ⟨tk, rfl⟩, qz⟩
  | .ok .next, got => exact got.elim
  | .ok .brk, got => exact got.elim
  | .ok .cont, got => exact got.elim
end
end Fz

set_option Elab.async false
set_option linter.all false
set_option maxRecDepth 100000
set_option maxHeartbeats 2000000
/-! Own layer, tenth part: rules as data. -/
namespace Fz
open PySem PySem.Spec PyProof.Rows L2
/-- a rule's numbers: size, rest, modulus, leave; or to, rest, modulus -/
inductive RD where
  | fixed (s r m l : Int)
  | down (t r m : Int)
deriving DecidableEq
def RD.isF : RD → Bool
  | .fixed _ _ _ _ => true
  | .down _ _ _ => false
def RD.num : RD → Int
  | .fixed s _ _ _ => s
  | .down t _ _ => t
def RD.rest : RD → Int
  | .fixed _ r _ _ => r
  | .down _ r _ => r
def RD.mod : RD → Int
  | .fixed _ _ m _ => m
  | .down _ _ m => m
def RD.leave : RD → Int
  | .fixed _ _ _ l => l
  | .down _ _ _ => 0
def RD.start : RD → Int
  | .fixed s _ _ l => s + l
  | .down t _ _ => t + 1
def RD.kind (d : RD) : Str := if d.isF = true then "fixed" else "down"
/-- its numbers are those of a rule -/
structure RD.Wf (d : RD) : Prop where
  n0 : (if d.isF = true then 1 else 0) ≤ d.num
  n1 : d.num ≤ 400
  r0 : 0 ≤ d.rest
  r1 : d.rest ≤ d.mod - 1
  m0 : 1 ≤ d.mod
  m1 : d.mod ≤ 6
  l0 : 0 ≤ d.leave
  l1 : d.leave ≤ 400
def RD.rank : RD → Int
  | .fixed s r m l => rankI 0 s m r l
  | .down t r m => rankI 1 t m r 0
def RD.fs : RD → List (Str × V)
  | .fixed s r m l => ffs s r m l (rankI 0 s m r l)
  | .down t r m => dfs t r m (rankI 1 t m r 0)
/-- a law's tuple of it -/
def RD.tup (d : RD) : List V := [.str d.kind, .int d.num, .int d.rest, .int d.mod, .int d.leave]
def RD.cls (CF CD : Addr) (d : RD) : Addr := if d.isF = true then CF else CD
/-- the rule stands at x -/
def RuleAt (CF CD : Addr) (H : Hp) (x : Addr) (d : RD) : Prop := ∃ dx, H x = some (.ins (d.cls CF CD) dx d.fs)
theorem RuleAt.same {CF CD : Addr} {H H' : Hp} {x : Addr} {d : RD} (h : RuleAt CF CD H x d) (s : Same H H') : RuleAt CF CD H' x d := h.imp fun _ z => s _ _ z
theorem RuleAt.mv {CF CD : Addr} {H H' : Hp} {p x : Addr} {d : RD} {n : Nat} {q : Addr} (h : RuleAt CF CD H x d) (pen : PenAt n H p q) (s : Mv p H H') : RuleAt CF CD H' x d := by
  obtain ⟨dx, z⟩ := h
  obtain ⟨xs, hp⟩ := pen.lst
  exact ⟨dx, s _ _ (fun e => by rw [e, hp] at z; cases z) z⟩
theorem RuleAt.ext {CF CD : Addr} {H H' : Hp} {x : Addr} {d : RD} (h : RuleAt CF CD H x d) (s : LamX.ExtN H H') : RuleAt CF CD H' x d := h.imp fun _ z => s _ _ z (fun _ z => nomatch z)
theorem rank_inj {d e : RD} (hd : d.Wf) (he : e.Wf) (same : d.isF = e.isF) (h : d.rank = e.rank) : d = e := by
  cases d with
  | fixed s r m l =>
    cases e with
    | fixed s' r' m' l' =>
      have a := hd.n0; have b := hd.n1; have c := hd.r0; have d1 := hd.r1; have e1 := hd.m0; have f := hd.m1; have g := hd.l0; have i := hd.l1
      have a' := he.n0; have b' := he.n1; have c' := he.r0; have d' := he.r1; have e' := he.m0; have f' := he.m1; have g' := he.l0; have i' := he.l1
      simp only [RD.isF, RD.num, RD.rest, RD.mod, RD.leave, if_true] at a b c d1 e1 f g i a' b' c' d' e' f' g' i'
      have h2 : (((0 * 401 + s) * 401 + m) * 401 + r) * 401 + l = (((0 * 401 + s') * 401 + m') * 401 + r') * 401 + l' := h
      have q1 : s = s' := by omega
      have q2 : m = m' := by omega
      have q3 : r = r' := by omega
      have q4 : l = l' := by omega
      rw [q1, q2, q3, q4]
    | down _ _ _ => cases same
  | down t r m =>
    cases e with
    | fixed _ _ _ _ => cases same
    | down t' r' m' =>
      have a := hd.n0; have b := hd.n1; have c := hd.r0; have d1 := hd.r1; have e1 := hd.m0; have f := hd.m1
      have a' := he.n0; have b' := he.n1; have c' := he.r0; have d' := he.r1; have e' := he.m0; have f' := he.m1
      simp only [RD.isF, RD.num, RD.rest, RD.mod, Bool.false_eq_true, if_false] at a b c d1 e1 f a' b' c' d' e' f'
      have h2 : (((1 * 401 + t) * 401 + m) * 401 + r) * 401 + 0 = (((1 * 401 + t') * 401 + m') * 401 + r') * 401 + 0 := h
      have q1 : t = t' := by omega
      have q2 : m = m' := by omega
      have q3 : r = r' := by omega
      rw [q1, q2, q3]
theorem rank_ne {d e : RD} (hd : d.Wf) (he : e.Wf) : (d.isF = e.isF ∧ d.rank = e.rank) ↔ d = e := ⟨fun h => rank_inj hd he h.1 h.2, fun h => by rw [h]; exact ⟨rfl, rfl⟩⟩
theorem fs_rank (d : RD) : d.fs.lookup ("rank" : Str) = some (V.int d.rank) := by cases d <;> rfl
theorem fs_start (d : RD) : d.fs.lookup ("start" : Str) = some (V.int d.start) := by cases d <;> rfl
theorem fs_rest (d : RD) : d.fs.lookup ("rest" : Str) = some (V.int d.rest) := by cases d <;> rfl
theorem fs_modulus (d : RD) : d.fs.lookup ("modulus" : Str) = some (V.int d.mod) := by cases d <;> rfl
section
variable {CF CD CB : Addr} {H : Hp} {Q : VK} {x dx : Addr} {E : XK}
theorem down_rule {t r m : Int} (wf : (RD.down t r m).Wf) (hx : H x = none) (hd : H dx = none) (hQ : ∀ H', Same H H' → RuleAt CF CD H' x (.down t r m) → Q (.ref x) H') :
    spDown CB CD [.ref x, .int t, .int r, .int m] (upd (upd H dx (.own x)) x (.ins CD dx [])) (fun v H' => v = .non ∧ Q (.ref x) H') E := by
  have a := wf.n0; have b := wf.n1; have c := wf.r0; have d := wf.r1; have e := wf.m0; have f := wf.m1
  have none_ : dueD (.int t) (.int r) (.int m) = none := dueD_of a b c d e f
  refine ⟨x, dx, _, _, _, rfl, upd_same, True.intro, True.intro, True.intro, fun z hz => ?_, fun ti ri mi H' e1 e2 e3 hz mv at_ => ⟨rfl, ?_⟩⟩
  · rw [none_] at hz
    cases hz
  · cases e1
    cases e2
    cases e3
    exact hQ H' (made_same hx hd mv) ⟨dx, at_⟩
theorem fixed_rule {s r m l : Int} (wf : (RD.fixed s r m l).Wf) (hx : H x = none) (hd : H dx = none) (hQ : ∀ H', Same H H' → RuleAt CF CD H' x (.fixed s r m l) → Q (.ref x) H') :
    spFixed CB CF [.ref x, .int s, .int r, .int m, .int l] (upd (upd H dx (.own x)) x (.ins CF dx [])) (fun v H' => v = .non ∧ Q (.ref x) H') E := by
  have a := wf.n0; have b := wf.n1; have c := wf.r0; have d := wf.r1; have e := wf.m0; have f := wf.m1; have g := wf.l0; have i := wf.l1
  have none_ : dueF (.int s) (.int r) (.int m) (.int l) = none := dueF_of a b c d e f g i
  refine ⟨x, dx, _, _, _, _, rfl, upd_same, True.intro, True.intro, True.intro, True.intro, fun z _ hz => ?_, fun si ri mi li H' e1 e2 e3 e4 hz mv at_ => ⟨rfl, ?_⟩⟩
  · rw [none_] at hz
    cases hz
  · cases e1
    cases e2
    cases e3
    cases e4
    exact hQ H' (made_same hx hd mv) ⟨dx, at_⟩
end
theorem isDown_down : decide ((V.str "down") = V.str "down") = true := by decide +kernel
theorem isDown_fixed : decide ((V.str "fixed") = V.str "down") = false := by decide +kernel
theorem isFixed_fixed : decide ((V.str "fixed") = V.str "fixed") = true := by decide +kernel
theorem isFixed_down : decide ((V.str "down") = V.str "fixed") = false := by decide +kernel
/-- == of rules of the class at C -/
def spEqR (K : PySem.W.Frag) (C : Addr) : Sp := fun vs H Q _ => ∃ (a dx : Addr) (fs : List (Str × V)) (k : Int) (y : V), vs = [.ref a, y] ∧ H a = some (.ins C dx fs) ∧ fs.lookup ("rank" : Str) = some (V.int k) ∧
  ((∃ (b dy : Addr) (gs : List (Str × V)) (j : Int), y = .ref b ∧ H b = some (.ins C dy gs) ∧ gs.lookup ("rank" : Str) = some (V.int j) ∧ Q (.bl (decide (k = j))) H) ∨ (∃ t, TyX K H y t ∧ PySem.W.kitOne K t (.ref C) = some false ∧ Q (.bl false) H))
def spParts : Sp := fun vs H Q _ => ∃ (n : Nat) (p q : Addr) (most : Int), vs = [.ref p, .int most] ∧ PenAt n H p q ∧ n < 99000 ∧ 1 ≤ most ∧ most ≤ 400 ∧
  ∀ H' tp d, PenAt (n + 6) H' p q → Mv p H H' → H tp = none → H' tp = some (.tup (RD.tup d)) → d.Wf → (d.isF = true → d.num ≤ most ∧ d.leave ≤ (if most ≤ 2 then 2 else most - 1)) → (d.isF = false → d.num < most) → Q (.ref tp) H'
def spRule (CF CD : Addr) : Sp := fun vs H Q _ => ∃ (tp : Addr) (d : RD), vs = [.ref tp] ∧ H tp = some (.tup d.tup) ∧ d.Wf ∧ ∀ H' x, Same H H' → H x = none → RuleAt CF CD H' x d → Q (.ref x) H'
theorem nf_ty {K : PySem.W.Frag} {C : Addr} {n : String} {l : List Value} (e : fastBuiltinMro n = some l) (h : l.contains (.ref C) = false) : PySem.W.notFirst K C (.type n) = true := by
  have z : PySem.W.subIn K (.type n) (.ref C) = some false := by
    show (fastBuiltinMro n).map (·.contains (.ref C)) = some false
    rw [e]
    exact congrArg some h
  unfold PySem.W.notFirst
  rw [z]
  simp
end Fz

set_option Elab.async false
set_option linter.all false
set_option maxRecDepth 100000
set_option maxHeartbeats 2000000
/-! Own layer, eleventh part: rules compared; methods called by keywords; two rules for one expression. -/
namespace Fz
open PySem PySem.Spec PyProof.Rows L2
section
variable {X : Cx} {e : Expr} {t t' : TE}
def tEither (t t' : TE) : TE := fun σ H Q => t σ H Q ∨ t' σ H Q
theorem pe_or (h : PE X e t) (h' : PE X e t') : PE X e (tEither t t') := ⟨fun pins s σ H Q I z => z.elim (h.run pins s σ H Q I) (h'.run pins s σ H Q I)⟩
def rEither (r r' : R2) : R2 := fun x y H Q => r x y H Q ∨ r' x y H Q
end
section
variable {X : Cx} {CX : CXT} {k : Nat} {C f : Addr} {fd : FuncData} {ps ks : List Str} {sp : Sp} {E : XK} {m : Str} {pos apos : Pos} {o : Expr} {kws : List Keyword} {ta : TE} {tk : TA} {g : List Value → List Value → List Value} {gV : List V → List V → List V}
/-- o.m(k = v, ..) -/
def tMethK (C : Addr) (m : Str) (n : Nat) (sp : Sp) (gV : List V → List V → List V) (E : XK) (ta : TE) (tk : TA) : TE := fun σ H Q => ta σ H fun x H1 => ∃ (a dx : Addr) (fs : List (Str × V)), x = .ref a ∧ H1 a = some (.ins C dx fs) ∧ fs.lookup m = none ∧
  tk σ H1 fun zs H2 => zs.length = n ∧ sp (gV [.ref a] zs) H2 Q E
theorem pe_methK0 {pl : Sem Bool} (he : PE X o ta) (c : Cls X.K C) (hm : Meth X.K C m f) (F : FnOk X.prog X.w X.K X.mg X.base CX k f fd ps sp) (room : Room k X.A) (binds : KBn X.K fd ps 1 ks g gV) (pass : Passes CX X E) (hkw : PK X kws tk)
    (named : (backToKw pos (keywordEach kws X.env)).all (·.1.isSome) = true := by rfl) (names : (backToKw pos (keywordEach kws X.env)).filterMap (·.1) = ks := by rfl)
    (plain : ((backTo pos (starEach [] X.env)).any (·.1) || (backToKw pos (keywordEach kws X.env)).any (·.1.isNone)) = false := by rfl)
    (tree : eval (.Call (.Attribute o m apos) [] kws pos) X.env = (do
      let ov ← eval o X.env
      standAt apos.atName
      let (f, first) ← holding [ov] (getMethod ov m pl)
      callWith pos f first (backTo pos (starEach [] X.env)) (backToKw pos (keywordEach kws X.env))) := by rfl) :
    PE X (.Call (.Attribute o m apos) [] kws pos) (tMethK C m ks.length sp gV E ta tk) := by
  refine ⟨fun pins s σ H Q I h => PySem.W.methodCall_KW (pl := pl) (thn (he.run pins s σ H _ I h) fun u s1 ⟨x, H1, I1, rx, a, dx, fs, ex, ea, l, q⟩ => ?_) tree⟩
  subst ex
  obtain rfl : u = Value.ref a := rx
  refine getmeth_ok I1 ea c hm l ?_
  refine PySem.W.callWith_KW0 (first := [.ref a]) (h₀ := X.base) I1.ok.mod.kin hm.kp named ?_ plain
  refine thn (hkw.run pos pins s1 σ H1 _ I1 q) fun ws s2 ⟨zs, H2, I2, rz, len, q2⟩ => ⟨I2.kIn, ?_⟩
  rw [names]
  refine wpAny_call (codeAny_mono (F.run X.A X.stack s2 H2 ⟨[.ref a], ks.zip ws⟩ (g [.ref a] ws) (gV [.ref a] zs) Q E room I2.env0 (binds.to s2 [.ref a] ws I2.kIn rfl (rz.length.symm.trans len)) (binds.rel (.cons rfl .nil) rz) q2) fun res s' got => ?_)
  match res, got with
  | .error err, got => exact pass pins σ H2 s2 err s' I2 got
  | .ok (.ret u), got => exact I2.after got
  | .ok .next, got => exact got.elim
  | .ok .brk, got => exact got.elim
  | .ok .cont, got => exact got.elim
end
/-- what the comparing of rules asks -/
structure PrgQ (K : PySem.W.Frag) (CF CD : Addr) : Prop where
  icF : InsC K CF
  icD : InsC K CD
  tyF : TyC K CF
  tyD : TyC K CD
  nFD : PySem.W.notFirst K CF (.ref CD) = true
  nDF : PySem.W.notFirst K CD (.ref CF) = true
  kFF : PySem.W.kitOne K (.ref CF) (.ref CF) = some true
  kFD : PySem.W.kitOne K (.ref CF) (.ref CD) = some false
  kDF : PySem.W.kitOne K (.ref CD) (.ref CF) = some false
  kDD : PySem.W.kitOne K (.ref CD) (.ref CD) = some true
  tF : PySem.W.typeIn K (.ref CF) = some (.type "type")
  tD : PySem.W.typeIn K (.ref CD) = some (.type "type")
/-- a value of a built-in type -/
def OtherV (K : PySem.W.Frag) (H : Hp) (y : V) : Prop := ∃ (n : String) (l : List Value), TyX K H y (.type n) ∧ fastBuiltinMro n = some l ∧ ∀ C, l.contains (.ref C) = false
theorem nf_self {K : PySem.W.Frag} {C : Addr} : PySem.W.notFirst K C (.ref C) = true := by
  unfold PySem.W.notFirst
  simp
theorem kit_other {K : PySem.W.Frag} {C : Addr} {n : String} {l : List Value} (hd : PySem.W.hasDictIn K C = true) (tC : PySem.W.typeIn K (.ref C) = some (.type "type")) (e : fastBuiltinMro n = some l) (h : l.contains (.ref C) = false) : PySem.W.kitOne K (.type n) (.ref C) = some false := by
  obtain ⟨cd, hc, _⟩ := PySem.W.any_some hd
  have z : PySem.W.subIn K (.type n) (.ref C) = some false := by
    show (fastBuiltinMro n).map (·.contains (.ref C)) = some false
    rw [e]
    exact congrArg some h
  have ne : (Value.type n == Value.ref C) = false := by simp
  have ok : ((PySem.W.clsIn K C).isSome && PySem.W.typeIn K (.ref C) == some (.type "type")) = true := by rw [hc, tC] <;> rfl
  unfold PySem.W.kitOne
  rw [ne, if_neg Bool.false_ne_true]
  show (if _ then PySem.W.subIn K (.type n) (.ref C) else none) = some false
  rw [if_pos ok]
  exact z
theorem other_non {K : PySem.W.Frag} {H : Hp} : OtherV K H .non := ⟨"NoneType", _, .base .non, rfl, fun C => rfl⟩
theorem other_bl {K : PySem.W.Frag} {H : Hp} (b : Bool) : OtherV K H (.bl b) := ⟨"bool", _, .base (.bl b), rfl, fun C => rfl⟩
theorem other_int {K : PySem.W.Frag} {H : Hp} (i : Int) : OtherV K H (.int i) := ⟨"int", _, .base (.int i), rfl, fun C => rfl⟩
theorem other_str {K : PySem.W.Frag} {H : Hp} (z : Str) : OtherV K H (.str z) := ⟨"str", _, .base (.str z), rfl, fun C => rfl⟩
theorem other_lst {K : PySem.W.Frag} {H : Hp} {a : Addr} {xs : List V} (h : H a = some (.lst xs)) : OtherV K H (.ref a) := ⟨"list", _, .base (.lst h), rfl, fun C => rfl⟩
theorem other_tup {K : PySem.W.Frag} {H : Hp} {a : Addr} {xs : List V} (h : H a = some (.tup xs)) : OtherV K H (.ref a) := ⟨"tuple", _, .base (.tup h), rfl, fun C => rfl⟩
theorem other_dK {K : PySem.W.Frag} {H : Hp} {a : Addr} {kvs : List (Key × V)} (h : H a = some (.dK kvs)) : OtherV K H (.ref a) := ⟨"dict", _, .base (.dK h), rfl, fun C => rfl⟩
theorem OtherV.same {K : PySem.W.Frag} {H H' : Hp} {y : V} (k : Kd H y) (s : Same H H') : OtherV K H' y := by
  cases y with
  | non => exact other_non
  | bl b => exact other_bl b
  | int i => exact other_int i
  | str z => exact other_str z
  | ref a =>
    rcases k with ⟨xs, h⟩ | ⟨xs, h⟩ | ⟨kvs, h⟩
    · exact other_tup (s _ _ h)
    · exact other_lst (s _ _ h)
    · exact other_dK (s _ _ h)
  | flt _ => exact k.elim
  | byt _ => exact k.elim
  | ty _ => exact k.elim
section
variable {K : PySem.W.Frag} {CF CD x y : Addr} {H : Hp} {Q : VK} {d e : RD}
theorem PrgQ.sp_rules (P : PrgQ K CF CD) {C : Addr} {dx dy : Addr} {fs gs : List (Str × V)} {k j : Int} (hx : H x = some (.ins C dx fs)) (rk : fs.lookup ("rank" : Str) = some (V.int k)) (hy : H y = some (.ins C dy gs)) (rj : gs.lookup ("rank" : Str) = some (V.int j)) (fin : Q (.bl (decide (k = j))) H) :
    spEqR K C [.ref x, .ref y] H Q E0 := ⟨x, dx, fs, k, _, rfl, hx, rk, .inl ⟨y, dy, gs, j, rfl, hy, rj, fin⟩⟩
theorem dec_rank (hd : d.Wf) (he : e.Wf) (same : d.isF = e.isF) : decide (d.rank = e.rank) = decide (d = e) := by
  by_cases z : d = e
  · rw [z, decide_eq_true rfl, decide_eq_true rfl]
  · rw [decide_eq_false z, decide_eq_false fun h => z (rank_inj hd he same h)]
theorem eq_rules (P : PrgQ K CF CD) (hx : RuleAt CF CD H x d) (hy : RuleAt CF CD H y e) (wd : d.Wf) (we : e.Wf) (fin : Q (.bl (decide (d = e))) H) : rEither (rEqO K CF (spEqR K CF)) (rEqO K CD (spEqR K CD)) (.ref x) (.ref y) H Q := by
  obtain ⟨dx, ax⟩ := hx
  obtain ⟨dy, ay⟩ := hy
  cases d with
  | fixed s r m l =>
    refine .inl ⟨x, dx, (RD.fixed s r m l).fs, ?_⟩
    cases e with
    | fixed s' r' m' l' =>
      refine ⟨_, rfl, ax, P.tyF.ty P.icF.cl ay, nf_self, P.sp_rules ax (fs_rank (.fixed s r m l)) ay (fs_rank (.fixed s' r' m' l')) ?_⟩
      rw [dec_rank wd we rfl]
      exact fin
    | down t' r' m' =>
      refine ⟨_, rfl, ax, P.tyD.ty P.icD.cl ay, P.nFD, x, dx, _, _, _, rfl, ax, fs_rank (.fixed s r m l), .inr ⟨_, P.tyD.ty P.icD.cl ay, P.kDF, ?_⟩⟩
      rw [decide_eq_false (fun z => nomatch z)] at fin
      exact fin
  | down t r m =>
    refine .inr ⟨x, dx, (RD.down t r m).fs, ?_⟩
    cases e with
    | down t' r' m' =>
      refine ⟨_, rfl, ax, P.tyD.ty P.icD.cl ay, nf_self, P.sp_rules ax (fs_rank (.down t r m)) ay (fs_rank (.down t' r' m')) ?_⟩
      rw [dec_rank wd we rfl]
      exact fin
    | fixed s' r' m' l' =>
      refine ⟨_, rfl, ax, P.tyF.ty P.icF.cl ay, P.nDF, x, dx, _, _, _, rfl, ax, fs_rank (.down t r m), .inr ⟨_, P.tyF.ty P.icF.cl ay, P.kFD, ?_⟩⟩
      rw [decide_eq_false (fun z => nomatch z)] at fin
      exact fin
theorem ne_rules (P : PrgQ K CF CD) (hx : RuleAt CF CD H x d) (hy : RuleAt CF CD H y e) (wd : d.Wf) (we : e.Wf) (fin : Q (.bl (!decide (d = e))) H) : rEither (rNeO K CF (spEqR K CF)) (rNeO K CD (spEqR K CD)) (.ref x) (.ref y) H Q := by
  rcases eq_rules (Q := fun z H' => ∃ c, z = .bl c ∧ Q (.bl (!c)) H') P hx hy wd we ⟨_, rfl, fin⟩ with h | h
  · exact .inl h
  · exact .inr h
theorem eq_other {z : V} (P : PrgQ K CF CD) (hx : RuleAt CF CD H x d) (o : OtherV K H z) (fin : Q (.bl false) H) : rEither (rEqO K CF (spEqR K CF)) (rEqO K CD (spEqR K CD)) (.ref x) z H Q := by
  obtain ⟨dx, ax⟩ := hx
  obtain ⟨n, l, ty, e, no⟩ := o
  cases d with
  | fixed s r m l => exact .inl ⟨x, dx, _, _, rfl, ax, ty, nf_ty e (no CF), x, dx, _, _, _, rfl, ax, fs_rank (.fixed s r m l), .inr ⟨_, ty, kit_other P.icF.cl.hd P.tF e (no CF), fin⟩⟩
  | down t r m => exact .inr ⟨x, dx, _, _, rfl, ax, ty, nf_ty e (no CD), x, dx, _, _, _, rfl, ax, fs_rank (.down t r m), .inr ⟨_, ty, kit_other P.icD.cl.hd P.tD e (no CD), fin⟩⟩
end
section
variable {X : Cx} {CF CD fF fD : Addr} {fdF fdD : FuncData} {ps : List Str}
/-- the == of rules as an operator -/
theorem op_eqR (oF : PySem.W.findIn X.K (.ref CF) "__eq__" = some (some (.ref fF))) (iF : PySem.W.isFn X.K (.ref fF) = true) (F : FnOk X.prog X.w X.K X.mg X.base CX0 1 fF fdF ps (spEqR X.K CF)) (bF : L2.Binds X.K fdF ps [])
    (oD : PySem.W.findIn X.K (.ref CD) "__eq__" = some (some (.ref fD))) (iD : PySem.W.isFn X.K (.ref fD) = true) (D : FnOk X.prog X.w X.K X.mg X.base CX0 1 fD fdD ps (spEqR X.K CD)) (bD : L2.Binds X.K fdD ps []) (room : Room 1 X.A) :
    OpR X (compareOp .Eq) (rEither (rEqO X.K CF (spEqR X.K CF)) (rEqO X.K CD (spEqR X.K CD))) := (op_eqO oF iF F bF room).or (op_eqO oD iD D bD room)
theorem op_neR (oF : PySem.W.findIn X.K (.ref CF) "__eq__" = some (some (.ref fF))) (iF : PySem.W.isFn X.K (.ref fF) = true) (sF : PySem.W.findIn X.K (.ref CF) "__ne__" = some (some (.builtin "object.__ne__"))) (mF : PySem.W.mroIn X.K CF (.type "object") = some true)
    (F : FnOk X.prog X.w X.K X.mg X.base CX0 1 fF fdF ps (spEqR X.K CF)) (bF : L2.Binds X.K fdF ps [])
    (oD : PySem.W.findIn X.K (.ref CD) "__eq__" = some (some (.ref fD))) (iD : PySem.W.isFn X.K (.ref fD) = true) (sD : PySem.W.findIn X.K (.ref CD) "__ne__" = some (some (.builtin "object.__ne__"))) (mD : PySem.W.mroIn X.K CD (.type "object") = some true)
    (D : FnOk X.prog X.w X.K X.mg X.base CX0 1 fD fdD ps (spEqR X.K CD)) (bD : L2.Binds X.K fdD ps []) (room : Room 2 X.A) :
    OpR X (compareOp .NotEq) (rEither (rNeO X.K CF (spEqR X.K CF)) (rNeO X.K CD (spEqR X.K CD))) := (op_neO oF iF sF mF F bF room).or (op_neO oD iD sD mD D bD room)
end
/-! ### the texts of rules -/
def restT (r m : Int) : Str := if m = 1 then "" else (((Str.empty ++ (" rest " : Str)) ++ (toString r : Str)) ++ (" of " : Str)) ++ (toString m : Str)
def leaveT (l : Int) : Str := if l = 0 then "" else (Str.empty ++ (" leave " : Str)) ++ (toString l : Str)
def RD.text : RD → Str
  | .fixed s r m l => (((Str.empty ++ ("fixed " : Str)) ++ (toString s : Str)) ++ restT r m) ++ leaveT l
  | .down t r m => ((Str.empty ++ ("down " : Str)) ++ (toString t : Str)) ++ restT r m
theorem num_short {n : Int} (h0 : 0 ≤ n) (h1 : n ≤ 400) : (toString n : Str).length ≤ 10 := toString_length_le h0 (by decide) (by omega)
theorem restT_short {r m : Int} (r0 : 0 ≤ r) (r1 : r ≤ 400) (m0 : 0 ≤ m) (m1 : m ≤ 400) : (restT r m).length ≤ 40 := by
  unfold restT
  split
  · show (Str.ofString "").length ≤ 40
    decide +kernel
  · have a := num_short r0 r1
    have b := num_short m0 m1
    have c : (Str.empty ++ (" rest " : Str)).length = 6 := by decide +kernel
    have d : (" of " : Str).length = 4 := by decide +kernel
    rw [strLen_append, strLen_append, strLen_append, c, d]
    omega
theorem leaveT_short {l : Int} (l0 : 0 ≤ l) (l1 : l ≤ 400) : (leaveT l).length ≤ 40 := by
  unfold leaveT
  split
  · show (Str.ofString "").length ≤ 40
    decide +kernel
  · have a := num_short l0 l1
    have c : (Str.empty ++ (" leave " : Str)).length = 7 := by decide +kernel
    rw [strLen_append, c]
    omega
theorem num_log {n : Int} (h0 : 0 ≤ n) (h1 : n ≤ 400) : n.natAbs.log2 < 1920 := by
  by_cases e : n.natAbs = 0
  · rw [e]
    decide +kernel
  · exact (Nat.log2_lt e).mpr (Nat.lt_of_le_of_lt (show n.natAbs ≤ 400 by omega) (by decide +kernel))
/-- rest_text(rule), leave_text(rule), str(rule) -/
def spRestT (C : Addr) : Sp := fun vs H Q _ => ∃ (x dx : Addr) (fs : List (Str × V)) (r m : Int), vs = [.ref x] ∧ H x = some (.ins C dx fs) ∧ fs.lookup ("rest" : Str) = some (V.int r) ∧ fs.lookup ("modulus" : Str) = some (V.int m) ∧ 0 ≤ r ∧ r ≤ 400 ∧ 0 ≤ m ∧ m ≤ 400 ∧ Q (.str (restT r m)) H
def spLeaveT (C : Addr) : Sp := fun vs H Q _ => ∃ (x dx : Addr) (fs : List (Str × V)) (l : Int), vs = [.ref x] ∧ H x = some (.ins C dx fs) ∧ fs.lookup ("leave" : Str) = some (V.int l) ∧ 0 ≤ l ∧ l ≤ 400 ∧ Q (.str (leaveT l)) H
def spStrF (CF CD : Addr) : Sp := fun vs H Q _ => ∃ (x : Addr) (s r m l : Int), vs = [.ref x] ∧ RuleAt CF CD H x (.fixed s r m l) ∧ (RD.fixed s r m l).Wf ∧ Q (.str (RD.fixed s r m l).text) H
def spStrD (CF CD : Addr) : Sp := fun vs H Q _ => ∃ (x : Addr) (t r m : Int), vs = [.ref x] ∧ RuleAt CF CD H x (.down t r m) ∧ (RD.down t r m).Wf ∧ Q (.str (RD.down t r m).text) H
/-- rule.leaving(v) -/
def spLeaving (CB CF CD : Addr) : Sp := fun vs H Q E => ∃ (x : Addr) (s r m l : Int) (v : V), vs = [.ref x, v] ∧ RuleAt CF CD H x (.fixed s r m l) ∧ (RD.fixed s r m l).Wf ∧ Kd H v ∧ (∀ z H', dueF (.int s) (.int r) (.int m) v = some z → Same H H' → Bad CB E H' z) ∧
  (∀ H' x', dueF (.int s) (.int r) (.int m) v = none → Same H H' → RuleAt CF CD H' x' (.fixed s r m (toI v)) → Q (.ref x') H')
end Fz

set_option Elab.async false
set_option linter.all false
set_option maxRecDepth 100000
set_option maxHeartbeats 2000000
/-! Own layer, twelfth part: what stays but for the pen and the tables; texts of truths; tuples of rules compared. -/
namespace Fz
open PySem PySem.Spec PyProof.Rows L2
/-- all but the pen at p and the tables of code objects is as it was -/
def MvN (p : Addr) (H H' : Hp) : Prop := ∀ b o, b ≠ p → H b = some o → (∀ ps, o ≠ .tbl ps) → H' b = some o
theorem MvN.refl (p : Addr) (H : Hp) : MvN p H H := fun _ _ _ z _ => z
theorem MvN.trans {p : Addr} {H H1 H2 : Hp} (a : MvN p H H1) (b : MvN p H1 H2) : MvN p H H2 := fun c o n z t => b c o n (a c o n z t) t
theorem Mv.toN {p : Addr} {H H' : Hp} (m : Mv p H H') : MvN p H H' := fun b o n z _ => m b o n z
theorem ext_mvN {p : Addr} {H H' : Hp} (m : LamX.ExtN H H') : MvN p H H' := fun b o _ z t => m b o z t
theorem Same.toN {p : Addr} {H H' : Hp} (m : Same H H') : MvN p H H' := fun b o _ z _ => m b o z
theorem RuleAt.mvN {CF CD : Addr} {H H' : Hp} {p x : Addr} {d : RD} {n : Nat} {q : Addr} (h : RuleAt CF CD H x d) (pen : PenAt n H p q) (s : MvN p H H') : RuleAt CF CD H' x d := by
  obtain ⟨dx, z⟩ := h
  obtain ⟨xs, hp⟩ := pen.lst
  exact ⟨dx, s _ _ (fun e => by rw [e, hp] at z; cases z) z (fun _ z => nomatch z)⟩
theorem tup_mvN {H H' : Hp} {p t : Addr} {xs : List V} {n : Nat} {q : Addr} (h : H t = some (.tup xs)) (pen : PenAt n H p q) (s : MvN p H H') : H' t = some (.tup xs) := by
  obtain ⟨ys, hp⟩ := pen.lst
  exact s _ _ (fun e => by rw [e, hp] at h; cases h) h (fun _ z => nomatch z)
theorem un_mv {H H' : Hp} {p l : Addr} (m : Mv p H H') (n : l ≠ p) (h : H' l = none) : H l = none := by
  cases e : H l with
  | none => rfl
  | some o => rw [m l o n e] at h; cases h
/-! ### truths -/
theorem dp_bools {K : PySem.W.Frag} {H : Hp} : ∀ bs : List Bool, DpAll K H (bs.map V.bl) (bs.map PyData.bool)
  | [] => .nil
  | b :: bs => .cons (.bl b) (dp_bools bs)
theorem shownAll_bools : ∀ bs : List Bool, PyData.shownAll (bs.map PyData.bool) = bs.map fun b => PyData.shown (.bool b)
  | [] => by simp only [List.map_nil, PyData.shownAll]
  | b :: bs => by
    have ih := shownAll_bools bs
    simp only [List.map_cons, PyData.shownAll, ih]
theorem showable_bools : ∀ bs : List Bool, PyData.showableAll (bs.map PyData.bool) = true
  | [] => by simp only [List.map_nil, PyData.showableAll]
  | b :: bs => by
    have ih := showable_bools bs
    simp only [List.map_cons, PyData.showableAll, PyData.showable, ih, Bool.and_self]
theorem noDict_bools : ∀ bs : List Bool, PyData.hasDictAll (bs.map PyData.bool) = false
  | [] => by simp only [List.map_nil, PyData.hasDictAll]
  | b :: bs => by
    have ih := noDict_bools bs
    simp only [List.map_cons, PyData.hasDictAll, PyData.hasDict, ih, Bool.or_self]
theorem depth_bools : ∀ bs : List Bool, PyData.depthAll (bs.map PyData.bool) ≤ 1
  | [] => by simp only [List.map_nil, PyData.depthAll]; omega
  | b :: bs => by
    have ih := depth_bools bs
    simp only [List.map_cons, PyData.depthAll, PyData.depth]
    omega
theorem lay_bools : ∀ bs : List Bool, PyData.canLayAll0 (bs.map PyData.bool) = true
  | [] => by simp only [List.map_nil, PyData.canLayAll0]
  | b :: bs => by
    have ih := lay_bools bs
    simp only [List.map_cons, PyData.canLayAll0, PyData.canLay0, ih, Bool.and_self]
theorem shaped_bools (bs : List Bool) : SeqAt.shaped (.list (bs.map PyData.bool)) = true := by
  have h1 := depth_bools bs
  have h2 : PyData.depth (.list (bs.map PyData.bool)) ≤ 64 := by
    simp only [PyData.depth]
    omega
  show (PyData.canLay0 (.list (bs.map PyData.bool)) && decide (PyData.depth (.list (bs.map PyData.bool)) ≤ 64)) = true
  rw [Bool.and_eq_true]
  exact ⟨by simp only [PyData.canLay0]; exact lay_bools bs, decide_eq_true h2⟩
theorem text_from {ts : List Str} {m : Nat} (h : ∀ t ∈ ts, t.length ≤ m) (few : ts.length * (m + 2) ≤ 1000000) : (listText ts).length ≤ sizeLine := by
  have z := textFrom_most m ts 0 "[" h
  have z1 : (Str.ofString "[").length = 1 := by decide +kernel
  have z2 : (Str.ofString "]").length = 1 := by decide +kernel
  have z3 : (textFrom 0 "[" ts).length ≤ 1 + ts.length * (m + 2) := by
    rw [← z1]
    exact z
  show (textFrom 0 "[" ts ++ Str.ofString "]").length ≤ sizeLine
  rw [strLen_append]
  show _ ≤ 16777216
  omega
theorem rep_bools {K : PySem.W.Frag} {H : Hp} {Q : VK} {l : Addr} {bs : List Bool} (hl : H l = some (.lst (bs.map V.bl))) (few : bs.length ≤ 1000) (fin : Q (.str (PyData.shown (.list (bs.map PyData.bool)))) H) : rRepD K [.ref l] H Q := by
  refine ⟨⟨l, _, rfl, Dp.lst (SqL.of hl) (dp_bools bs), ?_, ?_, ?_, ?_, fin⟩⟩
  · rw [PyData.showable]
    exact showable_bools bs
  · rw [PyData.hasDict]
    exact noDict_bools bs
  · have z := depth_bools bs
    rw [PyData.depth]
    omega
  · rw [PyData.shown, shownAll_bools]
    refine text_from (m := 5) (fun t ht => ?_) (by rw [List.length_map]; omega)
    obtain ⟨b, _, rfl⟩ := List.mem_map.mp ht
    cases b
    · show (Str.ofString "False").length ≤ 5
      decide +kernel
    · show (Str.ofString "True").length ≤ 5
      decide +kernel
/-! ### a law's tuples of rules -/
def RD.dat (d : RD) : PyData := .tuple [.str d.kind, .int d.num, .int d.rest, .int d.mod, .int d.leave]
theorem dp_rd {K : PySem.W.Frag} {H : Hp} {a : Addr} {d : RD} (h : H a = some (.tup d.tup)) : Dp K H (.ref a) d.dat := Dp.tup (SqT.of h) (.cons (.str _) (.cons (.int _) (.cons (.int _) (.cons (.int _) (.cons (.int _) .nil)))))
theorem shaped_rd (d : RD) : SeqAt.shaped d.dat = true := by
  have k : PyData.strOk d.kind = true := by
    cases d
    · show PyData.strOk ("fixed" : Str) = true
      decide +kernel
    · show PyData.strOk ("down" : Str) = true
      decide +kernel
  show (PyData.canLay0 d.dat && decide (PyData.depth d.dat ≤ 64)) = true
  have l : PyData.canLay0 d.dat = true := by
    show PyData.canLay0 (.tuple [.str d.kind, .int d.num, .int d.rest, .int d.mod, .int d.leave]) = true
    simp only [PyData.canLay0, PyData.canLayAll0, k, Bool.and_self]
  have p : PyData.depth d.dat ≤ 64 := by
    show PyData.depth (.tuple [.str d.kind, .int d.num, .int d.rest, .int d.mod, .int d.leave]) ≤ 64
    simp only [PyData.depth, PyData.depthAll]
    decide
  rw [l, decide_eq_true p]
  rfl
theorem eqv_rd (d e : RD) : PyData.eqv d.dat e.dat = decide (d = e) := by
  have key : PyData.eqv d.dat e.dat = ((d.kind == e.kind) && ((d.num == e.num) && ((d.rest == e.rest) && ((d.mod == e.mod) && ((d.leave == e.leave) && true))))) := by
    show PyData.eqv (.tuple [.str d.kind, .int d.num, .int d.rest, .int d.mod, .int d.leave]) (.tuple [.str e.kind, .int e.num, .int e.rest, .int e.mod, .int e.leave]) = _
    simp only [PyData.eqv, PyData.eqvAll]
  rw [key]
  have kf : (("fixed" : Str) == ("down" : Str)) = false := by decide +kernel
  have kf2 : (("down" : Str) == ("fixed" : Str)) = false := by decide +kernel
  cases d with
  | fixed s r m l =>
    cases e with
    | fixed s' r' m' l' =>
      have k : ((RD.fixed s r m l).kind == (RD.fixed s' r' m' l').kind) = true := by
        show (("fixed" : Str) == ("fixed" : Str)) = true
        decide +kernel
      rw [k]
      simp only [RD.num, RD.rest, RD.mod, RD.leave, Bool.true_and, Bool.and_true]
      by_cases h : RD.fixed s r m l = RD.fixed s' r' m' l'
      · cases h
        simp
      · rw [decide_eq_false h]
        refine Bool.eq_false_iff.mpr fun z => h ?_
        simp only [Bool.and_eq_true, beq_iff_eq] at z
        obtain ⟨z1, z2, z3, z4⟩ := z
        rw [z1, z2, z3, z4]
    | down t' r' m' =>
      have k : ((RD.fixed s r m l).kind == (RD.down t' r' m').kind) = false := kf
      rw [k, decide_eq_false (fun z => nomatch z)]
      rfl
  | down t r m =>
    cases e with
    | fixed s' r' m' l' =>
      have k : ((RD.down t r m).kind == (RD.fixed s' r' m' l').kind) = false := kf2
      rw [k, decide_eq_false (fun z => nomatch z)]
      rfl
    | down t' r' m' =>
      have k : ((RD.down t r m).kind == (RD.down t' r' m').kind) = true := by
        show (("down" : Str) == ("down" : Str)) = true
        decide +kernel
      rw [k]
      simp only [RD.num, RD.rest, RD.mod, RD.leave, Bool.true_and, Bool.and_true, beq_self_eq_true]
      by_cases h : RD.down t r m = RD.down t' r' m'
      · cases h
        simp
      · rw [decide_eq_false h]
        refine Bool.eq_false_iff.mpr fun z => h ?_
        simp only [Bool.and_eq_true, beq_iff_eq] at z
        obtain ⟨z1, z2, z3⟩ := z
        rw [z1, z2, z3]
/-- what is heard of rule.leaving(v) -/
theorem leaving_heard {CF CD CB x : Addr} {H : Hp} {Q : VK} {s r m l : Int} {v : V} (hx : RuleAt CF CD H x (.fixed s r m l)) (wf : (RD.fixed s r m l).Wf) (kv : Kd H v)
    (hQ : ∀ H' v', Same H H' → Ans CF (dueF (.int s) (.int r) (.int m) v) (fun _ => (RD.fixed s r m (toI v)).fs) H' v' → Q v' H') : spLeaving CB CF CD [.ref x, v] H (heardNx Q) (heardEx CB Q) :=
  ⟨x, s, r, m, l, v, rfl, hx, wf, kv, fun z H' hz same d hd => ⟨rfl, d, .str z, rfl, upd_same, fun H'' a s2 at_ => hQ H'' _ (fun b o e => s2 b o (by rw [upd_ne (ne_of_none (same b o e) hd)]; exact same b o e)) (.inl ⟨z, a, hz, rfl, at_⟩)⟩,
    fun H' x' hz same hr H'' a s2 at2 => let ⟨dx, at_⟩ := hr; hQ H'' _ (fun b o e => s2 b o (same b o e)) (.inr ⟨a, x', dx, 0, hz, rfl, at2, s2 _ _ at_⟩)⟩
end Fz

set_option Elab.async false
set_option linter.all false
set_option maxRecDepth 100000
set_option maxHeartbeats 2000000
namespace Fz
open PySem PySem.Spec PyProof.Rows L2
/-- one step of a reading -/
local macro_rules | `(tactic| walk_at "st") => `(tactic| first
  | refine ⟨_, rfl, ?_⟩
  | refine Or.inl ⟨_, rfl, ?_⟩
  | refine Or.inr ⟨_, rfl, ?_⟩
  | refine ⟨_, _, _, _, rfl, rfl, SqL.of (by first | assumption | exact upd_same), rfl, ?_⟩
  | refine ⟨_, _, _, _, rfl, rfl, (by first | assumption | exact upd_same), rfl, ?_⟩
  | refine ⟨_, _, rfl, .inl ⟨_, SqL.of (by first | assumption | exact upd_same), rfl⟩, ?_⟩
  | refine ⟨_, _, rfl, rfl, (show (0 : Int) < _ by first | decide | omega), ?_⟩
  | refine ⟨_, _, rfl, rfl, (show (0 : Int) < _ ∧ _ < _ by first | exact ⟨by decide, by decide⟩ | omega), ?_⟩
  | refine ⟨_, _, rfl, rfl, (show (_ < _ ∧ _ < _) ∨ (_ < _ ∧ _ < _) by first | exact .inl ⟨by decide, by decide⟩ | omega), ?_⟩
  | refine ⟨_, _, rfl, rfl, (show (0 : Int) ≤ _ ∧ _ ≤ _ ∧ _ < _ by first | exact ⟨by decide, by decide, by decide⟩ | exact ⟨by decide, by decide, by omega⟩), ?_⟩
  | refine ⟨_, _, rfl, rfl, ?_⟩)

/-! ### the text -/
def topS (i : Nat) : Stmt := PySem.Challenge.pw_freetakes_k05_rules_alike.main.body.getD i (.Pass ⟨0, 0, 0, 0⟩)

abbrev s_pen : Stmt := topS 25
abbrev s_draw : Stmt := topS 26
abbrev s_pick : Stmt := topS 27
section
variable {P : Program} {w : World} {K : PySem.W.Frag} {mg : Str → Option Value} {base : Heap}

theorem sc_pen : FnScope ["_law_script"] ["_law_script"] (defScope s_pen) := ⟨rfl, rfl, rfl, by decide +kernel, rfl, by decide +kernel, by decide +kernel⟩
theorem ok_pen {f : Addr} {fd : FuncData} (F : Fun K "_law_pen" "_law_pen" s_pen f fd) (T : Blt mg) : FnOk P w K mg base CX0 1 f fd ["_law_script"] (spPen K) := by
  refine F.ok sc_pen (fun vs H Q E h => ?_) (fun cdv A outer s H vs Q E hr h => ?_)
  · obtain ⟨a, ns, rfl, _⟩ := h
    rfl
  · obtain ⟨a, ns, rfl, hS, hl, k⟩ := h
    refine ⟨_, (pss_one (ps_ret (pe_lst (pa_cons (pe_callTy call_list_of rfl T.z_list (by decide +kernel) (pa_cons (pe_slice sl_list (pv 0) po_none (po_some pe_int)) pa_nil)) (pa_cons pe_int (pa_cons pe_int pa_nil)))))), ?_⟩
    refine ⟨_, rfl, _, rfl, _, _, rfl, hS, fun l0 hl0 => ⟨_, _, rfl, .inl (SqL.of upd_same), fun l1 hl1 => ⟨by show 3 ≤ sizeLine; decide, fun p hp => ?_⟩⟩⟩
    have n01 : l1 ≠ l0 := fun z => by rw [z, upd_same] at hl1; cases hl1
    have h1 : H l1 = none := by rw [upd_ne n01] at hl1; exact hl1
    have npl1 : p ≠ l1 := fun z => by rw [z, upd_same] at hp; cases hp
    have hp1 : (upd H l0 (.lst (cutV (List.map V.int ns) none (some 63)))) p = none := by rw [upd_ne npl1] at hp; exact hp
    have npl0 : p ≠ l0 := fun z => by rw [z, upd_same] at hp1; cases hp1
    have hp0 : H p = none := by rw [upd_ne npl0] at hp1; exact hp1
    have ecut : cutV (List.map V.int ns) none (some 63) = List.map V.int ns := by
      unfold cutV
      show List.take (HT.sIx (List.map V.int ns).length (List.map V.int ns).length (some (63 : Int)) - 0) (List.drop 0 (List.map V.int ns)) = _
      rw [show ((63 : Int)) = ((63 : Nat) : Int) from rfl, HT.sIx_nat, List.drop_zero, Nat.sub_zero]
      exact List.take_of_length_le (by rw [List.length_map]; omega)
    refine k _ p l1 hp0 h1 ⟨ns, 0, 0, upd_same, ?_, Ne.symm npl1, hl, Int.le_refl _, Int.le_refl _⟩ (fun b o e => ?_)
    · rw [upd_ne (Ne.symm npl1), upd_same, ecut]
    · rw [upd_ne (ne_of_none e hp0), upd_ne (ne_of_none e h1), upd_ne (ne_of_none e hl0)]
      exact e
theorem sc_draw : FnScope ["_law_pen_here", "_law_many", "_law_spot", "_law_cell", "_law_mixed", "_law_digit", "_law_great"] ["_law_pen_here", "_law_many"] (defScope s_draw) := ⟨rfl, rfl, rfl, by decide +kernel, rfl, by decide +kernel, by decide +kernel⟩
theorem ok_draw {f : Addr} {fd : FuncData} (F : Fun K "_law_draw" "_law_draw" s_draw f fd) (T : Blt mg) : FnOk P w K mg base CX0 1 f fd ["_law_pen_here", "_law_many"] spDraw := by
  refine F.ok sc_draw (fun vs H Q E h => ?_) (fun cdv A outer s H vs Q E hr h => ?_)
  · obtain ⟨n, p, q, m, rfl, _⟩ := h
    rfl
  · obtain ⟨n, p, q, m, rfl, ⟨ns, spot, great, hp, hq, hqp, hl, h0, h1⟩, hn, hm, hm2, k⟩ := h
    refine ⟨_, (pss_cons (ps_if (pt_cmpR op_gt (pe_ix ix_list (pv 0) pe_int (fun _ _ => rfl)) pe_int (nomark _)) (pss_cons (ps_set (i := 5) sc_draw.nd rfl (Or.inl rfl) (pe_op op_mod (pe_callTy call_int1 rfl T.z_int (by decide +kernel) (pa_cons (pe_ix ix_list (pv 0) pe_int (fun _ _ => rfl)) pa_nil)) (pv 1)))
  (pss_cons (ps_asg (pe_op op_fdivW (pe_callTy call_int1 rfl T.z_int (by decide +kernel) (pa_cons (pe_ix ix_list (pv 0) pe_int (fun _ _ => rfl)) pa_nil)) (pv 1)) (pg_sub (pv 0) pe_int set_list))
  (pss_one (ps_ret (pv 5))))) pss_nil)
  (pss_cons (ps_set (i := 2) sc_draw.nd rfl (Or.inl rfl) (pe_ix ix_list (pv 0) pe_int (fun _ _ => rfl)))
  (pss_cons (ps_asg (pe_op op_add (pv 2) pe_int) (pg_sub (pv 0) pe_int set_list))
  (pss_cons (ps_set (i := 3) sc_draw.nd rfl (Or.inl rfl) (pe_op op_add (pe_op op_mul pe_int (pv 2)) pe_int))
  (C8.pss_cut (ps_if (pt_cmpR (op_neD hr.units) (pe_ix ix_list (pv 0) pe_int (fun _ _ => rfl)) (pe_lst pa_nil) (nomark _)) (pss_one (ps_set (i := 3) sc_draw.nd rfl (Or.inl rfl) (pe_ix ix_list (pe_ix ix_list (pv 0) pe_int (fun _ _ => rfl)) (pe_op op_mod (pe_callTy call_int1 rfl T.z_int (by decide +kernel) (pa_cons (pv 2) pa_nil)) (pe_callB call_len rfl T.z_len (by decide +kernel) (pa_cons (pe_ix ix_list (pv 0) pe_int (fun _ _ => rfl)) pa_nil))) (fun _ _ => rfl)))) pss_nil)
  (C8.pss_cut (ps_if (PW.pt (pw_and (pt_cmpR op_lt (pv 2) (pe_callB call_len rfl T.z_len (by decide +kernel) (pa_cons (pe_ix ix_list (pv 0) pe_int (fun _ _ => rfl)) pa_nil)) (nomark _)) (pw_and1 (pt_cmpR op_ge (pe_callB call_abs rfl T.z_abs (by decide +kernel) (pa_cons (pv 3) pa_nil)) (pe_op op_pow pe_int pe_int) (nomark _))))) (pss_cons (ps_set (i := 6) sc_draw.nd rfl (Or.inl rfl) (pe_op op_add (pe_op op_mul pe_int (pe_op op_sub (pe_callB call_abs rfl T.z_abs (by decide +kernel) (pa_cons (pv 3) pa_nil)) (pe_op op_pow pe_int pe_int))) (pe_callTy call_int1 rfl T.z_int (by decide +kernel) (pa_cons (pe_cmpR op_lt (pv 3) pe_int (nomark _)) pa_nil))))
  (pss_cons (ps_asg (pe_op op_fdivW (pe_callTy call_int1 rfl T.z_int (by decide +kernel) (pa_cons (pv 6) pa_nil)) (pv 1)) (pg_sub (pv 0) pe_int set_list))
  (pss_one (ps_ret (pe_op op_mod (pe_callTy call_int1 rfl T.z_int (by decide +kernel) (pa_cons (pv 6) pa_nil)) (pv 1)))))) pss_nil)
  (C8.pss_cut (ps_set (i := 4) sc_draw.nd rfl (Or.inl rfl) (pe_op op_mod (pe_callTy call_int1 rfl T.z_int (by decide +kernel) (pa_cons (pe_op op_pow (pe_op op_add (pe_op op_add (pe_op op_mod (pe_callTy call_int1 rfl T.z_int (by decide +kernel) (pa_cons (pv 3) pa_nil)) pe_int) (pe_op op_mul pe_int (pv 2))) pe_int) pe_int) pa_nil)) pe_int))
  (pss_cons (ps_set (i := 4) sc_draw.nd rfl (Or.inl rfl) (pe_op op_mod (pe_callTy call_int1 rfl T.z_int (by decide +kernel) (pa_cons (pe_op op_pow (pe_op op_add (pe_op op_add (pe_op op_mul (pv 4) (pe_op op_add (pe_op op_mul pe_int (pv 2)) pe_int)) (pe_op op_mul (pe_op op_mul pe_int (pv 2)) (pv 2))) pe_int) pe_int) pa_nil)) pe_int))
  (pss_one (ps_ret (pe_op op_mod (pe_callTy call_int1 rfl T.z_int (by decide +kernel) (pa_cons (pe_op op_fdiv (pv 4) pe_int) pa_nil)) (pv 1)))))))))))), ?_⟩
    iterate 4 walk_at "st"
    refine ite2 (fun hg => ?_) (fun hg => ?_)
    · repeat walk_at "st"
      exact k _ _ ⟨ns, spot, great / m, upd_same, by rw [upd_ne hqp]; exact hq, hqp, hl, h0, by omega⟩ Mv.here (Int.emod_nonneg _ (by omega)) (Int.emod_lt_of_pos _ hm)
    · repeat walk_at "st"
      have mul0 : spot ≤ 100000 := by omega
      refine ⟨fun σ' H' => ∃ cell : Int, σ' = [some (.ref p), some (.int m), some (.int spot), some (.int cell), none, none, none] ∧ H' p = some (.lst [.ref q, .int (spot + 1), .int great]) ∧ H' q = some (.lst (ns.map V.int)) ∧ Mv p H H', ?_, ?_⟩
      · have hq1 : upd H p (.lst [.ref q, .int (spot + 1), .int great]) q = some (.lst (ns.map V.int)) := by rw [upd_ne hqp]; exact hq
        have hp1 : upd H p (.lst [.ref q, .int (spot + 1), .int great]) p = some (.lst [.ref q, .int (spot + 1), .int great]) := upd_same
        have mv1 : Mv p H (upd H p (.lst [.ref q, .int (spot + 1), .int great])) := Mv.here
        show tIfS _ _ _ _ _ (upd H p (.lst [.ref q, .int (spot + 1), .int great]))
        generalize upd H p (.lst [.ref q, .int (spot + 1), .int great]) = H1 at hq1 hp1 mv1 ⊢
        repeat walk_at "st"
        refine ⟨Nat.zero_le _, fun l hl0 => ?_⟩
        have hp2 : upd H1 l (.lst []) p = some (.lst [.ref q, .int (spot + 1), .int great]) := by rw [upd_ne (ne_of_none hp1 hl0)]; exact hp1
        have hq2 : upd H1 l (.lst []) q = some (.lst (ns.map V.int)) := by rw [upd_ne (ne_of_none hq1 hl0)]; exact hq1
        have mv2 : Mv p H (upd H1 l (.lst [])) := mv1.trans (Mv.new hl0)
        refine ⟨_, _, Dp.lst (SqL.of hq2) (dp_ints ns), Dp.lst (SqL.of upd_same) .nil, shaped_ints ns, shaped_ints [], _, rfl, ?_⟩
        refine ite2 (fun ht => ?_) (fun _ => ⟨_, rfl, hp2, hq2, mv2⟩)
        have hne : 0 < (ns.map V.int).length := by
          cases ns with
          | nil => exact absurd ht (by decide)
          | cons z zs => rw [List.length_map]; exact Nat.succ_pos _
        have hpos : (0 : Int) < (((ns.map V.int).length : Nat) : Int) := by omega
        obtain ⟨x, hx, ax⟩ := at_mod spot hne
        obtain ⟨z, hz, rfl⟩ := List.mem_map.mp hx
        iterate 2 walk_at "st"
        iterate 2 walk_at "st"
        iterate 2 walk_at "st"
        iterate 1 walk_at "st"
        refine ⟨_, _, rfl, rfl, hpos, q, _, _, _, rfl, rfl, SqL.of hq2, ax, ?_⟩
        exact ⟨z, rfl, hp2, hq2, mv2⟩
      · rintro σ' H' ⟨cell, rfl, hp', hq', mv⟩
        have small : ∀ H'', Mv p H H'' → H'' p = some (.lst [.ref q, .int (spot + 1), .int great]) → H'' q = some (.lst (ns.map V.int)) → PenAt (n + 1) H'' p q := fun H'' _ a b => ⟨ns, spot + 1, great, a, b, hqp, hl, by omega, by omega⟩
        refine ⟨fun σ'' H'' => σ'' = [some (.ref p), some (.int m), some (.int spot), some (.int cell), none, none, none] ∧ H'' = H', ?_, ?_⟩
        · repeat walk_at "st"
          refine ite2 (fun _ => ?_) (fun _ => iteF ⟨rfl, rfl⟩)
          repeat walk_at "st"
          refine ite2 (fun _ => ?_) (fun _ => ⟨rfl, rfl⟩)
          repeat walk_at "st"
          exact k _ _ ⟨ns, spot + 1, _, upd_same, by rw [upd_ne hqp]; exact hq', hqp, hl, by omega, by omega⟩ (mv.trans Mv.here) (Int.emod_nonneg _ (by omega)) (Int.emod_lt_of_pos _ hm)
        · rintro σ'' H'' ⟨rfl, rfl⟩
          refine ⟨fun σ₂ H₂ => ∃ mixed : Int, σ₂ = [some (.ref p), some (.int m), some (.int spot), some (.int cell), some (.int mixed), none, none] ∧ 0 ≤ mixed ∧ mixed < 2147483648 ∧ H₂ = H'', ?_, ?_⟩
          · repeat walk_at "st"
            exact ⟨Int.emod_nonneg _ (by decide), Int.lt_trans (Int.emod_lt_of_pos _ (by decide)) (by decide), rfl⟩
          · rintro σ₂ H₂ ⟨mixed, rfl, m0, m1, rfl⟩
            have b1 : 0 ≤ mixed * (2 * spot + 111) := Int.mul_nonneg m0 (by omega)
            have b2 : mixed * (2 * spot + 111) ≤ 2147483648 * 300000 := Int.mul_le_mul (by omega) (by omega) (by omega) (by omega)
            have b3 : 0 ≤ 60098 * spot * spot := Int.mul_nonneg (by omega) h0
            have b4 : 60098 * spot * spot ≤ 6009800000 * 100000 := Int.mul_le_mul (by omega) (by omega) (by omega) (by omega)
            repeat walk_at "st"
            exact k _ _ (small _ mv hp' hq') mv (Int.emod_nonneg _ (by omega)) (Int.emod_lt_of_pos _ hm)
theorem sc_pick : FnScope ["_law_pen_here", "_law_some"] ["_law_pen_here", "_law_some"] (defScope s_pick) := ⟨rfl, rfl, rfl, by decide +kernel, rfl, by decide +kernel, by decide +kernel⟩
theorem ok_pick {f fD : Addr} {fd fdD : FuncData} (F : Fun K "_law_pick" "_law_pick" s_pick f fd) (T : Blt mg) (D : Fun K "_law_draw" "_law_draw" s_draw fD fdD) (gD : mg "_law_draw" = some (.ref fD)) (b_draw : L2.Binds K fdD ["_law_pen_here", "_law_many"] []) :
    FnOk P w K mg base CX0 2 f fd ["_law_pen_here", "_law_some"] (spPick K) := by
  have G_draw : FnOk P w K mg base CX0 1 fD fdD ["_law_pen_here", "_law_many"] spDraw := ok_draw D T
  refine F.ok sc_pick (fun vs H Q E h => ?_) (fun cdv A outer s H vs Q E hr h => ?_)
  · obtain ⟨n, p, q, l, xs, rfl, _⟩ := h
    rfl
  · obtain ⟨n, p, q, l, xs, rfl, hp, hn, hlp, hl, h0, h1, k⟩ := h
    refine ⟨_, (pss_one (ps_ret (pe_ix ix_list (pv 1) (pe_call G_draw (hr.mono (by decide)) rfl gD D.kp b_draw .nil pass0 (by exact (pa_cons (pv 0) (pa_cons (pe_callB call_len rfl T.z_len (by decide +kernel) (pa_cons (pv 1) pa_nil)) pa_nil)))) (fun _ _ => rfl)))), ?_⟩
    iterate 3 walk_at "st"
    refine ⟨_, _, rfl, .inl ⟨_, SqL.of hl, rfl⟩, n, p, q, _, rfl, hp, hn, by omega, small_log (by omega) (by omega), fun H' r hp' mv r0 r1 => ?_⟩
    obtain ⟨x, hx, ax⟩ := at_in r0 r1
    exact ⟨_, _, _, _, rfl, rfl, SqL.of (mv l _ hlp hl), ax, k H' x hp' mv hx⟩
end
section
variable {P : Program} {w : World} {K : PySem.W.Frag} {mg : Str → Option Value} {base : Heap}

abbrev s_rank_of : Stmt := topS 17
abbrev s_badI : Stmt := inClass (topS 3) 0
abbrev s_rested : Stmt := inClass (topS 13) 0
abbrev s_sized : Stmt := inClass (topS 14) 0
abbrev s_fixed : Stmt := inClass (topS 15) 0
abbrev s_down : Stmt := inClass (topS 16) 0
abbrev s_is_number : Stmt := topS 6
theorem sc_is_number : FnScope ["value", "least", "most"] ["value", "least", "most"] (defScope s_is_number) := ⟨rfl, rfl, rfl, by decide +kernel, rfl, by decide +kernel, by decide +kernel⟩
theorem ok_is_number {f : Addr} {fd : FuncData} (F : Fun K "is_number" "is_number" s_is_number f fd) (T : Blt mg) : FnOk P w K mg base CX0 1 f fd ["value", "least", "most"] spNum := by
  refine F.ok sc_is_number (fun vs H Q E h => ?_) (fun cdv A outer s H vs Q E hr h => ?_)
  · obtain ⟨x, lo, hi, rfl, _⟩ := h
    rfl
  · obtain ⟨x, lo, hi, rfl, kd, k⟩ := h
    obtain ⟨t, ty, k1, k2⟩ := kd.isInt (K := K)
    refine ⟨_, (pss_one (ps_ret (pe_and (pe_callB call_isi rfl T.z_isinstance (by decide +kernel) (pa_cons (pv 0) (pa_cons (pe_bltn (v := .ty "int") rfl T.z_int (by decide +kernel) rfl) pa_nil))) (pe_and (pe_not (pe_callB call_isi rfl T.z_isinstance (by decide +kernel) (pa_cons (pv 0) (pa_cons (pe_bltn (v := .ty "bool") rfl T.z_bool (by decide +kernel) rfl) pa_nil)))) (pe_one (pe_chain op_le op_le (pv 1) (pv 0) (pv 2))))))), ?_⟩
    refine ⟨_, rfl, _, _, _, _, _, rfl, .ty "int", ty, k1, _, rfl, ?_⟩
    refine ite2 (fun i1 => ?_) (fun i1 => ?_)
    · refine ⟨_, rfl, _, _, _, _, _, rfl, .ty "bool", ty, k2, _, rfl, _, rfl, ?_⟩
      refine ite2 (fun i2 => ?_) (fun i2 => ?_)
      · obtain ⟨i, rfl⟩ : ∃ i, x = V.int i := by
          cases x with
          | int i => exact ⟨i, rfl⟩
          | bl b => exact absurd i2 Bool.false_ne_true
          | _ => exact absurd i1 Bool.false_ne_true
        iterate 2 walk_at "st"
        refine ⟨_, _, rfl, rfl, _, rfl, ?_⟩
        refine ite2 (fun i3 => ?_) (fun i3 => ?_)
        · iterate 2 walk_at "st"
          have e : numV lo hi (.int i) = decide (i ≤ hi) := by
            show (decide (lo ≤ i) && decide (i ≤ hi)) = _
            rw [i3, Bool.true_and]
          show Q (.bl (decide (i ≤ hi))) _
          rw [← e]
          exact k
        · have e : numV lo hi (.int i) = false := by
            show (decide (lo ≤ i) && decide (i ≤ hi)) = _
            rw [Bool.eq_false_iff.mpr i3, Bool.false_and]
          rw [e] at k
          exact k
      · have e : numV lo hi x = false := by
          cases x with
          | int i => exact absurd rfl i2
          | _ => rfl
        rw [e] at k
        exact k
    · have e : numV lo hi x = false := by
        cases x with
        | int i => exact absurd rfl i1
        | _ => rfl
      rw [e] at k
      exact k
section
variable {CRl CB fB : Addr}
theorem sc_badI : FnScope ["self", "part"] ["self", "part"] (defScope s_badI) := ⟨rfl, rfl, rfl, by decide +kernel, rfl, by decide +kernel, by decide +kernel⟩
theorem ok_badI {f : Addr} {fd : FuncData} (F : Fun K "__init__" "BadRule.__init__" s_badI f fd) (T : PrgB K mg CRl CB fB) : FnOk P w K mg base CX0 1 f fd ["self", "part"] (spBadI CB) := by
  refine F.ok sc_badI (fun vs H Q E h => ?_) (fun cdv A outer s H vs Q E hr h => ?_)
  · obtain ⟨a, v, rfl, _⟩ := h
    rfl
  · obtain ⟨a, v, rfl, ha, k⟩ := h
    refine ⟨_, (pss_one (ps_ost (pv 0) (pv 1))), ?_⟩
    exact ⟨_, rfl, _, rfl, a, CB, rfl, T.oB, T.nPart, .inl ⟨ha, fun d n ne => k d n ne⟩⟩

theorem sc_rank_of : FnScope ["kind", "number", "modulus", "rest", "leave", "rank", "part"] ["kind", "number", "modulus", "rest", "leave"] (defScope s_rank_of) := ⟨rfl, rfl, rfl, by decide +kernel, rfl, by decide +kernel, by decide +kernel⟩
theorem ok_rank_of {f : Addr} {fd : FuncData} (F : Fun K "rank_of" "rank_of" s_rank_of f fd) (T : PrgB K mg CRl CB fB) : FnOk P w K mg base CX0 1 f fd ["kind", "number", "modulus", "rest", "leave"] spRank := by
  refine F.ok sc_rank_of (fun vs H Q E h => ?_) (fun cdv A outer s H vs Q E hr h => ?_)
  · obtain ⟨k, a, b, c, e, rfl, _⟩ := h
    rfl
  · obtain ⟨k, a, b, c, e, rfl, k0, k1, a0, a1, b0, b1, c0, c1, e0, e1, fin⟩ := h
    obtain ⟨u, most⟩ := T.most
    refine ⟨_, (pss_cons (ps_set (i := 5) sc_rank_of.nd rfl (Or.inl rfl) (pv 0))
  (pss_cons (ps_for PassesOwn.never rfl (pi_tup (pe_tup (pa_cons (pv 1) (pa_cons (pv 2) (pa_cons (pv 3) (pa_cons (pv 4) pa_nil)))))) (pg_name (i := 6) sc_rank_of.nd rfl (Or.inl rfl)) (pss_one (ps_set (i := 5) sc_rank_of.nd rfl (Or.inl rfl) (pe_op op_add (pe_op op_mul (pv 5) (pe_op op_add (ClX.pe_cval (pe_glob (v := .ref _) rfl T.g_Rule rfl)) pe_int)) (pv 6)))))
  (pss_one (ps_ret (pv 5))))), ?_⟩
    iterate 5 walk_at "st"
    refine ⟨by show 4 ≤ sizeLine; decide, fun t ht => ⟨t, rfl, ⟨_, SqT.of upd_same⟩, for_tup (K := K) (a := t) (xs := [.int a, .int b, .int c, .int e])
      (fun i σ H' => (∃ v : Option V, σ = [some (.int k), some (.int a), some (.int b), some (.int c), some (.int e), some (.int (match i with | 0 => k | 1 => k * 401 + a | 2 => (k * 401 + a) * 401 + b | 3 => ((k * 401 + a) * 401 + b) * 401 + c | _ => rankI k a b c e)), v]) ∧ H' = upd H t (.tup [.int a, .int b, .int c, .int e]))
      ⟨⟨_, rfl⟩, rfl⟩ (fun i σ H' _ q => by rw [q.2]; exact SqT.of upd_same) ?_ ?_⟩⟩
    · rintro i x σ H' hi ⟨⟨v, rfl⟩, rfl⟩
      match i, hi with
      | 0, hi =>
        cases hi
        refine ⟨_, rfl, _, _, _, _, rfl, T.rdRl, most, _, _, rfl, rfl, _, _, rfl, rfl, (show (_ < _ ∧ _ < _) ∨ (_ < _ ∧ _ < _) by omega), _, rfl, _, _, rfl, rfl, ⟨_, rfl⟩, rfl⟩
      | 1, hi =>
        cases hi
        refine ⟨_, rfl, _, _, _, _, rfl, T.rdRl, most, _, _, rfl, rfl, _, _, rfl, rfl, (show (_ < _ ∧ _ < _) ∨ (_ < _ ∧ _ < _) by omega), _, rfl, _, _, rfl, rfl, ⟨_, rfl⟩, rfl⟩
      | 2, hi =>
        cases hi
        refine ⟨_, rfl, _, _, _, _, rfl, T.rdRl, most, _, _, rfl, rfl, _, _, rfl, rfl, (show (_ < _ ∧ _ < _) ∨ (_ < _ ∧ _ < _) by omega), _, rfl, _, _, rfl, rfl, ⟨_, rfl⟩, rfl⟩
      | 3, hi =>
        cases hi
        refine ⟨_, rfl, _, _, _, _, rfl, T.rdRl, most, _, _, rfl, rfl, _, _, rfl, rfl, (show (_ < _ ∧ _ < _) ∨ (_ < _ ∧ _ < _) by omega), _, rfl, _, _, rfl, rfl, ⟨_, rfl⟩, rfl⟩
      | n + 4, hi => simp at hi
    · rintro σ H' ⟨⟨v, rfl⟩, rfl⟩
      exact ⟨_, rfl, fin _ fun b' o q => by rw [upd_ne (ne_of_none q ht)]; exact q⟩
theorem sc_rested : FnScope ["self", "rest", "modulus"] ["self", "rest", "modulus"] (defScope s_rested) := ⟨rfl, rfl, rfl, by decide +kernel, rfl, by decide +kernel, by decide +kernel⟩
theorem ok_rested {CI f fN : Addr} {fd fdN fdB : FuncData} (F : Fun K "__init__" "Rested.__init__" s_rested f fd) (U : Blt mg) (T : PrgB K mg CRl CB fB) (IC : InsC K CI) (N : Fun K "is_number" "is_number" s_is_number fN fdN) (gN : mg "is_number" = some (.ref fN)) (b_is_number : L2.Binds K fdN ["value", "least", "most"] [])
    (B : Fun K "__init__" "BadRule.__init__" s_badI fB fdB) (b_badI : L2.Binds K fdB ["self", "part"] []) : FnOk P w K mg base (L2.CX P w) 3 f fd ["self", "rest", "modulus"] (spRested CB CI) := by
  have G_is_number : FnOk P w K mg base CX0 1 fN fdN ["value", "least", "most"] spNum := ok_is_number N U
  have G_badI : FnOk P w K mg base CX0 1 fB fdB ["self", "part"] (spBadI CB) := ok_badI B T
  refine F.okX sc_rested (fun vs H Q E h => ?_) (fun cdv A outer s H vs Q E hr h => ?_)
  · obtain ⟨x, dx, fs, r, m, rfl, _⟩ := h
    rfl
  · obtain ⟨x, dx, fs, r, m, rfl, hx, hfs, kr, km, bad, fin⟩ := h
    obtain ⟨u, mostM⟩ := T.mostM
    refine ⟨_, (pss_cons (ps_if (pt_not (pt_val (pe_call G_is_number (hr.mono (by decide)) rfl gN N.kp b_is_number .nil pass0 (by exact (pa_cons (pv 2) (pa_cons pe_int (pa_cons (ClX.pe_cval (pe_glob (v := .ref _) rfl T.g_Rule rfl)) pa_nil))))))) (pss_one (ps_raise rfl (takes_of rfl rfl rfl rfl) (pmk_oex T.oB T.iB T.tB G_badI (hr.mono (by decide)) b_badI .nil pass0 rfl T.g_BadRule (by exact (pa_cons pe_str pa_nil))))) pss_nil)
  (pss_cons (ps_if (pt_not (pt_val (pe_call G_is_number (hr.mono (by decide)) rfl gN N.kp b_is_number .nil pass0 (by exact (pa_cons (pv 1) (pa_cons pe_int (pa_cons (pe_op op_sub (pv 2) pe_int) pa_nil))))))) (pss_one (ps_raise rfl (takes_of rfl rfl rfl rfl) (pmk_oex T.oB T.iB T.tB G_badI (hr.mono (by decide)) b_badI .nil pass0 rfl T.g_BadRule (by exact (pa_cons pe_str pa_nil))))) pss_nil)
  (pss_cons (ps_fld (pv 0) (pv 1) rfl)
  (pss_one (ps_fld (pv 0) (pv 2) rfl))))), ?_⟩
    refine ⟨_, rfl, _, _, _, _, rfl, T.rdRl, mostM, m, 1, 6, rfl, km, _, rfl, ?_⟩
    cases e1 : numV 1 6 m with
    | false =>
      refine iteT ?_
      have e : dueR r m = some "modulus" := by
        unfold dueR
        rw [e1]
        rfl
      exact bad_made (W := fun cls d _ H => E cls d H) (bad _ e) fun _ _ _ z => z
    | true =>
      refine iteF ?_
      obtain ⟨i, rfl, i0, i1⟩ := numV_is e1
      have e : dueR r (.int i) = if numV 0 (i - 1) r = true then none else some ("rest" : Str) := by
        unfold dueR
        rw [e1]
        rfl
      refine ⟨_, rfl, _, rfl, _, _, rfl, rfl, r, 0, i - 1, rfl, kr, _, rfl, ?_⟩
      cases e2 : numV 0 (i - 1) r with
      | false =>
        refine iteT ?_
        exact bad_made (W := fun cls d _ H => E cls d H) (bad _ (by rw [e, e2]; rfl)) fun _ _ _ z => z
      | true =>
        refine iteF ?_
        refine ⟨_, rfl, _, rfl, x, CI, dx, fs, rfl, hx, IC.cl, IC.nRest, by omega, ?_⟩
        have hl := length_putF "rest" r fs
        refine ⟨_, rfl, _, rfl, x, CI, dx, _, rfl, upd_same, IC.cl, IC.nModulus, by omega, ?_⟩
        have z := fin (by rw [e, e2]; rfl)
        rw [upd_upd]
        exact z
theorem sc_sized : FnScope ["self", "size", "leave"] ["self", "size", "leave"] (defScope s_sized) := ⟨rfl, rfl, rfl, by decide +kernel, rfl, by decide +kernel, by decide +kernel⟩
theorem ok_sized {CI f fN : Addr} {fd fdN fdB : FuncData} (F : Fun K "__init__" "Sized.__init__" s_sized f fd) (U : Blt mg) (T : PrgB K mg CRl CB fB) (IC : InsC K CI) (N : Fun K "is_number" "is_number" s_is_number fN fdN) (gN : mg "is_number" = some (.ref fN)) (b_is_number : L2.Binds K fdN ["value", "least", "most"] [])
    (B : Fun K "__init__" "BadRule.__init__" s_badI fB fdB) (b_badI : L2.Binds K fdB ["self", "part"] []) : FnOk P w K mg base (L2.CX P w) 3 f fd ["self", "size", "leave"] (spSized CB CI) := by
  have G_is_number : FnOk P w K mg base CX0 1 fN fdN ["value", "least", "most"] spNum := ok_is_number N U
  have G_badI : FnOk P w K mg base CX0 1 fB fdB ["self", "part"] (spBadI CB) := ok_badI B T
  refine F.okX sc_sized (fun vs H Q E h => ?_) (fun cdv A outer s H vs Q E hr h => ?_)
  · obtain ⟨x, dx, fs, r, m, rfl, _⟩ := h
    rfl
  · obtain ⟨x, dx, fs, z, l, rfl, hx, hfs, kz, kl, bad, fin⟩ := h
    obtain ⟨u, most⟩ := T.most
    refine ⟨_, (pss_cons (ps_if (pt_not (pt_val (pe_call G_is_number (hr.mono (by decide)) rfl gN N.kp b_is_number .nil pass0 (by exact (pa_cons (pv 1) (pa_cons pe_int (pa_cons (ClX.pe_cval (pe_glob (v := .ref _) rfl T.g_Rule rfl)) pa_nil))))))) (pss_one (ps_raise rfl (takes_of rfl rfl rfl rfl) (pmk_oex T.oB T.iB T.tB G_badI (hr.mono (by decide)) b_badI .nil pass0 rfl T.g_BadRule (by exact (pa_cons pe_str pa_nil))))) pss_nil)
  (pss_cons (ps_if (pt_not (pt_val (pe_call G_is_number (hr.mono (by decide)) rfl gN N.kp b_is_number .nil pass0 (by exact (pa_cons (pv 2) (pa_cons pe_int (pa_cons (ClX.pe_cval (pe_glob (v := .ref _) rfl T.g_Rule rfl)) pa_nil))))))) (pss_one (ps_raise rfl (takes_of rfl rfl rfl rfl) (pmk_oex T.oB T.iB T.tB G_badI (hr.mono (by decide)) b_badI .nil pass0 rfl T.g_BadRule (by exact (pa_cons pe_str pa_nil))))) pss_nil)
  (pss_cons (ps_fld (pv 0) (pv 1) rfl)
  (pss_one (ps_fld (pv 0) (pv 2) rfl))))), ?_⟩
    refine ⟨_, rfl, _, _, _, _, rfl, T.rdRl, most, z, 1, 400, rfl, kz, _, rfl, ?_⟩
    cases e1 : numV 1 400 z with
    | false =>
      refine iteT ?_
      exact bad_made (W := fun cls d _ H => E cls d H) (bad _ (by unfold dueS; rw [e1]; rfl)) fun _ _ _ z => z
    | true =>
      refine iteF ?_
      refine ⟨_, rfl, _, _, _, _, rfl, T.rdRl, most, l, 0, 400, rfl, kl, _, rfl, ?_⟩
      cases e2 : numV 0 400 l with
      | false =>
        refine iteT ?_
        exact bad_made (W := fun cls d _ H => E cls d H) (bad _ (by unfold dueS; rw [e1, e2]; rfl)) fun _ _ _ z => z
      | true =>
        refine iteF ?_
        refine ⟨_, rfl, _, rfl, x, CI, dx, fs, rfl, hx, IC.cl, IC.nSize, by omega, ?_⟩
        have hl := length_putF "size" z fs
        refine ⟨_, rfl, _, rfl, x, CI, dx, _, rfl, upd_same, IC.cl, IC.nLeave, by omega, ?_⟩
        have q := fin (by unfold dueS; rw [e1, e2]; rfl)
        rw [upd_upd]
        exact q
abbrev FunDown (K : PySem.W.Frag) (f : Addr) (fd : FuncData) : Prop := FunD K "__init__" "Down.__init__" (defArgs s_down) (defBody s_down) (defScope s_down) [.int 0, .int 1] [] f fd
abbrev FunFixed (K : PySem.W.Frag) (f : Addr) (fd : FuncData) : Prop := FunD K "__init__" "Fixed.__init__" (defArgs s_fixed) (defBody s_fixed) (defScope s_fixed) [.int 0, .int 1, .int 0] [] f fd
theorem sc_down : FnScope ["self", "to", "rest", "modulus"] ["self", "to", "rest", "modulus"] (defScope s_down) := ⟨rfl, rfl, rfl, by decide +kernel, rfl, by decide +kernel, by decide +kernel⟩
theorem ok_down {CI CRs f fN fK fRs : Addr} {fd fdN fdB fdRs fdK : FuncData} (F : FunDown K f fd) (U : Blt mg) (T : PrgB K mg CRl CB fB) (IC : InsC K CI) (N : Fun K "is_number" "is_number" s_is_number fN fdN) (gN : mg "is_number" = some (.ref fN)) (b_is_number : L2.Binds K fdN ["value", "least", "most"] [])
    (B : Fun K "__init__" "BadRule.__init__" s_badI fB fdB) (b_badI : L2.Binds K fdB ["self", "part"] [])
    (Rs : Fun K "__init__" "Rested.__init__" s_rested fRs fdRs) (b_rested : L2.Binds K fdRs ["self", "rest", "modulus"] []) (gRs : mg "Rested" = some (.ref CRs)) (BRs : BaseC K CRs fRs)
    (RK : Fun K "rank_of" "rank_of" s_rank_of fK fdK) (gK : mg "rank_of" = some (.ref fK)) (b_rank_of : L2.Binds K fdK ["kind", "number", "modulus", "rest", "leave"] []) : FnOk P w K mg base (L2.CX P w) 5 f fd ["self", "to", "rest", "modulus"] (spDown CB CI) := by
  have G_is_number : FnOk P w K mg base CX0 1 fN fdN ["value", "least", "most"] spNum := ok_is_number N U
  have G_badI : FnOk P w K mg base CX0 1 fB fdB ["self", "part"] (spBadI CB) := ok_badI B T
  have G_rank_of : FnOk P w K mg base CX0 1 fK fdK ["kind", "number", "modulus", "rest", "leave"] spRank := ok_rank_of RK T
  have G_rested : FnOk P w K mg base (L2.CX P w) 3 fRs fdRs ["self", "rest", "modulus"] (spRested CB CI) := ok_rested Rs U T IC N gN b_is_number B b_badI
  refine F.ok (k := 4) sc_down (fun vs H Q E h => ?_) (fun cdv A outer s H vs Q E hr h => ?_)
  · obtain ⟨x, dx, t, r, m, rfl, _⟩ := h
    rfl
  · obtain ⟨x, dx, t, r, m, rfl, hx, kt, kr, km, bad, fin⟩ := h
    obtain ⟨u, most⟩ := T.most
    refine ⟨_, (pss_cons (ps_if (pt_not (pt_val (pe_call G_is_number (hr.mono (by decide)) rfl gN N.kp b_is_number .nil pass0 (by exact (pa_cons (pv 1) (pa_cons pe_int (pa_cons (ClX.pe_cval (pe_glob (v := .ref _) rfl T.g_Rule rfl)) pa_nil))))))) (pss_one (ps_raise rfl (takes_of rfl rfl rfl rfl) (pmk_oex T.oB T.iB T.tB G_badI (hr.mono (by decide)) b_badI .nil pass0 rfl T.g_BadRule (by exact (pa_cons pe_str pa_nil))))) pss_nil)
  (pss_cons (ps_expr (pe_clsFn (pe_glob (v := .ref _) rfl gRs rfl) BRs.rd BRs.fn G_rested (hr.mono (by decide)) Rs.kp b_rested .nil (passes_call (takes_of rfl rfl rfl rfl) (fun _ _ _ _ h => h)) (by exact (pa_cons (pv 0) (pa_cons (pv 2) (pa_cons (pv 3) pa_nil))))))
  (pss_cons (ps_fld (pv 0) (pv 1) rfl)
  (pss_cons (ps_fld (pv 0) (pe_op op_add (pv 1) pe_int) rfl)
  (pss_one (ps_fld (pv 0) (pe_call G_rank_of (hr.mono (by decide)) rfl gK RK.kp b_rank_of .nil pass0 (by exact (pa_cons pe_int (pa_cons (pv 1) (pa_cons (pv 3) (pa_cons (pv 2) (pa_cons pe_int pa_nil))))))) rfl)))))), ?_⟩
    refine ⟨_, rfl, _, _, _, _, rfl, T.rdRl, most, t, 0, 400, rfl, kt, _, rfl, ?_⟩
    cases e1 : numV 0 400 t with
    | false =>
      refine iteT ?_
      exact bad_made (W := fun cls d _ H => E cls d H) (bad _ (by unfold dueD; rw [e1]; rfl)) fun _ _ _ z => z
    | true =>
      refine iteF ?_
      have e : dueD t r m = dueR r m := by
        unfold dueD
        rw [e1]
        rfl
      obtain ⟨ti, rfl, t0, t1⟩ := numV_is e1
      refine ⟨rfl, _, rfl, _, rfl, _, rfl, x, dx, [], r, m, rfl, hx, (by decide), kr, km, fun z hz => bad z (e.trans hz), fun hz => ?_⟩
      obtain ⟨mi, rfl, m0, m1⟩ : ∃ mi, m = .int mi ∧ 1 ≤ mi ∧ mi ≤ 6 := by
        cases e2 : numV 1 6 m with
        | true => exact numV_is e2
        | false =>
          unfold dueR at hz
          rw [e2] at hz
          cases hz
      obtain ⟨ri, rfl, r0, r1⟩ : ∃ ri, r = .int ri ∧ 0 ≤ ri ∧ ri ≤ mi - 1 := by
        cases e2 : numV 0 (mi - 1) r with
        | true => exact numV_is e2
        | false =>
          have z2 : dueR r (.int mi) = some "rest" := by
            unfold dueR
            have e3 : numV 1 6 (.int mi) = true := by
              show (decide (1 ≤ mi) && decide (mi ≤ 6)) = true
              rw [decide_eq_true m0, decide_eq_true m1] <;> rfl
            rw [e3]
            show (if numV 0 (mi - 1) r = true then none else some _) = some _
            rw [e2]
            rfl
          rw [z2] at hz
          cases hz
      refine ⟨_, rfl, _, rfl, x, CI, dx, _, rfl, upd_same, IC.cl, IC.nTo, (by show 2 < 1000; decide), ?_⟩
      refine ⟨_, rfl, _, _, rfl, rfl, _, rfl, x, CI, dx, _, rfl, upd_same, IC.cl, IC.nStart, (by show 3 < 1000; decide), ?_⟩
      refine ⟨_, rfl, _, rfl, _, rfl, 1, ti, mi, ri, 0, rfl, by omega, by omega, t0, t1, by omega, by omega, r0, by omega, by omega, by omega, fun H2 s2 => ?_⟩
      refine ⟨_, rfl, x, CI, dx, _, rfl, s2 _ _ upd_same, IC.cl, IC.nRank, (by show 4 < 1000; decide), ?_⟩
      refine fin ti ri mi _ rfl rfl rfl (e.trans hz) (fun b o nb q => ?_) upd_same
      rw [upd_ne nb]
      refine s2 b o ?_
      rw [upd_ne nb, upd_ne nb, upd_ne nb]
      exact q
theorem sc_fixed : FnScope ["self", "size", "rest", "modulus", "leave"] ["self", "size", "rest", "modulus", "leave"] (defScope s_fixed) := ⟨rfl, rfl, rfl, by decide +kernel, rfl, by decide +kernel, by decide +kernel⟩
theorem ok_fixed {CI CRs CSz f fN fK fRs fSz : Addr} {fd fdN fdB fdRs fdK fdSz : FuncData} (F : FunFixed K f fd) (U : Blt mg) (T : PrgB K mg CRl CB fB) (IC : InsC K CI) (N : Fun K "is_number" "is_number" s_is_number fN fdN) (gN : mg "is_number" = some (.ref fN)) (b_is_number : L2.Binds K fdN ["value", "least", "most"] [])
    (B : Fun K "__init__" "BadRule.__init__" s_badI fB fdB) (b_badI : L2.Binds K fdB ["self", "part"] [])
    (Rs : Fun K "__init__" "Rested.__init__" s_rested fRs fdRs) (b_rested : L2.Binds K fdRs ["self", "rest", "modulus"] []) (gRs : mg "Rested" = some (.ref CRs)) (BRs : BaseC K CRs fRs)
    (RK : Fun K "rank_of" "rank_of" s_rank_of fK fdK) (gK : mg "rank_of" = some (.ref fK)) (b_rank_of : L2.Binds K fdK ["kind", "number", "modulus", "rest", "leave"] [])
    (Sz : Fun K "__init__" "Sized.__init__" s_sized fSz fdSz) (b_sized : L2.Binds K fdSz ["self", "size", "leave"] []) (gSz : mg "Sized" = some (.ref CSz)) (BSz : BaseC K CSz fSz) : FnOk P w K mg base (L2.CX P w) 5 f fd ["self", "size", "rest", "modulus", "leave"] (spFixed CB CI) := by
  have G_is_number : FnOk P w K mg base CX0 1 fN fdN ["value", "least", "most"] spNum := ok_is_number N U
  have G_badI : FnOk P w K mg base CX0 1 fB fdB ["self", "part"] (spBadI CB) := ok_badI B T
  have G_rank_of : FnOk P w K mg base CX0 1 fK fdK ["kind", "number", "modulus", "rest", "leave"] spRank := ok_rank_of RK T
  have G_rested : FnOk P w K mg base (L2.CX P w) 3 fRs fdRs ["self", "rest", "modulus"] (spRested CB CI) := ok_rested Rs U T IC N gN b_is_number B b_badI
  have G_sized : FnOk P w K mg base (L2.CX P w) 3 fSz fdSz ["self", "size", "leave"] (spSized CB CI) := ok_sized Sz U T IC N gN b_is_number B b_badI
  refine F.ok (k := 4) sc_fixed (fun vs H Q E h => ?_) (fun cdv A outer s H vs Q E hr h => ?_)
  · obtain ⟨x, dx, t, r, m, l, rfl, _⟩ := h
    rfl
  · obtain ⟨x, dx, z, r, m, l, rfl, hx, kz, kr, km, kl, bad, fin⟩ := h
    refine ⟨_, (pss_cons (ps_expr (pe_clsFn (pe_glob (v := .ref _) rfl gSz rfl) BSz.rd BSz.fn G_sized (hr.mono (by decide)) Sz.kp b_sized .nil (passes_call (takes_of rfl rfl rfl rfl) (fun _ _ _ _ h => h)) (by exact (pa_cons (pv 0) (pa_cons (pv 1) (pa_cons (pv 4) pa_nil))))))
  (pss_cons (ps_expr (pe_clsFn (pe_glob (v := .ref _) rfl gRs rfl) BRs.rd BRs.fn G_rested (hr.mono (by decide)) Rs.kp b_rested .nil (passes_call (takes_of rfl rfl rfl rfl) (fun _ _ _ _ h => h)) (by exact (pa_cons (pv 0) (pa_cons (pv 2) (pa_cons (pv 3) pa_nil))))))
  (pss_cons (ps_fld (pv 0) (pe_op op_add (pv 1) (pv 4)) rfl)
  (pss_one (ps_fld (pv 0) (pe_call G_rank_of (hr.mono (by decide)) rfl gK RK.kp b_rank_of .nil pass0 (by exact (pa_cons pe_int (pa_cons (pv 1) (pa_cons (pv 3) (pa_cons (pv 2) (pa_cons (pv 4) pa_nil))))))) rfl))))), ?_⟩
    refine ⟨rfl, _, rfl, _, rfl, _, rfl, x, dx, [], z, l, rfl, hx, (by decide), kz, kl, fun y hy => bad y _ (by unfold dueF; rw [hy]) (Mv.refl _ _), fun h1 => ?_⟩
    have kd : ∀ {v : V} {o : HO}, Kd H v → H x = some o → (∀ a, v = .ref a → a ≠ x) → ∀ {u : HO}, Kd (upd H x u) v := fun h _ n => h.keep fun a o e q => by rw [upd_ne (n a e)]; exact q
    have apart : ∀ {v : V}, Kd H v → ∀ a, v = .ref a → a ≠ x := fun {v} h a e z => by
      subst e
      rw [z] at h
      rcases h with ⟨_, h⟩ | ⟨_, h⟩ | ⟨_, h⟩ <;> (rw [hx] at h; cases h)
    refine ⟨rfl, _, rfl, _, rfl, _, rfl, x, dx, _, r, m, rfl, upd_same, (by show 2 < 900; decide), kd kr hx (apart kr), kd km hx (apart km), fun y hy => bad y _ (by unfold dueF; rw [h1]; exact hy) Mv.here, fun h2 => ?_⟩
    have e : dueF z r m l = none := by unfold dueF; rw [h1]; exact h2
    obtain ⟨zi, li, rfl, rfl, z0, z1, l0, l1⟩ := dueS_none h1
    obtain ⟨ri, mi, rfl, rfl, r0, r1, m0, m1⟩ := dueR_none h2
    refine ⟨_, rfl, _, rfl, _, _, rfl, rfl, _, rfl, x, CI, dx, _, rfl, upd_same, IC.cl, IC.nStart, (by show 4 < 1000; decide), ?_⟩
    refine ⟨_, rfl, _, rfl, _, rfl, _, rfl, 0, zi, mi, ri, li, rfl, by omega, by omega, by omega, by omega, by omega, by omega, r0, by omega, l0, l1, fun H2 s2 => ?_⟩
    refine ⟨_, rfl, x, CI, dx, _, rfl, s2 _ _ upd_same, IC.cl, IC.nRank, (by show 5 < 1000; decide), ?_⟩
    refine fin zi ri mi li _ rfl rfl rfl rfl e (fun b o nb q => ?_) upd_same
    rw [upd_ne nb]
    refine s2 b o ?_
    rw [upd_ne nb, upd_ne nb, upd_ne nb]
    exact q
end
end
/-! ### how Fixed's parts are bound -/
section
variable {K : PySem.W.Frag} {f : Addr} {fd : FuncData}
abbrev pFx : List Str := ["self", "size", "rest", "modulus", "leave"]
theorem bf_all (F : FunFixed K f fd) : L2.Binds K fd pFx [] := by
  obtain ⟨ds, r, b⟩ := F.binds1 (ps := pFx) 5 3 (by simp) rfl (fun T kV doc pm an cdv ct us its l1 l2 => match us, l1, its, l2 with | [_, _, _, _, _], _, [_, _, _], _ => ⟨_, rfl, rfl⟩)
  cases r
  exact b
theorem bf_one (F : FunFixed K f fd) : ∃ ds, Vals [V.int 0, V.int 1, V.int 0] ds ∧ L2.Binds K fd pFx ds :=
  F.binds1 (ps := pFx) 2 0 (by simp) rfl (fun T kV doc pm an cdv ct us its l1 l2 => match us, l1, its, l2 with | [_, _], _, [_, _, _], _ => ⟨_, rfl, rfl⟩)
theorem bf_two (F : FunFixed K f fd) : ∃ ds, Vals [V.int 1, V.int 0] ds ∧ L2.Binds K fd pFx ds :=
  F.binds1 (ps := pFx) 3 1 (by simp) rfl (fun T kV doc pm an cdv ct us its l1 l2 => match us, l1, its, l2 with | [_, _, _], _, [_, _, _], _ => ⟨_, rfl, rfl⟩)
theorem bf_key (F : FunFixed K f fd) : ∃ its : List Value, KBn K fd pFx 1 ["leave", "modulus", "rest", "size"] (fun us ws => us ++ ws.reverse) (fun vs zs => vs ++ zs.reverse) := by
  obtain ⟨its, b⟩ := F.kbindsD (ps := pFx) 1 ["leave", "modulus", "rest", "size"] (fun us _ ws => us ++ ws.reverse) (by simp) (fun r1 _ r3 => r1.append r3.reverse)
    (fun T kV doc pm an cdv ct us its ws l1 l2 l3 => match us, l1, its, l2, ws, l3 with | [_], _, [_, _, _], _, [_, _, _, _], _ => ⟨_, rfl, rfl⟩)
  exact ⟨its, b⟩
theorem bf_sm (F : FunFixed K f fd) : ∃ its : List Value, KBn K fd pFx 1 ["size", "modulus"] (fun us ws => us ++ ws.take 1 ++ its.take 1 ++ ws.drop 1 ++ its.drop 2) (fun vs zs => vs ++ zs.take 1 ++ [V.int 0, V.int 1, V.int 0].take 1 ++ zs.drop 1 ++ [V.int 0, V.int 1, V.int 0].drop 2) :=
  F.kbindsD (ps := pFx) 1 ["size", "modulus"] (fun us ds ws => us ++ ws.take 1 ++ ds.take 1 ++ ws.drop 1 ++ ds.drop 2) (by simp) (fun r1 r2 r3 => (((r1.append (r3.take 1)).append (r2.take 1)).append (r3.drop 1)).append (r2.drop 2))
    (fun T kV doc pm an cdv ct us its ws l1 l2 l3 => match us, l1, its, l2, ws, l3 with | [_], _, [_, _, _], _, [_, _], _ => ⟨_, rfl, rfl⟩)
theorem bf_leave (F : FunFixed K f fd) : ∃ its : List Value, KBn K fd pFx 2 ["leave"] (fun us ws => us ++ its.take 2 ++ ws) (fun vs zs => vs ++ [V.int 0, V.int 1, V.int 0].take 2 ++ zs) :=
  F.kbindsD (ps := pFx) 2 ["leave"] (fun us ds ws => us ++ ds.take 2 ++ ws) (by simp) (fun r1 r2 r3 => (r1.append (r2.take 2)).append r3)
    (fun T kV doc pm an cdv ct us its ws l1 l2 l3 => match us, l1, its, l2, ws, l3 with | [_, _], _, [_, _, _], _, [_], _ => ⟨_, rfl, rfl⟩)
end
/-! ### how Down's parts are bound -/
section
variable {K : PySem.W.Frag} {f : Addr} {fd : FuncData}
theorem bd_all (F : FunDown K f fd) : L2.Binds K fd ["self", "to", "rest", "modulus"] [] := by
  obtain ⟨ds, r, b⟩ := F.binds1 (ps := ["self", "to", "rest", "modulus"]) 4 2 (by simp) rfl (fun T kV doc pm an cdv ct us its l1 l2 => match us, l1, its, l2 with | [_, _, _, _], _, [_, _], _ => ⟨_, rfl, rfl⟩)
  cases r
  exact b
theorem bd_one (F : FunDown K f fd) : ∃ ds, Vals [V.int 0, V.int 1] ds ∧ L2.Binds K fd ["self", "to", "rest", "modulus"] ds :=
  F.binds1 (ps := ["self", "to", "rest", "modulus"]) 2 0 (by simp) rfl (fun T kV doc pm an cdv ct us its l1 l2 => match us, l1, its, l2 with | [_, _], _, [_, _], _ => ⟨_, rfl, rfl⟩)
theorem bd_key (F : FunDown K f fd) : ∃ its : List Value, KBn K fd ["self", "to", "rest", "modulus"] 1 ["modulus", "rest", "to"] (fun us ws => us ++ ws.reverse) (fun vs zs => vs ++ zs.reverse) := by
  obtain ⟨its, b⟩ := F.kbindsD (ps := ["self", "to", "rest", "modulus"]) 1 ["modulus", "rest", "to"] (fun us _ ws => us ++ ws.reverse) (by simp) (fun r1 _ r3 => r1.append r3.reverse)
    (fun T kV doc pm an cdv ct us its ws l1 l2 l3 => match us, l1, its, l2, ws, l3 with | [_], _, [_, _], _, [_, _, _], _ => ⟨_, rfl, rfl⟩)
  exact ⟨its, b⟩
theorem bd_mod (F : FunDown K f fd) : ∃ its : List Value, KBn K fd ["self", "to", "rest", "modulus"] 2 ["modulus"] (fun us ws => us ++ its.take 1 ++ ws) (fun vs zs => vs ++ [V.int 0, V.int 1].take 1 ++ zs) :=
  F.kbindsD (ps := ["self", "to", "rest", "modulus"]) 2 ["modulus"] (fun us ds ws => us ++ ds.take 1 ++ ws) (by simp) (fun r1 r2 r3 => (r1.append (r2.take 1)).append r3)
    (fun T kV doc pm an cdv ct us its ws l1 l2 l3 => match us, l1, its, l2, ws, l3 with | [_, _], _, [_, _], _, [_], _ => ⟨_, rfl, rfl⟩)
end

section
variable {P : Program} {w : World} {K : PySem.W.Frag} {mg : Str → Option Value} {base : Heap}

abbrev s_eqF : Stmt := inClass (topS 15) 1
theorem sc_eqF : FnScope ["self", "other"] ["self", "other"] (defScope s_eqF) := ⟨rfl, rfl, rfl, by decide +kernel, rfl, by decide +kernel, by decide +kernel⟩
theorem ok_eqF {C f : Addr} {fd : FuncData} (F : Fun K "__eq__" "Fixed.__eq__" s_eqF f fd) (U : Blt mg) (gC : mg "Fixed" = some (.ref C)) (IC : InsC K C) (ty : TyC K C) (self_ : PySem.W.kitOne K (.ref C) (.ref C) = some true) : FnOk P w K mg base CX0 1 f fd ["self", "other"] (spEqR K C) := by
  refine F.ok sc_eqF (fun vs H Q E h => ?_) (fun cdv A outer s H vs Q E hr h => ?_)
  · obtain ⟨a, dx, fs, k, y, rfl, _⟩ := h
    rfl
  · obtain ⟨a, dx, fs, k, y, rfl, ha, rk, how⟩ := h
    refine ⟨_, (pss_one (ps_ret (pe_and (pe_callB call_isi rfl U.z_isinstance (by decide +kernel) (pa_cons (pv 1) (pa_cons (pe_glob (v := .ref _) rfl gC rfl) pa_nil))) (pe_one (pe_cmpR op_eq (pe_fld (pv 0) rfl) (pe_fld (pv 1) rfl) (nomark _)))))), ?_⟩
    rcases how with ⟨b, dy, gs, j, rfl, hb, rj, fin⟩ | ⟨t, tyx, no, fin⟩
    · refine ⟨_, rfl, _, _, _, _, _, rfl, .own C, ty.ty IC.cl hb, self_, _, rfl, iteT ?_⟩
      exact ⟨_, rfl, a, C, dx, fs, _, rfl, ha, IC.cl, IC.nRank, rk, _, rfl, b, C, dy, gs, _, rfl, hb, IC.cl, IC.nRank, rj, rfl, by
        rw [show decide ((V.int k) = V.int j) = decide (k = j) from by by_cases z : k = j <;> simp [z]]
        exact fin⟩
    · exact ⟨_, rfl, _, _, _, _, _, rfl, .own C, tyx, no, _, rfl, iteF fin⟩
abbrev s_eqD : Stmt := inClass (topS 16) 1
theorem sc_eqD : FnScope ["self", "other"] ["self", "other"] (defScope s_eqD) := ⟨rfl, rfl, rfl, by decide +kernel, rfl, by decide +kernel, by decide +kernel⟩
theorem ok_eqD {C f : Addr} {fd : FuncData} (F : Fun K "__eq__" "Down.__eq__" s_eqD f fd) (U : Blt mg) (gC : mg "Down" = some (.ref C)) (IC : InsC K C) (ty : TyC K C) (self_ : PySem.W.kitOne K (.ref C) (.ref C) = some true) : FnOk P w K mg base CX0 1 f fd ["self", "other"] (spEqR K C) := by
  refine F.ok sc_eqD (fun vs H Q E h => ?_) (fun cdv A outer s H vs Q E hr h => ?_)
  · obtain ⟨a, dx, fs, k, y, rfl, _⟩ := h
    rfl
  · obtain ⟨a, dx, fs, k, y, rfl, ha, rk, how⟩ := h
    refine ⟨_, (pss_one (ps_ret (pe_and (pe_callB call_isi rfl U.z_isinstance (by decide +kernel) (pa_cons (pv 1) (pa_cons (pe_glob (v := .ref _) rfl gC rfl) pa_nil))) (pe_one (pe_cmpR op_eq (pe_fld (pv 0) rfl) (pe_fld (pv 1) rfl) (nomark _)))))), ?_⟩
    rcases how with ⟨b, dy, gs, j, rfl, hb, rj, fin⟩ | ⟨t, tyx, no, fin⟩
    · refine ⟨_, rfl, _, _, _, _, _, rfl, .own C, ty.ty IC.cl hb, self_, _, rfl, iteT ?_⟩
      exact ⟨_, rfl, a, C, dx, fs, _, rfl, ha, IC.cl, IC.nRank, rk, _, rfl, b, C, dy, gs, _, rfl, hb, IC.cl, IC.nRank, rj, rfl, by
        rw [show decide ((V.int k) = V.int j) = decide (k = j) from by by_cases z : k = j <;> simp [z]]
        exact fin⟩
    · exact ⟨_, rfl, _, _, _, _, _, rfl, .own C, tyx, no, _, rfl, iteF fin⟩
end
end Fz
set_option Elab.async false
set_option linter.all false
set_option maxRecDepth 100000
set_option maxHeartbeats 2000000
namespace Fz
open PySem PySem.Spec PyProof.Rows L2
/-- one step of a reading -/
local macro_rules | `(tactic| walk_at "st") => `(tactic| first
  | refine ⟨_, rfl, ?_⟩
  | refine Or.inl ⟨_, rfl, ?_⟩
  | refine Or.inr ⟨_, rfl, ?_⟩
  | refine ⟨_, _, _, _, rfl, rfl, SqL.of (by first | assumption | exact upd_same), rfl, ?_⟩
  | refine ⟨_, _, _, _, rfl, rfl, (by first | assumption | exact upd_same), rfl, ?_⟩
  | refine ⟨_, _, rfl, .inl ⟨_, SqL.of (by first | assumption | exact upd_same), rfl⟩, ?_⟩
  | refine ⟨_, _, rfl, rfl, (show (0 : Int) < _ by first | decide | omega), ?_⟩
  | refine ⟨_, _, rfl, rfl, (show (0 : Int) < _ ∧ _ < _ by first | exact ⟨by decide, by decide⟩ | omega), ?_⟩
  | refine ⟨_, _, rfl, rfl, (show (_ < _ ∧ _ < _) ∨ (_ < _ ∧ _ < _) by first | exact .inl ⟨by decide, by decide⟩ | omega), ?_⟩
  | refine ⟨_, _, rfl, rfl, (show (0 : Int) ≤ _ ∧ _ ≤ _ ∧ _ < _ by first | exact ⟨by decide, by decide, by decide⟩ | exact ⟨by decide, by decide, by omega⟩), ?_⟩
  | refine ⟨_, _, rfl, rfl, ?_⟩)

section
variable {P : Program} {w : World} {K : PySem.W.Frag} {mg : Str → Option Value} {base : Heap}

abbrev s_parts : Stmt := topS 28
theorem sc_parts : FnScope ["_law_pen_here", "_law_most", "_law_many", "_law_rem", "_law_number"] ["_law_pen_here", "_law_most"] (defScope s_parts) := ⟨rfl, rfl, rfl, by decide +kernel, rfl, by decide +kernel, by decide +kernel⟩
theorem ok_parts {f fD fP : Addr} {fd fdD fdP : FuncData} (F : Fun K "_law_parts" "_law_parts" s_parts f fd) (U : Blt mg) (D : Fun K "_law_draw" "_law_draw" s_draw fD fdD) (gD : mg "_law_draw" = some (.ref fD)) (b_draw : L2.Binds K fdD ["_law_pen_here", "_law_many"] [])
    (Pk : Fun K "_law_pick" "_law_pick" s_pick fP fdP) (gP : mg "_law_pick" = some (.ref fP)) (b_pick : L2.Binds K fdP ["_law_pen_here", "_law_some"] []) : FnOk P w K mg base CX0 3 f fd ["_law_pen_here", "_law_most"] spParts := by
  have G_draw : FnOk P w K mg base CX0 1 fD fdD ["_law_pen_here", "_law_many"] spDraw := ok_draw D U
  have G_pick : FnOk P w K mg base CX0 2 fP fdP ["_law_pen_here", "_law_some"] (spPick K) := ok_pick Pk U D gD b_draw
  refine F.ok sc_parts (fun vs H Q E h => ?_) (fun cdv A outer s H vs Q E hr h => ?_)
  · obtain ⟨n, p, q, most, rfl, _⟩ := h
    rfl
  · obtain ⟨n, p, q, most, rfl, hp, hn, o0, o1, fin⟩ := h
    refine ⟨_, (C8.pss_cut (ps_set (i := 2) sc_parts.nd rfl (Or.inl rfl) (pe_call G_pick (hr.mono (by decide)) rfl gP Pk.kp b_pick .nil pass0 (by exact (pa_cons (pv 0) (pa_cons (pe_lst (pa_cons pe_int (pa_cons pe_int (pa_cons pe_int (pa_cons pe_int (pa_cons pe_int (pa_cons pe_int (pa_cons pe_int pa_nil)))))))) pa_nil)))))
  (pss_cons (ps_par (i := 3) (j := 4) (by rfl) sc_parts.nd rfl rfl (by decide) rfl rfl (pa_cons (pe_call G_draw (hr.mono (by decide)) rfl gD D.kp b_draw .nil pass0 (by exact (pa_cons (pv 0) (pa_cons (pv 2) pa_nil)))) (pa_cons (pe_call G_draw (hr.mono (by decide)) rfl gD D.kp b_draw .nil pass0 (by exact (pa_cons (pv 0) (pa_cons (pv 1) pa_nil)))) pa_nil)) (by rfl))
  (pss_cons (ps_if (pt_cmpR op_eq (pe_call G_draw (hr.mono (by decide)) rfl gD D.kp b_draw .nil pass0 (by exact (pa_cons (pv 0) (pa_cons pe_int pa_nil)))) pe_int (nomark _)) (pss_one (ps_ret (pe_tup (pa_cons pe_str (pa_cons (pv 4) (pa_cons (pv 3) (pa_cons (pv 2) (pa_cons pe_int pa_nil)))))))) pss_nil)
  (pss_one (ps_ret (pe_tup (pa_cons pe_str (pa_cons (pe_op op_add pe_int (pv 4)) (pa_cons (pv 3) (pa_cons (pv 2) (pa_cons (pe_call G_pick (hr.mono (by decide)) rfl gP Pk.kp b_pick .nil pass0 (by exact (pa_cons (pv 0) (pa_cons (pe_lst (pa_cons pe_int (pa_cons pe_int (pa_cons pe_int (pa_cons pe_int (pa_cons pe_int (pa_cons (pe_call G_draw (hr.mono (by decide)) rfl gD D.kp b_draw .nil pass0 (by exact (pa_cons (pv 0) (pa_cons (pv 1) pa_nil)))) pa_nil))))))) pa_nil)))) pa_nil))))))))))), ?_⟩
    refine ⟨fun σ' H' => ∃ many : Int, σ' = [some (.ref p), some (.int most), some (.int many), none, none] ∧ 1 ≤ many ∧ many ≤ 6 ∧ PenAt (n + 1) H' p q ∧ Mv p H H', ?_, ?_⟩
    · refine ⟨_, rfl, by show 7 ≤ sizeLine; decide, fun l0 hl0 => ?_⟩
      refine ⟨n, p, q, l0, _, rfl, hp.new hl0, by omega, (hp.fresh hl0).1, upd_same, by show 0 < 7; decide, by show 7 ≤ 1000; decide, fun H1 x p1 m1 hx => ?_⟩
      have mv := (Mv.new hl0).trans m1
      simp only [List.mem_cons, List.not_mem_nil, or_false] at hx
      rcases hx with rfl | rfl | rfl | rfl | rfl | rfl | rfl <;> exact ⟨_, rfl, by decide, by decide, p1, mv⟩
    rintro σ' H1 ⟨many, rfl, a0, a1, p1, m1⟩
    refine ⟨_, rfl, _, rfl, n + 1, p, q, many, rfl, p1, by omega, by omega, small_log (by omega) (by omega), fun H2 r p2 m2 r0 r1 => ?_⟩
    refine ⟨_, rfl, _, rfl, n + 2, p, q, most, rfl, p2, by omega, by omega, small_log (by omega) (by omega), fun H3 x p3 m3 x0 x1 => ?_⟩
    refine ⟨_, _, rfl, ?_⟩
    refine ⟨_, rfl, n + 3, p, q, 3, rfl, p3, by omega, by decide, small_log (by decide) (by decide), fun H4 c p4 m4 c0 c1 => ?_⟩
    have mv4 := ((m1.trans m2).trans m3).trans m4
    refine ⟨rfl, _, rfl, ?_⟩
    refine ite2 (fun _ => ?_) (fun _ => ?_)
    · refine ⟨_, rfl, _, rfl, _, rfl, by show 5 ≤ sizeLine; decide, fun tp htp => ?_⟩
      have un : H tp = none := by
        cases e : H tp with
        | none => rfl
        | some o => rw [mv4 tp o (p4.fresh htp).1 e] at htp; cases htp
      exact fin _ tp (.down x r many) ((p4.new htp).more (by omega)) (mv4.trans (Mv.new htp)) un upd_same ⟨x0, by show x ≤ 400; omega, r0, by show r ≤ many - 1; omega, a0, a1, Int.le_refl _, by show (0 : Int) ≤ 400; decide⟩ (fun z => nomatch z) (fun _ => x1)
    · refine ⟨_, rfl, _, _, rfl, rfl, _, rfl, _, rfl, _, rfl, ?_⟩
      refine ⟨_, rfl, _, rfl, n + 4, p, q, most, rfl, p4, by omega, by omega, small_log (by omega) (by omega), fun H5 v p5 m5 v0 v1 => ?_⟩
      refine ⟨by show 6 ≤ sizeLine; decide, fun l0 hl0 => ?_⟩
      refine ⟨n + 5, p, q, l0, _, rfl, p5.new hl0, by omega, (p5.fresh hl0).1, upd_same, by show 0 < 6; decide, by show 6 ≤ 1000; decide, fun H6 y p6 m6 hy => ?_⟩
      have mv6 := ((mv4.trans m5).trans (Mv.new hl0)).trans m6
      obtain ⟨yi, rfl, y0, y1⟩ : ∃ yi, y = .int yi ∧ 0 ≤ yi ∧ yi ≤ (if most ≤ 2 then 2 else most - 1) := by
        simp only [List.mem_cons, List.not_mem_nil, or_false] at hy
        rcases hy with rfl | rfl | rfl | rfl | rfl | rfl
        · exact ⟨_, rfl, by decide, by split <;> omega⟩
        · exact ⟨_, rfl, by decide, by split <;> omega⟩
        · exact ⟨_, rfl, by decide, by split <;> omega⟩
        · exact ⟨_, rfl, by decide, by split <;> omega⟩
        · exact ⟨_, rfl, by decide, by split <;> omega⟩
        · exact ⟨_, rfl, v0, by split <;> omega⟩
      refine ⟨by show 5 ≤ sizeLine; decide, fun tp htp => ?_⟩
      have un : H tp = none := by
        cases e : H tp with
        | none => rfl
        | some o => rw [mv6 tp o (p6.fresh htp).1 e] at htp; cases htp
      have y2 : yi ≤ 400 := Int.le_trans y1 (by split <;> omega)
      exact fin _ tp (.fixed (1 + x) r many yi) ((p6.new htp).more (by omega)) (mv6.trans (Mv.new htp)) un upd_same ⟨by show 1 ≤ 1 + x; omega, by show 1 + x ≤ 400; omega, r0, by show r ≤ many - 1; omega, a0, a1, y0, y2⟩ (fun _ => ⟨by show 1 + x ≤ most; omega, y1⟩) (fun z => nomatch z)
end
section
variable {P : Program} {w : World} {K : PySem.W.Frag} {mg : Str → Option Value} {base : Heap}

abbrev s_rule : Stmt := topS 29
theorem sc_rule : FnScope ["_law_parts_here"] ["_law_parts_here"] (defScope s_rule) := ⟨rfl, rfl, rfl, by decide +kernel, rfl, by decide +kernel, by decide +kernel⟩
theorem ok_rule {f fDn fFx CF CD CB : Addr} {fd fdDn fdFx : FuncData} (F : Fun K "_law_rule" "_law_rule" s_rule f fd) (Dn : FunDown K fDn fdDn) (G_down : FnOk P w K mg base (L2.CX P w) 5 fDn fdDn ["self", "to", "rest", "modulus"] (spDown CB CD)) (MkD : Mk K CD fDn) (gDn : mg "Down" = some (.ref CD))
    (Fx : FunFixed K fFx fdFx) (G_fixed : FnOk P w K mg base (L2.CX P w) 5 fFx fdFx pFx (spFixed CB CF)) (MkF : Mk K CF fFx) (gFx : mg "Fixed" = some (.ref CF)) : FnOk P w K mg base CX0 7 f fd ["_law_parts_here"] (spRule CF CD) := by
  have b_dall := bd_all Dn
  have b_fall := bf_all Fx
  refine F.ok sc_rule (fun vs H Q E h => ?_) (fun cdv A outer s H vs Q E hr h => ?_)
  · obtain ⟨tp, d, rfl, _⟩ := h
    rfl
  · obtain ⟨tp, d, rfl, ht, wf, fin⟩ := h
    refine ⟨_, (pss_cons (ps_if (pt_cmpR op_eq (pe_ix ix_tup (pv 0) pe_int (fun _ _ => rfl)) pe_str (nomark _)) (pss_one (ps_ret (pe_box (pe_make MkD G_down (hr.mono (by decide)) rfl gDn b_dall .nil (passes_call LamX.takes0 (fun _ _ _ _ h => h)) (by exact (pa_cons (pe_ix ix_tup (pv 0) pe_int (fun _ _ => rfl)) (pa_cons (pe_ix ix_tup (pv 0) pe_int (fun _ _ => rfl)) (pa_cons (pe_ix ix_tup (pv 0) pe_int (fun _ _ => rfl)) pa_nil)))))))) pss_nil)
  (pss_one (ps_ret (pe_box (pe_make MkF G_fixed (hr.mono (by decide)) rfl gFx b_fall .nil (passes_call LamX.takes0 (fun _ _ _ _ h => h)) (by exact (pa_cons (pe_ix ix_tup (pv 0) pe_int (fun _ _ => rfl)) (pa_cons (pe_ix ix_tup (pv 0) pe_int (fun _ _ => rfl)) (pa_cons (pe_ix ix_tup (pv 0) pe_int (fun _ _ => rfl)) (pa_cons (pe_ix ix_tup (pv 0) pe_int (fun _ _ => rfl)) pa_nil)))))))))), ?_⟩
    cases d with
    | down t r m =>
      refine ⟨_, rfl, tp, _, _, _, rfl, rfl, SqT.of ht, rfl, rfl, _, rfl, ?_⟩
      rw [show decide (V.str (RD.down t r m).kind = V.str "down") = true from isDown_down]
      refine iteT ⟨_, rfl, tp, _, _, _, rfl, rfl, SqT.of ht, rfl, _, rfl, tp, _, _, _, rfl, rfl, SqT.of ht, rfl, _, rfl, tp, _, _, _, rfl, rfl, SqT.of ht, rfl, fun x dx hx hdx ne => ?_⟩
      exact down_rule (CF := CF) (CD := CD) (Q := Q) wf hx hdx fun H' s r => fin H' x s hx r
    | fixed z r m l =>
      refine ⟨_, rfl, tp, _, _, _, rfl, rfl, SqT.of ht, rfl, rfl, _, rfl, ?_⟩
      rw [show decide (V.str (RD.fixed z r m l).kind = V.str "down") = false from isDown_fixed]
      refine iteF ⟨_, rfl, tp, _, _, _, rfl, rfl, SqT.of ht, rfl, _, rfl, tp, _, _, _, rfl, rfl, SqT.of ht, rfl, _, rfl, tp, _, _, _, rfl, rfl, SqT.of ht, rfl, _, rfl, tp, _, _, _, rfl, rfl, SqT.of ht, rfl, fun x dx hx hdx ne => ?_⟩
      exact fixed_rule (CF := CF) (CD := CD) (Q := Q) wf hx hdx fun H' s r => fin H' x s hx r
end
end Fz
set_option Elab.async false
set_option linter.all false
set_option maxRecDepth 100000
set_option maxHeartbeats 2000000
namespace Fz
open PySem PySem.Spec PyProof.Rows L2
/-- one step of a reading -/
local macro_rules | `(tactic| walk_at "st") => `(tactic| first
  | refine ⟨_, rfl, ?_⟩
  | refine Or.inl ⟨_, rfl, ?_⟩
  | refine Or.inr ⟨_, rfl, ?_⟩
  | refine ⟨_, _, _, _, rfl, rfl, SqL.of (by first | assumption | exact upd_same), rfl, ?_⟩
  | refine ⟨_, _, _, _, rfl, rfl, (by first | assumption | exact upd_same), rfl, ?_⟩
  | refine ⟨_, _, rfl, .inl ⟨_, SqL.of (by first | assumption | exact upd_same), rfl⟩, ?_⟩
  | refine ⟨_, _, rfl, rfl, (show (0 : Int) < _ by first | decide | omega), ?_⟩
  | refine ⟨_, _, rfl, rfl, (show (0 : Int) < _ ∧ _ < _ by first | exact ⟨by decide, by decide⟩ | omega), ?_⟩
  | refine ⟨_, _, rfl, rfl, (show (_ < _ ∧ _ < _) ∨ (_ < _ ∧ _ < _) by first | exact .inl ⟨by decide, by decide⟩ | omega), ?_⟩
  | refine ⟨_, _, rfl, rfl, (show (0 : Int) ≤ _ ∧ _ ≤ _ ∧ _ < _ by first | exact ⟨by decide, by decide, by decide⟩ | exact ⟨by decide, by decide, by omega⟩), ?_⟩
  | refine ⟨_, _, rfl, rfl, ?_⟩)

section
variable {P : Program} {w : World} {K : PySem.W.Frag} {mg : Str → Option Value} {base : Heap}

abbrev s_restT : Stmt := topS 18
theorem sc_restT : FnScope ["rule"] ["rule"] (defScope s_restT) := ⟨rfl, rfl, rfl, by decide +kernel, rfl, by decide +kernel, by decide +kernel⟩
theorem ok_restT {C f : Addr} {fd : FuncData} (F : Fun K "rest_text" "rest_text" s_restT f fd) (IC : InsC K C) : FnOk P w K mg base CX0 1 f fd ["rule"] (spRestT C) := by
  refine F.ok sc_restT (fun vs H Q E h => ?_) (fun cdv A outer s H vs Q E hr h => ?_)
  · obtain ⟨x, dx, fs, r, m, rfl, _⟩ := h
    rfl
  · obtain ⟨x, dx, fs, r, m, rfl, hx, kr, km, r0, r1, m0, m1, fin⟩ := h
    refine ⟨_, (pss_cons (ps_if (pt_cmpR op_eq (pe_fld (pv 0) rfl) pe_int (nomark _)) (pss_one (ps_ret pe_str)) pss_nil)
  (pss_one (ps_ret (pe_joined (PJ.cons pe_str (PJ.cons (pe_fmt (pe_fld (pv 0) rfl)) (PJ.cons pe_str (PJ.cons (pe_fmt (pe_fld (pv 0) rfl)) PJ.nil)))))))), ?_⟩
    refine ⟨_, rfl, x, C, dx, fs, _, rfl, hx, IC.cl, IC.nModulus, km, rfl, _, rfl, ?_⟩
    refine ite2 (fun z => ?_) (fun z => ?_)
    · have e : m = 1 := by simpa using of_decide_eq_true z
      have q : restT r m = ("" : Str) := by unfold restT; rw [if_pos e]
      rw [q] at fin
      exact fin
    · have e : ¬ m = 1 := fun y => z (decide_eq_true (by rw [y]))
      have q : restT r m = (((Str.empty ++ (" rest " : Str)) ++ (toString r : Str)) ++ (" of " : Str)) ++ (toString m : Str) := by unfold restT; rw [if_neg e]
      have a := num_short r0 r1
      have b := num_short m0 m1
      have c1 : (Str.empty ++ (" rest " : Str)).length = 6 := by decide +kernel
      have c2 : (" of " : Str).length = 4 := by decide +kernel
      have l2 : ((Str.empty ++ (" rest " : Str)) ++ (toString r : Str)).length ≤ 16 := by rw [strLen_append, c1]; omega
      have l3 : (((Str.empty ++ (" rest " : Str)) ++ (toString r : Str)) ++ (" of " : Str)).length ≤ 20 := by rw [strLen_append, c2]; omega
      have l4 : ((((Str.empty ++ (" rest " : Str)) ++ (toString r : Str)) ++ (" of " : Str)) ++ (toString m : Str)).length ≤ 30 := by rw [strLen_append]; omega
      have big : (30 : Nat) ≤ sizeLine := by show 30 ≤ 16777216; decide
      refine ⟨_, rfl, by rw [c1]; omega, ?_⟩
      refine ⟨_, rfl, x, C, dx, fs, _, rfl, hx, IC.cl, IC.nRest, kr, .inr ⟨r, rfl, num_log r0 r1, _, rfl, by omega, ?_⟩⟩
      refine ⟨_, rfl, by omega, ?_⟩
      refine ⟨_, rfl, x, C, dx, fs, _, rfl, hx, IC.cl, IC.nModulus, km, .inr ⟨m, rfl, num_log m0 m1, _, rfl, by omega, ?_⟩⟩
      rw [q] at fin
      exact fin
abbrev s_leaveT : Stmt := topS 19
theorem sc_leaveT : FnScope ["rule"] ["rule"] (defScope s_leaveT) := ⟨rfl, rfl, rfl, by decide +kernel, rfl, by decide +kernel, by decide +kernel⟩
theorem ok_leaveT {C f : Addr} {fd : FuncData} (F : Fun K "leave_text" "leave_text" s_leaveT f fd) (IC : InsC K C) : FnOk P w K mg base CX0 1 f fd ["rule"] (spLeaveT C) := by
  refine F.ok sc_leaveT (fun vs H Q E h => ?_) (fun cdv A outer s H vs Q E hr h => ?_)
  · obtain ⟨x, dx, fs, l, rfl, _⟩ := h
    rfl
  · obtain ⟨x, dx, fs, l, rfl, hx, kl, l0, l1, fin⟩ := h
    refine ⟨_, (pss_cons (ps_if (pt_cmpR op_eq (pe_fld (pv 0) rfl) pe_int (nomark _)) (pss_one (ps_ret pe_str)) pss_nil)
  (pss_one (ps_ret (pe_joined (PJ.cons pe_str (PJ.cons (pe_fmt (pe_fld (pv 0) rfl)) PJ.nil)))))), ?_⟩
    refine ⟨_, rfl, x, C, dx, fs, _, rfl, hx, IC.cl, IC.nLeave, kl, rfl, _, rfl, ?_⟩
    refine ite2 (fun z => ?_) (fun z => ?_)
    · have e : l = 0 := by simpa using of_decide_eq_true z
      have q : leaveT l = ("" : Str) := by unfold leaveT; rw [if_pos e]
      rw [q] at fin
      exact fin
    · have e : ¬ l = 0 := fun y => z (decide_eq_true (by rw [y]))
      have q : leaveT l = (Str.empty ++ (" leave " : Str)) ++ (toString l : Str) := by unfold leaveT; rw [if_neg e]
      have a := num_short l0 l1
      have c1 : (Str.empty ++ (" leave " : Str)).length = 7 := by decide +kernel
      have l2 : ((Str.empty ++ (" leave " : Str)) ++ (toString l : Str)).length ≤ 17 := by rw [strLen_append, c1]; omega
      have big : (30 : Nat) ≤ sizeLine := by show 30 ≤ 16777216; decide
      refine ⟨_, rfl, by rw [c1]; omega, ?_⟩
      refine ⟨_, rfl, x, C, dx, fs, _, rfl, hx, IC.cl, IC.nLeave, kl, .inr ⟨l, rfl, num_log l0 l1, _, rfl, by omega, ?_⟩⟩
      rw [q] at fin
      exact fin
abbrev s_strF : Stmt := inClass (topS 15) 2
theorem sc_strF : FnScope ["self"] ["self"] (defScope s_strF) := ⟨rfl, rfl, rfl, by decide +kernel, rfl, by decide +kernel, by decide +kernel⟩
theorem ok_strF {CF CD f fRt fLt : Addr} {fd fdRt fdLt : FuncData} (F : Fun K "__str__" "Fixed.__str__" s_strF f fd) (IC : InsC K CF) (RT : Fun K "rest_text" "rest_text" s_restT fRt fdRt) (gRt : mg "rest_text" = some (.ref fRt)) (b_restT : L2.Binds K fdRt ["rule"] []) (LT : Fun K "leave_text" "leave_text" s_leaveT fLt fdLt) (gLt : mg "leave_text" = some (.ref fLt)) (b_leaveT : L2.Binds K fdLt ["rule"] []) : FnOk P w K mg base CX0 2 f fd ["self"] (spStrF CF CD) := by
  have G_restT : FnOk P w K mg base CX0 1 fRt fdRt ["rule"] (spRestT CF) := ok_restT RT IC
  have G_leaveT : FnOk P w K mg base CX0 1 fLt fdLt ["rule"] (spLeaveT CF) := ok_leaveT LT IC
  refine F.ok sc_strF (fun vs H Q E h => ?_) (fun cdv A outer s H vs Q E hr h => ?_)
  · obtain ⟨x, z, r, m, l, rfl, _⟩ := h
    rfl
  · obtain ⟨x, z, r, m, l, rfl, ⟨dx, hx⟩, wf, fin⟩ := h
    have a := wf.n0; have b := wf.n1; have c := wf.r0; have d := wf.r1; have e := wf.m0; have f := wf.m1; have g := wf.l0; have i := wf.l1
    simp only [RD.isF, RD.num, RD.rest, RD.mod, RD.leave, if_true, Bool.false_eq_true, if_false] at a b c d e f g i
    refine ⟨_, (pss_one (ps_ret (pe_joined (PJ.cons pe_str (PJ.cons (pe_fmt (pe_fld (pv 0) rfl)) (PJ.cons (pe_fmt (pe_call G_restT (hr.mono (by decide)) rfl gRt RT.kp b_restT .nil pass0 (by exact (pa_cons (pv 0) pa_nil)))) (PJ.cons (pe_fmt (pe_call G_leaveT (hr.mono (by decide)) rfl gLt LT.kp b_leaveT .nil pass0 (by exact (pa_cons (pv 0) pa_nil)))) PJ.nil))))))), ?_⟩
    have big : (200 : Nat) ≤ sizeLine := by show 200 ≤ 16777216; decide
    have c1 : (Str.empty ++ ("fixed " : Str)).length = 6 := by decide +kernel
    have n1 := num_short (n := z) (by omega) b
    have t1 := restT_short (r := r) (m := m) (by omega) (by omega) (by omega) (by omega)
    have k1 : ((Str.empty ++ ("fixed " : Str)) ++ (toString z : Str)).length ≤ 20 := by rw [strLen_append, c1]; omega
    have k2 : (((Str.empty ++ ("fixed " : Str)) ++ (toString z : Str)) ++ restT r m).length ≤ 80 := by rw [strLen_append]; omega
    refine ⟨_, rfl, by rw [c1]; omega, ?_⟩
    refine ⟨_, rfl, x, CF, dx, _, .int z, rfl, hx, IC.cl, IC.nSize, rfl, .inr ⟨_, rfl, num_log (by omega) b, _, rfl, by omega, ?_⟩⟩
    refine ⟨_, rfl, x, dx, _, r, m, rfl, hx, rfl, rfl, c, by omega, by omega, by omega, .inl ⟨_, rfl, by omega, _, rfl, by omega, ?_⟩⟩
    have t2 := leaveT_short (l := l) g i
    have k3 : ((((Str.empty ++ ("fixed " : Str)) ++ (toString z : Str)) ++ restT r m) ++ leaveT l).length ≤ 120 := by rw [strLen_append]; omega
    refine ⟨_, rfl, x, dx, _, l, rfl, hx, rfl, g, i, .inl ⟨_, rfl, by omega, _, rfl, by omega, ?_⟩⟩
    exact fin
abbrev s_strD : Stmt := inClass (topS 16) 2
theorem sc_strD : FnScope ["self"] ["self"] (defScope s_strD) := ⟨rfl, rfl, rfl, by decide +kernel, rfl, by decide +kernel, by decide +kernel⟩
theorem ok_strD {CF CD f fRt : Addr} {fd fdRt : FuncData} (F : Fun K "__str__" "Down.__str__" s_strD f fd) (IC : InsC K CD) (RT : Fun K "rest_text" "rest_text" s_restT fRt fdRt) (gRt : mg "rest_text" = some (.ref fRt)) (b_restT : L2.Binds K fdRt ["rule"] []) : FnOk P w K mg base CX0 2 f fd ["self"] (spStrD CF CD) := by
  have G_restT : FnOk P w K mg base CX0 1 fRt fdRt ["rule"] (spRestT CD) := ok_restT RT IC
  refine F.ok sc_strD (fun vs H Q E h => ?_) (fun cdv A outer s H vs Q E hr h => ?_)
  · obtain ⟨x, t, r, m, rfl, _⟩ := h
    rfl
  · obtain ⟨x, t, r, m, rfl, ⟨dx, hx⟩, wf, fin⟩ := h
    have a := wf.n0; have b := wf.n1; have c := wf.r0; have d := wf.r1; have e := wf.m0; have f := wf.m1; have g := wf.l0; have i := wf.l1
    simp only [RD.isF, RD.num, RD.rest, RD.mod, RD.leave, if_true, Bool.false_eq_true, if_false] at a b c d e f g i
    refine ⟨_, (pss_one (ps_ret (pe_joined (PJ.cons pe_str (PJ.cons (pe_fmt (pe_fld (pv 0) rfl)) (PJ.cons (pe_fmt (pe_call G_restT (hr.mono (by decide)) rfl gRt RT.kp b_restT .nil pass0 (by exact (pa_cons (pv 0) pa_nil)))) PJ.nil)))))), ?_⟩
    have big : (200 : Nat) ≤ sizeLine := by show 200 ≤ 16777216; decide
    have c1 : (Str.empty ++ ("down " : Str)).length = 5 := by decide +kernel
    have n1 := num_short (n := t) (by omega) b
    have t1 := restT_short (r := r) (m := m) (by omega) (by omega) (by omega) (by omega)
    have k1 : ((Str.empty ++ ("down " : Str)) ++ (toString t : Str)).length ≤ 20 := by rw [strLen_append, c1]; omega
    have k2 : (((Str.empty ++ ("down " : Str)) ++ (toString t : Str)) ++ restT r m).length ≤ 80 := by rw [strLen_append]; omega
    refine ⟨_, rfl, by rw [c1]; omega, ?_⟩
    refine ⟨_, rfl, x, CD, dx, _, .int t, rfl, hx, IC.cl, IC.nTo, rfl, .inr ⟨_, rfl, num_log (by omega) b, _, rfl, by omega, ?_⟩⟩
    refine ⟨_, rfl, x, dx, _, r, m, rfl, hx, rfl, rfl, c, by omega, by omega, by omega, .inl ⟨_, rfl, by omega, _, rfl, by omega, ?_⟩⟩
    exact fin
end
section
variable {P : Program} {w : World} {K : PySem.W.Frag} {mg : Str → Option Value} {base : Heap}

abbrev s_leaving : Stmt := inClass (topS 15) 7
theorem sc_leaving : FnScope ["self", "leave"] ["self", "leave"] (defScope s_leaving) := ⟨rfl, rfl, rfl, by decide +kernel, rfl, by decide +kernel, by decide +kernel⟩
theorem ok_leaving {f fFx CF CD CB : Addr} {fd fdFx : FuncData} (F : Fun K "leaving" "Fixed.leaving" s_leaving f fd) (IC : InsC K CF) (Fx : FunFixed K fFx fdFx) (G_fixed : FnOk P w K mg base (L2.CX P w) 5 fFx fdFx pFx (spFixed CB CF)) (MkF : Mk K CF fFx) (gFx : mg "Fixed" = some (.ref CF)) : FnOk P w K mg base (L2.CX P w) 7 f fd ["self", "leave"] (spLeaving CB CF CD) := by
  have b_fall := bf_all Fx
  refine F.okX sc_leaving (fun vs H Q E h => ?_) (fun cdv A outer s H vs Q E hr h => ?_)
  · obtain ⟨x, z, r, m, l, v, rfl, _⟩ := h
    rfl
  · obtain ⟨x, z, r, m, l, v, rfl, ⟨dx, hx⟩, wf, kv, bad, fin⟩ := h
    refine ⟨_, (pss_one (ps_ret (pe_make MkF G_fixed (hr.mono (by decide)) rfl gFx b_fall .nil (passes_call (takes_of rfl rfl rfl rfl) (fun _ _ _ _ h => h)) (by exact (pa_cons (pe_fld (pv 0) rfl) (pa_cons (pe_fld (pv 0) rfl) (pa_cons (pe_fld (pv 0) rfl) (pa_cons (pv 1) pa_nil)))))))), ?_⟩
    refine ⟨_, rfl, x, CF, dx, _, .int z, rfl, hx, IC.cl, IC.nSize, rfl, _, rfl, x, CF, dx, _, .int r, rfl, hx, IC.cl, IC.nRest, rfl, _, rfl, x, CF, dx, _, .int m, rfl, hx, IC.cl, IC.nModulus, rfl, _, rfl, fun y dy hy hdy ne => ?_⟩
    have up := up_made (C := CF) hy hdy
    refine ⟨y, dy, .int z, .int r, .int m, v, rfl, upd_same, True.intro, True.intro, True.intro, kv.same up, fun q H' hq mv => bad q H' hq (made_same hy hdy mv), fun zi ri mi li H' e1 e2 e3 e4 hq mv at_ => ⟨rfl, ?_⟩⟩
    cases e1
    cases e2
    cases e3
    subst e4
    exact fin H' y hq (made_same hy hdy mv) ⟨dy, at_⟩
end
abbrev s_heard : Stmt := topS 31
section
variable {X : Cx} {CRl CB CF fB : Addr}
theorem sc_heard : FnScope ["_law_ask", "error", "_law_caught", "_law_found"] ["_law_ask"] (defScope s_heard) := ⟨rfl, rfl, rfl, by decide +kernel, rfl, by decide +kernel, by decide +kernel⟩
theorem heard_gives {g : Addr} {cdg : Value} {q : Str} (U : Blt X.mg) (T : PrgB X.K X.mg CRl CB fB) (E : PrgE X.K X.mg CB CF) : LamX.GivesTo X ["_law_ask", "error", "_law_caught", "_law_found"] "_law_heard" (defScope s_heard) g cdg (defBody s_heard) "_law_ask" q (TTh CB) := by
  intro f c' s H Q tl act hc h
  refine ⟨_, pss_cons (ps_asg (pe_tup (pa_cons pe_non (pa_cons pe_non pa_nil))) (pg_tup rfl (pgs_cons (pg_name (i := 2) sc_heard.nd rfl (Or.inl rfl)) (pgs_cons (pg_name (i := 3) sc_heard.nd rfl (Or.inl rfl)) pgs_nil))))
    (pss_cons (ps_tryErr (i := 1) (c := .ref CF) (tb := fun W D σ H => ∃ Ech : XK, (∀ cls d σ' H', Ech cls d H' → W cls d σ' H') ∧ σ[0]? = some (some (.ref f)) ∧ H c' = some (LamX.CodeO c' q) ∧ ∃ Q' : VK, tl Ech H Q' ∧ ∀ x H', Q' x H' → D.nx (σ.set 3 (some x)) H')
      rfl rfl rfl sc_heard.nd rfl rfl ⟨rfl, by decide, .inl E.g_FreeError⟩ LamX.takes0 (fun W pn xe tk own => ?_) (fun p cls d pn => pss_one (ps_set (i := 2) sc_heard.nd rfl (Or.inl rfl) (pv 1))))
    (pss_cons (ps_if (pt_cmpR op_isN (pv 2) pe_non (nomark _)) (pss_one (ps_ret (pe_lst (pa_cons (pv 3) pa_nil)))) pss_nil)
    (pss_one (ps_ret (pe_ifExp (pt_val (pe_callB call_isErr rfl U.z_isinstance (by decide +kernel) (pa_cons (pv 2) (pa_cons (pe_glob (v := .ref _) rfl T.g_BadRule rfl) pa_nil)))) (pe_tup (pa_cons pe_str (pa_cons (pe_errF (pv 2)) pa_nil))) (pe_tup (pa_cons pe_str pa_nil))))))), ?_⟩
  · refine ⟨fun pins s' σ H' D I h' => ?_⟩
    obtain ⟨Ech, hW, h1, h2, Q', h3, h4⟩ := h'
    have hp := fun p1 p2 => act W pn xe Ech p1 p2 tk hW
    exact (pss_one (ps_set (i := 3) sc_heard.nd rfl (Or.inl rfl) (pe_weak (hp _ _)))).run pins s' σ H' D I ⟨Q', ⟨h1, h2, h3⟩, h4⟩
  · refine ⟨(by show 2 ≤ sizeLine; decide), fun p hp => ?_⟩
    have hS : Same H (upd H p (.tup [V.non, V.non])) := fun b o z => by
      rw [upd_ne (ne_of_none z hp)]
      exact z
    refine ⟨p, _, rfl, SqT.of upd_same, rfl, ?_⟩
    have h2 := h _ hS
    refine ⟨_, _, rfl, _, _, rfl, rfl, ?_⟩
    refine ⟨(fun cls d H' => cls = .ref CB ∧ ∃ (dd : Addr) (z : V), d = some dd ∧ H' dd = some (.xd [("part", z)]) ∧ ∀ H'' t, Same H' H'' → H'' t = some (.tup [.str "part", z]) → Q (.ref t) H''), fun cls d σ' H' hE => ?_, rfl, hS _ _ hc, _, h2, fun x H' hx => ?_⟩
    · obtain ⟨rfl, dd, z, rfl, hd, fin⟩ := hE
      refine ⟨true, E.hit, fun _ len a ha => ?_, fun z => by cases z⟩
      match σ', len with
      | [a0, a1, a2, a3], _ =>
        have hd2 : upd H' a (Err (.ref CB) (some dd) a) dd = some (.xd [("part", z)]) := by
          rw [upd_ne (ne_of_none hd ha)]
          exact hd
        refine ⟨_, rfl, ?_⟩
        refine ⟨_, rfl, rfl, _, rfl, iteF ?_⟩
        refine ⟨_, rfl, a, CB, some dd, .ref CB, .ref CB, true, rfl, upd_same, fun d2 e => ⟨_, by cases e; exact hd2⟩, E.exc, .own CB, E.same, _, rfl, iteT ?_⟩
        refine ⟨_, rfl, a, CB, dd, _, z, rfl, upd_same, hd2, E.xf, T.nPart, rfl, (by show 2 ≤ sizeLine; decide), fun t ht => ?_⟩
        exact fin _ t (fun b o e => by rw [upd_ne (ne_of_none (by rw [upd_ne (ne_of_none e ha)]; exact e) ht), upd_ne (ne_of_none e ha)]; exact e) upd_same
    · refine ⟨_, rfl, rfl, _, rfl, iteT ?_⟩
      exact ⟨_, rfl, (by show 1 ≤ sizeLine; decide), fun l hl => hx _ l (fun b o e => by rw [upd_ne (ne_of_none e hl)]; exact e) upd_same⟩
end
end Fz
set_option Elab.async false
set_option linter.all false
set_option maxRecDepth 100000
set_option maxHeartbeats 2000000
namespace Fz
open PySem PySem.Spec PyProof.Rows L2
/-- one step of a reading -/
local macro_rules | `(tactic| walk_at "st") => `(tactic| first
  | refine ⟨_, rfl, ?_⟩
  | refine Or.inl ⟨_, rfl, ?_⟩
  | refine Or.inr ⟨_, rfl, ?_⟩
  | refine ⟨_, _, _, _, rfl, rfl, SqL.of (by first | assumption | exact upd_same), rfl, ?_⟩
  | refine ⟨_, _, _, _, rfl, rfl, (by first | assumption | exact upd_same), rfl, ?_⟩
  | refine ⟨_, _, rfl, .inl ⟨_, SqL.of (by first | assumption | exact upd_same), rfl⟩, ?_⟩
  | refine ⟨_, _, rfl, rfl, (show (0 : Int) < _ by first | decide | omega), ?_⟩
  | refine ⟨_, _, rfl, rfl, (show (0 : Int) < _ ∧ _ < _ by first | exact ⟨by decide, by decide⟩ | omega), ?_⟩
  | refine ⟨_, _, rfl, rfl, (show (_ < _ ∧ _ < _) ∨ (_ < _ ∧ _ < _) by first | exact .inl ⟨by decide, by decide⟩ | omega), ?_⟩
  | refine ⟨_, _, rfl, rfl, (show (0 : Int) ≤ _ ∧ _ ≤ _ ∧ _ < _ by first | exact ⟨by decide, by decide, by decide⟩ | exact ⟨by decide, by decide, by omega⟩), ?_⟩
  | refine ⟨_, _, rfl, rfl, ?_⟩)

section
variable {P : Program} {w : World} {K : PySem.W.Frag} {mg : Str → Option Value} {base : Heap}

abbrev s_near : Stmt := topS 30
theorem sc_near : FnScope ["_law_pen_here", "_law_parts_here", "_law_way", "_law_kind", "_law_number", "_law_rem", "_law_many", "_law_spare"] ["_law_pen_here", "_law_parts_here"] (defScope s_near) := ⟨rfl, rfl, rfl, by decide +kernel, rfl, by decide +kernel, by decide +kernel⟩
def spNear : Sp := fun vs H Q _ => ∃ (n : Nat) (p q tp : Addr) (d : RD), vs = [.ref p, .ref tp] ∧ PenAt n H p q ∧ n < 90000 ∧ H tp = some (.tup d.tup) ∧ d.Wf ∧ d.num ≤ 399 ∧ d.leave ≤ 399 ∧
  ∀ H' tp' d', PenAt (n + 7) H' p q → Mv p H H' → H' tp' = some (.tup (RD.tup d')) → d'.Wf → Q (.ref tp') H'
theorem ok_near {f fD fP fPa : Addr} {fd fdD fdP fdPa : FuncData} (F : Fun K "_law_near" "_law_near" s_near f fd) (U : Blt mg) (D : Fun K "_law_draw" "_law_draw" s_draw fD fdD) (gD : mg "_law_draw" = some (.ref fD)) (b_draw : L2.Binds K fdD ["_law_pen_here", "_law_many"] [])
    (Pk : Fun K "_law_pick" "_law_pick" s_pick fP fdP) (gP : mg "_law_pick" = some (.ref fP)) (b_pick : L2.Binds K fdP ["_law_pen_here", "_law_some"] [])
    (Pa : Fun K "_law_parts" "_law_parts" s_parts fPa fdPa) (gPa : mg "_law_parts" = some (.ref fPa)) (b_parts : L2.Binds K fdPa ["_law_pen_here", "_law_most"] []) : FnOk P w K mg base CX0 4 f fd ["_law_pen_here", "_law_parts_here"] spNear := by
  have G_draw : FnOk P w K mg base CX0 1 fD fdD ["_law_pen_here", "_law_many"] spDraw := ok_draw D U
  have G_parts : FnOk P w K mg base CX0 3 fPa fdPa ["_law_pen_here", "_law_most"] spParts := ok_parts Pa U D gD b_draw Pk gP b_pick
  refine F.ok sc_near (fun vs H Q E h => ?_) (fun cdv A outer s H vs Q E hr h => ?_)
  · obtain ⟨n, p, q, tp, d, rfl, _⟩ := h
    rfl
  · obtain ⟨n, p, q, tp, d, rfl, hp, hn, ht, wf, top, topl, fin⟩ := h
    refine ⟨_, (pss_cons (ps_set (i := 2) sc_near.nd rfl (Or.inl rfl) (pe_call G_draw (hr.mono (by decide)) rfl gD D.kp b_draw .nil pass0 (by exact (pa_cons (pv 0) (pa_cons pe_int pa_nil)))))
  (pss_cons (ps_asg (pv 1) (pg_tup rfl (pgs_cons (pg_name (i := 3) sc_near.nd rfl (Or.inl rfl)) (pgs_cons (pg_name (i := 4) sc_near.nd rfl (Or.inl rfl)) (pgs_cons (pg_name (i := 5) sc_near.nd rfl (Or.inl rfl)) (pgs_cons (pg_name (i := 6) sc_near.nd rfl (Or.inl rfl)) (pgs_cons (pg_name (i := 7) sc_near.nd rfl (Or.inl rfl)) pgs_nil)))))))
  (C8.pss_cut (ps_if (pt_cmpR op_eq (pv 2) pe_int (nomark _)) (pss_one (ps_ret (pe_ifExp (pt_cmpR op_eq (pv 3) pe_str (nomark _)) (pe_tup (pa_cons pe_str (pa_cons (pv 4) (pa_cons (pv 5) (pa_cons (pv 6) (pa_cons pe_int pa_nil)))))) (pe_tup (pa_cons pe_str (pa_cons (pe_callB (call_max2 rfl) rfl U.z_max (by decide +kernel) (pa_cons pe_int (pa_cons (pe_callTy call_int1 rfl U.z_int (by decide +kernel) (pa_cons (pv 4) pa_nil)) pa_nil))) (pa_cons (pv 5) (pa_cons (pv 6) (pa_cons pe_int pa_nil))))))))) pss_nil)
  (C8.pss_cut (ps_if (pt_cmpR op_eq (pv 2) pe_int (nomark _)) (pss_one (ps_ret (pe_tup (pa_cons (pv 3) (pa_cons (pe_op op_add (pv 4) pe_int) (pa_cons (pv 5) (pa_cons (pv 6) (pa_cons (pv 7) pa_nil)))))))) pss_nil)
  (C8.pss_cut (ps_if (PW.pt (pw_and (pt_cmpR op_eq (pv 2) pe_int (nomark _)) (pw_and1 (pt_cmpR op_gt (pv 6) pe_int (nomark _))))) (pss_one (ps_ret (pe_tup (pa_cons (pv 3) (pa_cons (pv 4) (pa_cons (pe_op op_mod (pe_callTy call_int1 rfl U.z_int (by decide +kernel) (pa_cons (pe_op op_add (pv 5) pe_int) pa_nil)) (pv 6)) (pa_cons (pv 6) (pa_cons (pv 7) pa_nil)))))))) pss_nil)
  (C8.pss_cut (ps_if (PW.pt (pw_and (pt_cmpR op_eq (pv 2) pe_int (nomark _)) (pw_and1 (pt_cmpR op_lt (pv 6) pe_int (nomark _))))) (pss_one (ps_ret (pe_tup (pa_cons (pv 3) (pa_cons (pv 4) (pa_cons (pv 5) (pa_cons (pe_op op_add (pv 6) pe_int) (pa_cons (pv 7) pa_nil)))))))) pss_nil)
  (C8.pss_cut (ps_if (PW.pt (pw_and (pt_cmpR op_eq (pv 2) pe_int (nomark _)) (pw_and1 (pt_cmpR op_eq (pv 3) pe_str (nomark _))))) (pss_one (ps_ret (pe_tup (pa_cons (pv 3) (pa_cons (pv 4) (pa_cons (pv 5) (pa_cons (pv 6) (pa_cons (pe_op op_add (pv 7) pe_int) pa_nil)))))))) pss_nil)
  (pss_one (ps_ret (pe_ifExp (pt_cmpR op_lt (pv 2) pe_int (nomark _)) (pv 1) (pe_call G_parts (hr.mono (by decide)) rfl gPa Pa.kp b_parts .nil pass0 (by exact (pa_cons (pv 0) (pa_cons pe_int pa_nil)))))))))))))), ?_⟩
    refine ⟨_, rfl, n, p, q, 7, rfl, hp, by omega, by decide, small_log (by decide) (by decide), fun H1 way p1 m1 w0 w1 => ?_⟩
    have pt : tp ≠ p := fun z => by
      obtain ⟨xs, hx⟩ := hp.lst
      rw [z, hx] at ht
      cases ht
    have ht1 := m1 _ _ pt ht
    refine ⟨_, rfl, tp, _, rfl, SqT.of ht1, rfl, ?_⟩
    cases d with
    | fixed z r m l =>
      have a : 1 ≤ z := wf.n0
      have b : z ≤ 400 := wf.n1
      have c : 0 ≤ r := wf.r0
      have d : r ≤ m - 1 := wf.r1
      have e : 1 ≤ m := wf.m0
      have f : m ≤ 6 := wf.m1
      have g : 0 ≤ l := wf.l0
      have i : l ≤ 400 := wf.l1
      have top1 : z ≤ 399 := top
      have top2 : l ≤ 399 := topl
      refine ⟨_, _, rfl, _, _, rfl, _, _, rfl, _, _, rfl, _, _, rfl, rfl, ?_⟩
      have done : ∀ d' : RD, d'.Wf → ∀ a, H1 a = none → Q (.ref a) (upd H1 a (.tup d'.tup)) := fun d' wf' a ha => fin _ a d' ((p1.new ha).more (by omega)) (m1.trans (Mv.new ha)) upd_same wf'
      refine ⟨fun σ' H' => σ' = [some (.ref p), some (.ref tp), some (.int way), some (.str (RD.kind (.fixed z r m l))), some (.int z), some (.int r), some (.int m), some (.int l)] ∧ H' = H1, ?_, ?_⟩
      · refine ⟨_, rfl, rfl, _, rfl, ite2 (fun _ => ?_) (fun _ => ⟨rfl, rfl⟩)⟩
        refine ⟨_, rfl, rfl, _, rfl, ?_⟩
        rw [show decide (V.str (RD.fixed z r m l).kind = V.str "fixed") = true from isFixed_fixed]
        exact iteT ⟨_, rfl, _, rfl, _, rfl, by show 5 ≤ sizeLine; decide, fun a ha => done (.down z r m) ⟨by show 0 ≤ z; omega, b, c, d, e, f, Int.le_refl _, by show (0 : Int) ≤ 400; decide⟩ a ha⟩
      rintro σ' H1 ⟨rfl, rfl⟩
      refine ⟨fun σ' H' => σ' = [some (.ref p), some (.ref tp), some (.int way), some (.str (RD.kind (.fixed z r m l))), some (.int z), some (.int r), some (.int m), some (.int l)] ∧ H' = H1, ?_, ?_⟩
      · refine ⟨_, rfl, rfl, _, rfl, ite2 (fun _ => ?_) (fun _ => ⟨rfl, rfl⟩)⟩
        exact ⟨_, rfl, _, rfl, _, _, rfl, rfl, _, rfl, _, rfl, _, rfl, by show 5 ≤ sizeLine; decide, fun x hx => done (RD.fixed (z + 1) (r) (m) (l)) ⟨by show 1 ≤ z + 1; omega, by show z + 1 ≤ 400; omega, c, d, e, f, g, i⟩ x hx⟩
      rintro σ' H1 ⟨rfl, rfl⟩
      refine ⟨fun σ' H' => σ' = [some (.ref p), some (.ref tp), some (.int way), some (.str (RD.kind (.fixed z r m l))), some (.int z), some (.int r), some (.int m), some (.int l)] ∧ H' = H1, ?_, ?_⟩
      · refine ⟨_, rfl, rfl, _, rfl, ite2 (fun _ => ⟨_, rfl, _, _, rfl, rfl, _, rfl, ite2 (fun _ => ?_) (fun _ => ⟨rfl, rfl⟩)⟩) (fun _ => iteF ⟨rfl, rfl⟩)⟩
        have q1 := Int.emod_nonneg (r + 1) (show m ≠ 0 by omega)
        have q2 := Int.emod_lt_of_pos (r + 1) (show 0 < m by omega)
        exact ⟨_, rfl, _, rfl, _, rfl, _, _, rfl, rfl, .inl ⟨_, rfl, _, rfl, _, _, rfl, rfl, by omega, _, rfl, _, rfl, by show 5 ≤ sizeLine; decide, fun x hx => done (RD.fixed (z) ((r + 1) % m) (m) (l)) ⟨a, b, q1, by show (r + 1) % m ≤ m - 1; omega, e, f, g, i⟩ x hx⟩⟩
      rintro σ' H1 ⟨rfl, rfl⟩
      refine ⟨fun σ' H' => σ' = [some (.ref p), some (.ref tp), some (.int way), some (.str (RD.kind (.fixed z r m l))), some (.int z), some (.int r), some (.int m), some (.int l)] ∧ H' = H1, ?_, ?_⟩
      · refine ⟨_, rfl, rfl, _, rfl, ite2 (fun _ => ⟨_, rfl, _, _, rfl, rfl, _, rfl, ite2 (fun h6 => ?_) (fun _ => ⟨rfl, rfl⟩)⟩) (fun _ => iteF ⟨rfl, rfl⟩)⟩
        have q1 : m < 6 := of_decide_eq_true h6
        exact ⟨_, rfl, _, rfl, _, rfl, _, rfl, _, _, rfl, rfl, _, rfl, by show 5 ≤ sizeLine; decide, fun x hx => done (RD.fixed (z) (r) (m + 1) (l)) ⟨a, b, c, by show r ≤ m + 1 - 1; omega, by show 1 ≤ m + 1; omega, by show m + 1 ≤ 6; omega, g, i⟩ x hx⟩
      rintro σ' H1 ⟨rfl, rfl⟩
      refine ⟨fun σ' H' => σ' = [some (.ref p), some (.ref tp), some (.int way), some (.str (RD.kind (.fixed z r m l))), some (.int z), some (.int r), some (.int m), some (.int l)] ∧ H' = H1, ?_, ?_⟩
      · refine ⟨_, rfl, rfl, _, rfl, ite2 (fun _ => ?_) (fun _ => iteF ⟨rfl, rfl⟩)⟩
        refine ⟨_, rfl, rfl, _, rfl, ?_⟩
        rw [show decide (V.str (RD.fixed z r m l).kind = V.str "fixed") = true from isFixed_fixed]
        exact iteT ⟨_, rfl, _, rfl, _, rfl, _, rfl, _, rfl, _, _, rfl, rfl, by show 5 ≤ sizeLine; decide, fun x hx => done (.fixed z r m (l + 1)) ⟨a, b, c, d, e, f, by show 0 ≤ l + 1; omega, by show l + 1 ≤ 400; omega⟩ x hx⟩
      rintro σ' H1 ⟨rfl, rfl⟩
      refine ⟨_, rfl, _, _, rfl, rfl, _, rfl, ite2 (fun _ => ?_) (fun _ => ?_)⟩
      · exact ⟨_, rfl, fin H1 tp _ (p1.more (by omega)) m1 ht1 wf⟩
      · exact ⟨_, rfl, n + 1, p, q, 5, rfl, p1, by omega, by decide, by decide, fun H2 tp' d' pen mv un at_ wf' _ _ => fin H2 tp' d' (pen.more (by omega)) (m1.trans mv) at_ wf'⟩
    | down t r m =>
      have a : 0 ≤ t := wf.n0
      have b : t ≤ 400 := wf.n1
      have c : 0 ≤ r := wf.r0
      have d : r ≤ m - 1 := wf.r1
      have e : 1 ≤ m := wf.m0
      have f : m ≤ 6 := wf.m1
      have top1 : t ≤ 399 := top
      refine ⟨_, _, rfl, _, _, rfl, _, _, rfl, _, _, rfl, _, _, rfl, rfl, ?_⟩
      have done : ∀ d' : RD, d'.Wf → ∀ a, H1 a = none → Q (.ref a) (upd H1 a (.tup d'.tup)) := fun d' wf' a ha => fin _ a d' ((p1.new ha).more (by omega)) (m1.trans (Mv.new ha)) upd_same wf'
      refine ⟨fun σ' H' => σ' = [some (.ref p), some (.ref tp), some (.int way), some (.str (RD.kind (.down t r m))), some (.int t), some (.int r), some (.int m), some (.int 0)] ∧ H' = H1, ?_, ?_⟩
      · refine ⟨_, rfl, rfl, _, rfl, ite2 (fun _ => ?_) (fun _ => ⟨rfl, rfl⟩)⟩
        refine ⟨_, rfl, rfl, _, rfl, ?_⟩
        rw [show decide (V.str (RD.down t r m).kind = V.str "fixed") = false from isFixed_down]
        refine iteF ⟨_, rfl, .inl ⟨_, rfl, _, _, rfl, _, rfl, _, rfl, by show 5 ≤ sizeLine; decide, fun a ha => done (.fixed (if t > 1 then t else 1) r m 0) ⟨?_, ?_, c, d, e, f, Int.le_refl _, by show (0 : Int) ≤ 400; decide⟩ a ha⟩⟩
        · show 1 ≤ (if t > 1 then t else 1)
          split <;> omega
        · show (if t > 1 then t else 1) ≤ 400
          split <;> omega
      rintro σ' H1 ⟨rfl, rfl⟩
      refine ⟨fun σ' H' => σ' = [some (.ref p), some (.ref tp), some (.int way), some (.str (RD.kind (.down t r m))), some (.int t), some (.int r), some (.int m), some (.int 0)] ∧ H' = H1, ?_, ?_⟩
      · refine ⟨_, rfl, rfl, _, rfl, ite2 (fun _ => ?_) (fun _ => ⟨rfl, rfl⟩)⟩
        exact ⟨_, rfl, _, rfl, _, _, rfl, rfl, _, rfl, _, rfl, _, rfl, by show 5 ≤ sizeLine; decide, fun x hx => done (RD.down (t + 1) (r) (m)) ⟨by show 0 ≤ t + 1; omega, by show t + 1 ≤ 400; omega, c, d, e, f, Int.le_refl _, by show (0 : Int) ≤ 400; decide⟩ x hx⟩
      rintro σ' H1 ⟨rfl, rfl⟩
      refine ⟨fun σ' H' => σ' = [some (.ref p), some (.ref tp), some (.int way), some (.str (RD.kind (.down t r m))), some (.int t), some (.int r), some (.int m), some (.int 0)] ∧ H' = H1, ?_, ?_⟩
      · refine ⟨_, rfl, rfl, _, rfl, ite2 (fun _ => ⟨_, rfl, _, _, rfl, rfl, _, rfl, ite2 (fun _ => ?_) (fun _ => ⟨rfl, rfl⟩)⟩) (fun _ => iteF ⟨rfl, rfl⟩)⟩
        have q1 := Int.emod_nonneg (r + 1) (show m ≠ 0 by omega)
        have q2 := Int.emod_lt_of_pos (r + 1) (show 0 < m by omega)
        exact ⟨_, rfl, _, rfl, _, rfl, _, _, rfl, rfl, .inl ⟨_, rfl, _, rfl, _, _, rfl, rfl, by omega, _, rfl, _, rfl, by show 5 ≤ sizeLine; decide, fun x hx => done (RD.down (t) ((r + 1) % m) (m)) ⟨a, b, q1, by show (r + 1) % m ≤ m - 1; omega, e, f, Int.le_refl _, by show (0 : Int) ≤ 400; decide⟩ x hx⟩⟩
      rintro σ' H1 ⟨rfl, rfl⟩
      refine ⟨fun σ' H' => σ' = [some (.ref p), some (.ref tp), some (.int way), some (.str (RD.kind (.down t r m))), some (.int t), some (.int r), some (.int m), some (.int 0)] ∧ H' = H1, ?_, ?_⟩
      · refine ⟨_, rfl, rfl, _, rfl, ite2 (fun _ => ⟨_, rfl, _, _, rfl, rfl, _, rfl, ite2 (fun h6 => ?_) (fun _ => ⟨rfl, rfl⟩)⟩) (fun _ => iteF ⟨rfl, rfl⟩)⟩
        have q1 : m < 6 := of_decide_eq_true h6
        exact ⟨_, rfl, _, rfl, _, rfl, _, rfl, _, _, rfl, rfl, _, rfl, by show 5 ≤ sizeLine; decide, fun x hx => done (RD.down (t) (r) (m + 1)) ⟨a, b, c, by show r ≤ m + 1 - 1; omega, by show 1 ≤ m + 1; omega, by show m + 1 ≤ 6; omega, Int.le_refl _, by show (0 : Int) ≤ 400; decide⟩ x hx⟩
      rintro σ' H1 ⟨rfl, rfl⟩
      refine ⟨fun σ' H' => σ' = [some (.ref p), some (.ref tp), some (.int way), some (.str (RD.kind (.down t r m))), some (.int t), some (.int r), some (.int m), some (.int 0)] ∧ H' = H1, ?_, ?_⟩
      · refine ⟨_, rfl, rfl, _, rfl, ite2 (fun _ => ?_) (fun _ => iteF ⟨rfl, rfl⟩)⟩
        refine ⟨_, rfl, rfl, _, rfl, ?_⟩
        rw [show decide (V.str (RD.down t r m).kind = V.str "fixed") = false from isFixed_down]
        exact iteF ⟨rfl, rfl⟩
      rintro σ' H1 ⟨rfl, rfl⟩
      refine ⟨_, rfl, _, _, rfl, rfl, _, rfl, ite2 (fun _ => ?_) (fun _ => ?_)⟩
      · exact ⟨_, rfl, fin H1 tp _ (p1.more (by omega)) m1 ht1 wf⟩
      · exact ⟨_, rfl, n + 1, p, q, 5, rfl, p1, by omega, by decide, by decide, fun H2 tp' d' pen mv un at_ wf' _ _ => fin H2 tp' d' (pen.more (by omega)) (m1.trans mv) at_ wf'⟩
end
end Fz
set_option Elab.async false
set_option linter.all false
set_option maxRecDepth 100000
set_option maxHeartbeats 2000000
namespace Fz
open PySem PySem.Spec PyProof.Rows L2
/-- one step of a reading -/
local macro_rules | `(tactic| walk_at "st") => `(tactic| first
  | refine ⟨_, rfl, ?_⟩
  | refine Or.inl ⟨_, rfl, ?_⟩
  | refine Or.inr ⟨_, rfl, ?_⟩
  | refine ⟨_, _, _, _, rfl, rfl, SqL.of (by first | assumption | exact upd_same), rfl, ?_⟩
  | refine ⟨_, _, _, _, rfl, rfl, (by first | assumption | exact upd_same), rfl, ?_⟩
  | refine ⟨_, _, rfl, .inl ⟨_, SqL.of (by first | assumption | exact upd_same), rfl⟩, ?_⟩
  | refine ⟨_, _, rfl, rfl, (show (0 : Int) < _ by first | decide | omega), ?_⟩
  | refine ⟨_, _, rfl, rfl, (show (0 : Int) < _ ∧ _ < _ by first | exact ⟨by decide, by decide⟩ | omega), ?_⟩
  | refine ⟨_, _, rfl, rfl, (show (_ < _ ∧ _ < _) ∨ (_ < _ ∧ _ < _) by first | exact .inl ⟨by decide, by decide⟩ | omega), ?_⟩
  | refine ⟨_, _, rfl, rfl, (show (0 : Int) ≤ _ ∧ _ ≤ _ ∧ _ < _ by first | exact ⟨by decide, by decide, by decide⟩ | exact ⟨by decide, by decide, by omega⟩), ?_⟩
  | refine ⟨_, _, rfl, rfl, ?_⟩)

abbrev s_lr : Stmt := topS 32
abbrev lamQ : Str := (envOfC "_law_leaving_right" (defScope s_lr) 0 0 .none).qual ++ "<lambda>"
theorem sc_lr : FnScope ["_law_pen_here", "_law_rule_here", "_law_parts_here", "_law_some", "_law_is_let", "_law_heard_here", "_law_due", "_law_one"] ["_law_pen_here", "_law_rule_here", "_law_parts_here"] (defScope s_lr) := ⟨rfl, rfl, rfl, by decide +kernel, rfl, by decide +kernel, by decide +kernel⟩
section
variable {K : PySem.W.Frag} {CF CD CB : Addr} {TL : List (Addr × Str)} {σ : L2.St} {H : Hp} {Q : VK} {x : Addr} {z r m l : Int} {v : V}
abbrev AnsL (CF : Addr) (z r m : Int) (v : V) (H : Hp) (y : V) : Prop := Ans CF (dueF (.int z) (.int r) (.int m) v) (fun _ => (RD.fixed z r m (toI v)).fs) H y
theorem heard1 (tabs : LamX.Tabs TL H) (v1 : σ[1]? = some (some (.ref x))) (v3 : σ[3]? = some (some v)) (hx : RuleAt CF CD H x (.fixed z r m l)) (wf : (RD.fixed z r m l).Wf) (kv : Kd H v) (hQ : ∀ H' y, LamX.ExtN H H' → LamX.Tabs TL H' → AnsL CF z r m v H' y → Q y H') : Box (LamX.tLam TL (TTh CB) (fun E => tMeth CF "leaving" (spLeaving CB CF CD) [] E (tVar 1) (tCons (tVar 3) tNil))) σ H Q := by
  refine ⟨tabs, fun H3 e3 tabs3 H4 s4 => ?_⟩
  have ext4 := extN_same e3 s4
  obtain ⟨dx, hx4⟩ := hx.ext ext4
  refine ⟨_, v1, x, dx, _, rfl, hx4, rfl, _, v3, ?_⟩
  exact leaving_heard (Q := Q) ⟨dx, hx4⟩ wf (kv.ext ext4) fun H5 y s5 ans => hQ H5 y (extN_same ext4 s5) (tabs3.ext fun b o e => s5 b o (s4 b o e)) ans
theorem heard2 (tabs : LamX.Tabs TL H) (v1 : σ[1]? = some (some (.ref x))) (v3 : σ[3]? = some (some v)) (hx : RuleAt CF CD H x (.fixed z r m l)) (wf : (RD.fixed z r m l).Wf) (kv : Kd H v) (hQ : ∀ H' y, LamX.ExtN H H' → LamX.Tabs TL H' → AnsL CF z r m v H' y → Q y H') : Box (LamX.tLam TL (TTh CB) (fun E => tMethK CF "leaving" (["leave"] : List Str).length (spLeaving CB CF CD) (fun vs zs => vs ++ zs) E (tVar 1) (tCons (tVar 3) tNil))) σ H Q := by
  refine ⟨tabs, fun H3 e3 tabs3 H4 s4 => ?_⟩
  have ext4 := extN_same e3 s4
  obtain ⟨dx, hx4⟩ := hx.ext ext4
  refine ⟨_, v1, x, dx, _, rfl, hx4, rfl, _, v3, rfl, ?_⟩
  exact leaving_heard (Q := Q) ⟨dx, hx4⟩ wf (kv.ext ext4) fun H5 y s5 ans => hQ H5 y (extN_same ext4 s5) (tabs3.ext fun b o e => s5 b o (s4 b o e)) ans
theorem due_leave (wf : (RD.fixed z r m l).Wf) : dueF (.int z) (.int r) (.int m) v = if numV 0 400 v = true then none else some "leave" := by
  have a : 1 ≤ z := wf.n0
  have b : z ≤ 400 := wf.n1
  have c : 0 ≤ r := wf.r0
  have d : r ≤ m - 1 := wf.r1
  have e : 1 ≤ m := wf.m0
  have f : m ≤ 6 := wf.m1
  unfold dueF dueS
  rw [numV_of a b]
  cases numV 0 400 v with
  | true =>
    show dueR (.int r) (.int m) = none
    exact dueR_of c d e f
  | false => rfl
end
section
variable {P : Program} {w : World} {K : PySem.W.Frag} {mg : Str → Option Value} {base : Heap}

def spLR (CF CD Pt : Addr) : Sp := fun vs H Q _ => ∃ (n : Nat) (p q x tp : Addr) (z r m l : Int), vs = [.ref p, .ref x, .ref tp] ∧ PenAt n H p q ∧ n < 90000 ∧ RuleAt CF CD H x (.fixed z r m l) ∧ (RD.fixed z r m l).Wf ∧ H tp = some (.tup (RD.fixed z r m l).tup) ∧ LamX.Tabs [(Pt, lamQ)] H ∧
  ∀ H', PenAt (n + 2) H' p q → MvN p H H' → LamX.Tabs [(Pt, lamQ)] H' → Q (.bl true) H'
theorem ok_lr {f fD fP fH fLv fFx fEq CF CD CB CX CRl fB c Pt : Addr} {fd fdD fdP fdH fdLv fdFx fdEq : FuncData} (F : Fun K "_law_leaving_right" "_law_leaving_right" s_lr f fd) (code : fd.code = .ref c) (TB : LamX.TabB base mg c Pt) (U : Blt mg) (T : PrgB K mg CRl CB fB) (Ex : PrgE K mg CB CX) (PQ : PrgQ K CF CD)
    (D : Fun K "_law_draw" "_law_draw" s_draw fD fdD) (gD : mg "_law_draw" = some (.ref fD)) (b_draw : L2.Binds K fdD ["_law_pen_here", "_law_many"] [])
    (Pk : Fun K "_law_pick" "_law_pick" s_pick fP fdP) (gP : mg "_law_pick" = some (.ref fP)) (b_pick : L2.Binds K fdP ["_law_pen_here", "_law_some"] [])
    (Hd : Fun K "_law_heard" "_law_heard" s_heard fH fdH) (gH : mg "_law_heard" = some (.ref fH)) (b_heard0 : L2.Binds K fdH ["_law_ask"] [])
    (MLv : Meth K CF "leaving" fLv) (G_leaving : FnOk P w K mg base (L2.CX P w) 7 fLv fdLv ["self", "leave"] (spLeaving CB CF CD)) (b_lv : L2.Binds K fdLv ["self", "leave"] []) (b_lvk : KBn K fdLv ["self", "leave"] 1 ["leave"] (fun us ws => us ++ ws) (fun vs zs => vs ++ zs))
    (Fx : FunFixed K fFx fdFx) (G_fixed : FnOk P w K mg base (L2.CX P w) 5 fFx fdFx pFx (spFixed CB CF)) (MkF : Mk K CF fFx) (gFx : mg "Fixed" = some (.ref CF))
    (oF : PySem.W.findIn K (.ref CF) "__eq__" = some (some (.ref fEq))) (iF : PySem.W.isFn K (.ref fEq) = true) (sF : PySem.W.findIn K (.ref CF) "__ne__" = some (some (.builtin "object.__ne__"))) (G_eqF : FnOk P w K mg base CX0 1 fEq fdEq ["self", "other"] (spEqR K CF)) (bF : L2.Binds K fdEq ["self", "other"] []) :
    FnG P w K mg base CX0 10 f fd ["_law_pen_here", "_law_rule_here", "_law_parts_here"] (spLR CF CD Pt) := by
  have G_draw : FnOk P w K mg base CX0 1 fD fdD ["_law_pen_here", "_law_many"] spDraw := ok_draw D U
  have G_pick : FnOk P w K mg base CX0 2 fP fdP ["_law_pen_here", "_law_some"] (spPick K) := ok_pick Pk U D gD b_draw
  have b_fall := bf_all Fx
  obtain ⟨oc, od, kV, doc, pm, an, cdvH, ct, osl, rfl, lkH, codeH⟩ := Hd.ex
  have b_heard := b_heard0
  refine funG F sc_lr (fun vs H Q E h => ?_) (fun cdv A outer s H vs Q E hcdv hr hg h => ?_)
  · obtain ⟨n, p, q, x, tp, z, r, m, l, rfl, _⟩ := h
    rfl
  · obtain ⟨n, p, q, x, tp, z, r, m, l, rfl, hp, hn, hx, wf, ht, tabs, fin⟩ := h
    obtain rfl : cdv = .ref c := hcdv.symm.trans code
    have hcode : ∀ {X : Cx}, X.env.code = .ref c → X.env.code = .ref c := id
    refine ⟨_, (C8.pss_cut (ps_set (i := 3) sc_lr.nd rfl (Or.inr rfl) (pe_call G_pick (hr.mono (by decide)) rfl gP Pk.kp b_pick .nil pass0 (by exact (pa_cons (pv 0) (pa_cons (pe_lst (pa_cons pe_int (pa_cons pe_int (pa_cons pe_int (pa_cons (pe_call G_draw (hr.mono (by decide)) rfl gD D.kp b_draw .nil pass0 (by exact (pa_cons (pv 0) (pa_cons pe_int pa_nil)))) (pa_cons pe_int (pa_cons (pe_un un_neg pe_int) (pa_cons pe_non (pa_cons pe_bl (pa_cons pe_str (pa_cons (pe_lst (pa_cons pe_int pa_nil)) (pa_cons (pe_op op_pow pe_int pe_int) pa_nil)))))))))))) pa_nil)))))
  (C8.pss_cut (ps_set (i := 4) sc_lr.nd rfl (Or.inl rfl) (pe_and (pe_callB call_isi rfl U.z_isinstance (by decide +kernel) (pa_cons (pv 3) (pa_cons (pe_bltn (v := .ty "int") rfl U.z_int (by decide +kernel) rfl) pa_nil))) (pe_and (pe_not (pe_callB call_isi rfl U.z_isinstance (by decide +kernel) (pa_cons (pv 3) (pa_cons (pe_bltn (v := .ty "bool") rfl U.z_bool (by decide +kernel) rfl) pa_nil)))) (pe_one (pe_chain op_le op_le pe_int (pv 3) pe_int)))))
  (C8.pss_cut (ps_set (i := 5) sc_lr.nd rfl (Or.inl rfl) (pe_lst (pa_cons (pe_box (LamX.pe_lamcall (k := 7) (t := (fun E => tMeth CF "leaving" (spLeaving CB CF CD) [] E (tVar 1) (tCons (tVar 3) tNil))) (T := [(Pt, lamQ)]) rfl gH Hd.kp lkH codeH b_heard sc_heard rfl (Or.inl rfl) (heard_gives U T Ex) TB (hcode rfl) (List.mem_singleton.mpr rfl) (fun p hp _ => by cases List.mem_singleton.mp hp; rfl) (hr.mono (by decide)) (LamX.lamS_by (by kernel_rfl)) rfl (fun _ _ _ _ _ => rfl) (fun A2 outer2 s2 H2 E2 f2 c2 hr2 => (pe_meth (pv 1) PQ.icF.cl MLv G_leaving hr2 b_lv .nil (passes_call (takes_of rfl rfl rfl rfl) (fun _ _ _ _ h => h)) (by exact (pa_cons (pv 3) pa_nil)))))) pa_nil)))
  (C8.pss_cut (ps_expr (pe_bm PySem.F.plainAttrs_list PySem.F.slot_list_append PySem.F.type_list_append mt_append (pv 5) (pa_cons (pe_box (LamX.pe_lamcall (k := 7) (t := (fun E => tMethK CF "leaving" (["leave"] : List Str).length (spLeaving CB CF CD) (fun vs zs => vs ++ zs) E (tVar 1) (tCons (tVar 3) tNil))) (T := [(Pt, lamQ)]) rfl gH Hd.kp lkH codeH b_heard sc_heard rfl (Or.inl rfl) (heard_gives U T Ex) TB (hcode rfl) (List.mem_singleton.mpr rfl) (fun p hp _ => by cases List.mem_singleton.mp hp; rfl) (hr.mono (by decide)) (LamX.lamS_by (by kernel_rfl)) rfl (fun _ _ _ _ _ => rfl) (fun A2 outer2 s2 H2 E2 f2 c2 hr2 => (pe_methK0 (pv 1) PQ.icF.cl MLv G_leaving hr2 b_lvk (passes_call (takes_of rfl rfl rfl rfl) (fun _ _ _ _ h => h)) (by exact (pk_cons (pv 3) pk_nil)))))) pa_nil)))
  (C8.pss_cut (ps_if (pt_not (pt_val (pv 4))) (pss_one (ps_ret (pe_cmpR (op_eqD hr.units) (pv 5) (pe_op op_rep (pe_lst (pa_cons (pe_tup (pa_cons pe_str (pa_cons pe_str pa_nil))) pa_nil)) pe_int) (nomark _)))) pss_nil)
  (C8.pss_cut (ps_set (i := 6) sc_lr.nd rfl (Or.inl rfl) (pe_box (pe_make MkF G_fixed (hr.mono (by decide)) rfl gFx b_fall .nil (passes_call LamX.takes0 (fun _ _ _ _ h => h)) (by exact (pa_cons (pe_ix ix_tup (pv 2) pe_int (fun _ _ => rfl)) (pa_cons (pe_ix ix_tup (pv 2) pe_int (fun _ _ => rfl)) (pa_cons (pe_ix ix_tup (pv 2) pe_int (fun _ _ => rfl)) (pa_cons (pv 3) pa_nil))))))))
  (C8.pss_cut (ps_for PassesOwn.never rfl (pi_list (pv 5)) (pg_name (i := 7) sc_lr.nd rfl (Or.inl rfl)) (pss_one (ps_if (PW.pt (pw_or (pt_not (pt_val (pe_callB call_isi rfl U.z_isinstance (by decide +kernel) (pa_cons (pv 7) (pa_cons (pe_bltn (v := .ty "list") rfl U.z_list (by decide +kernel) rfl) pa_nil))))) (pw_or (pt_cmpR (op_neO oF iF sF PQ.tyF.gm G_eqF bF (hr.mono (by decide))) (pe_ix ix_list (pv 7) pe_int (fun _ _ => rfl)) (pv 6) (nomark _)) (pw_or1 (pt_cmpR op_ne (pe_fld (pe_ix ix_list (pv 7) pe_int (fun _ _ => rfl)) rfl) (pe_op op_add (pe_ix ix_tup (pv 2) pe_int (fun _ _ => rfl)) (pv 3)) (nomark _)))))) (pss_one (ps_ret pe_bl)) pss_nil)))
  (pss_one (ps_ret (pe_cmpR op_eq (pe_cmpR (op_eqO oF iF G_eqF bF (hr.mono (by decide))) (pv 1) (pv 6) (nomark _)) (pe_cmpR op_eq (pv 3) (pe_ix ix_tup (pv 2) pe_int (fun _ _ => rfl)) (nomark _)) (nomark _))))))))))), ?_⟩
    refine ⟨fun σ' H' => ∃ v : V, σ' = [some (.ref p), some (.ref x), some (.ref tp), some v, none, none, none, none] ∧ PenAt (n + 2) H' p q ∧ Mv p H H' ∧ Kd H' v, ?_, ?_⟩
    · refine ⟨_, rfl, _, rfl, n, p, q, 401, rfl, hp, by omega, by decide, small_log (by decide) (by decide), fun H1 i p1 m1 i0 i1 => ?_⟩
      refine ⟨_, rfl, by show 1 ≤ sizeLine; decide, fun l0 hl0 => ?_⟩
      refine ⟨_, _, rfl, rfl, ⟨by decide, by decide, by decide⟩, ?_⟩
      refine ⟨by show 11 ≤ sizeLine; decide, fun l1 hl1 => ?_⟩
      refine ⟨n + 1, p, q, l1, _, rfl, ((p1.new hl0 (o := .lst [V.int 0])).new hl1), by omega, ((p1.new hl0 (o := .lst [V.int 0])).fresh hl1).1, upd_same, by show 0 < 11; decide, by show 11 ≤ 1000; decide, fun H3 y p3 m3 hy => ?_⟩
      have mv := ((m1.trans (Mv.new hl0)).trans (Mv.new hl1)).trans m3
      refine ⟨y, rfl, p3, mv, ?_⟩
      simp only [List.mem_cons, List.not_mem_nil, or_false] at hy
      rcases hy with rfl | rfl | rfl | rfl | rfl | rfl | rfl | rfl | rfl | rfl | rfl
      all_goals first | exact True.intro | skip
      refine .inr (.inl ⟨[.int 0], m3 _ _ (p1.fresh hl0).1 ?_⟩)
      rw [upd_ne (fun e => by rw [e, upd_same] at hl1; cases hl1), upd_same]
    rintro σ' H1 ⟨v, rfl, p1, m1, kv⟩
    have hx1 := hx.mv hp m1
    have ht1 := tup_mvN ht hp m1.toN
    obtain ⟨xs0, hp0⟩ := hp.lst
    have tabs1 := tabs_mv hp0 m1 tabs
    refine ⟨fun σ' H' => σ' = [some (.ref p), some (.ref x), some (.ref tp), some v, some (.bl (numV 0 400 v)), none, none, none] ∧ H' = H1, ?_, ?_⟩
    · obtain ⟨t, ty, k1, k2⟩ := kv.isInt (K := K)
      refine ⟨_, rfl, _, _, _, _, _, rfl, .ty "int", ty, k1, _, rfl, ?_⟩
      refine ite2 (fun i1 => ?_) (fun i1 => ?_)
      · refine ⟨_, rfl, _, _, _, _, _, rfl, .ty "bool", ty, k2, _, rfl, _, rfl, ?_⟩
        refine ite2 (fun i2 => ?_) (fun i2 => ?_)
        · obtain ⟨i, rfl⟩ : ∃ i, v = V.int i := by
            cases v with
            | int i => exact ⟨i, rfl⟩
            | bl b => exact absurd i2 Bool.false_ne_true
            | _ => exact absurd i1 Bool.false_ne_true
          refine ⟨_, rfl, _, _, rfl, rfl, _, rfl, ?_⟩
          refine ite2 (fun i3 => ?_) (fun i3 => ?_)
          · refine ⟨_, _, rfl, rfl, ?_, rfl⟩
            have e : numV 0 400 (.int i) = decide (i ≤ 400) := by
              show (decide (0 ≤ i) && decide (i ≤ 400)) = _
              rw [i3, Bool.true_and]
            rw [e]
            rfl
          · have e : numV 0 400 (.int i) = false := by
              show (decide (0 ≤ i) && decide (i ≤ 400)) = _
              rw [Bool.eq_false_iff.mpr i3, Bool.false_and]
            rw [e]
            exact ⟨rfl, rfl⟩
        · have e : numV 0 400 v = false := by
            cases v with
            | int i => exact absurd rfl i2
            | _ => rfl
          rw [e]
          exact ⟨rfl, rfl⟩
      · have e : numV 0 400 v = false := by
          cases v with
          | int i => exact absurd rfl i1
          | _ => rfl
        rw [e]
        exact ⟨rfl, rfl⟩
    rintro σ' H1 ⟨rfl, rfl⟩
    have one_ : (RD.fixed z r m l).tup = [.str "fixed", .int z, .int r, .int m, .int l] := rfl
    refine ⟨fun σ' H' => ∃ h1 a1, σ' = [some (.ref p), some (.ref x), some (.ref tp), some v, some (.bl (numV 0 400 v)), some (.ref h1), none, none] ∧ PenAt (n + 2) H' p q ∧ MvN p H H' ∧ Kd H' v ∧ LamX.Tabs [(Pt, lamQ)] H' ∧ H' h1 = some (.lst [a1]) ∧ AnsL CF z r m v H' a1 ∧ h1 ≠ p ∧ h1 ≠ q ∧ (∀ b o, b ≠ p → H b = some o → (∀ ps, o ≠ .tbl ps) → b ≠ h1), ?_, ?_⟩
    · refine heard1 tabs1 rfl rfl hx1 wf kv fun H3 y e3 tabs3 ans => ?_
      refine ⟨by show 1 ≤ sizeLine; decide, fun h1 hh => ?_⟩
      have up := Same.new (o := .lst [y]) hh
      have mv3 := m1.toN.trans (ext_mvN e3)
      exact ⟨h1, y, rfl, (p1.ext e3).new hh, mv3.trans (Same.toN up), (kv.ext e3).same up, tabs3.ext up, upd_same, ans.ext (.of up), ((p1.ext e3).fresh hh).1, ((p1.ext e3).fresh hh).2, fun b o nb e t => ne_of_none (mv3 b o nb e t) hh⟩
    rintro σ' H3 ⟨h1, a1, rfl, p3, m3, kv3, tabs3, hh1, ans1, n1, n2, n3⟩
    have hx3 := hx.mvN hp m3
    refine ⟨fun σ' H' => ∃ a2, σ' = [some (.ref p), some (.ref x), some (.ref tp), some v, some (.bl (numV 0 400 v)), some (.ref h1), none, none] ∧ PenAt (n + 2) H' p q ∧ MvN p H H' ∧ Kd H' v ∧ LamX.Tabs [(Pt, lamQ)] H' ∧ H' h1 = some (.lst [a1, a2]) ∧ AnsL CF z r m v H' a1 ∧ AnsL CF z r m v H' a2, ?_, ?_⟩
    · refine ⟨_, rfl, .inl ⟨rfl, _, SqL.of hh1⟩, ?_⟩
      refine heard2 tabs3 rfl rfl hx3 wf kv3 fun H4 y e4 tabs4 ans => ?_
      have hh4 := e4 _ _ hh1 (fun _ z => nomatch z)
      refine ⟨h1, _, y, rfl, rfl, hh4, by show 1 < sizeLine; decide, ?_⟩
      have k1 := ans1.ext e4
      refine ⟨y, rfl, (p3.ext e4).put n1 n2, fun b o nb e t => ?_, (kv3.ext e4).put hh4, tabs_mv hh4 Mv.here tabs4, upd_same, k1.put hh4 k1, ans.put hh4 k1⟩
      rw [upd_ne (n3 b o nb e t)]
      exact (m3.trans (ext_mvN e4)) b o nb e t
    rintro σ' H5 ⟨a2, rfl, p5, m5, kv5, tabs5, hh5, k1, k2⟩
    have hx5 := hx.mvN hp m5
    have ht5 := tup_mvN ht hp m5
    have due := due_leave (v := v) wf
    cases e : numV 0 400 v with
    | false =>
      rw [e] at due
      have lv : ∀ {y}, AnsL CF z r m v H5 y → ∃ a, y = .ref a ∧ H5 a = some (.tup [.str "part", .str "leave"]) := fun {y} k => by
        rcases k with ⟨w', a, hw, rfl, ha⟩ | ⟨a, y', dy, k', hw, _⟩
        · rw [show dueF (.int z) (.int r) (.int m) v = some ("leave" : Str) from due] at hw
          cases hw
          exact ⟨a, rfl, ha⟩
        · rw [show dueF (.int z) (.int r) (.int m) v = some ("leave" : Str) from due] at hw
          cases hw
      obtain ⟨b1, rfl, hb1⟩ := lv k1
      obtain ⟨b2, rfl, hb2⟩ := lv k2
      refine ⟨fun _ _ => False, ?_, fun _ _ z => z.elim⟩
      refine ⟨_, rfl, _, rfl, iteT ?_⟩
      refine ⟨_, rfl, by show 2 ≤ sizeLine; decide, fun t1 ht1 => ?_⟩
      refine ⟨by show 1 ≤ sizeLine; decide, fun l1 hl1 => ?_⟩
      refine ⟨l1, 2, [.ref t1], rfl, rfl, upd_same, by decide, by decide, by show 1 * 2 ≤ 16777216; decide, fun l2 hl2 => ?_⟩
      have s1 := Same.new (o := .tup [V.str "part", .str "leave"]) ht1
      have s2 := Same.new (o := .lst [V.ref t1]) hl1
      have s3 := Same.new (o := .lst [V.ref t1, .ref t1]) hl2
      have all : Same H5 _ := (s1.trans s2).trans s3
      have sh : SeqAt.shaped (.list [.tuple [.str "part", .str "leave"], .tuple [.str "part", .str "leave"]]) = true := by decide +kernel
      have at1 := s3 _ _ (s2 _ _ (upd_same (H := H5) (a := t1) (o := .tup [V.str "part", .str "leave"])))
      have tp1 : ∀ {a : Addr}, H5 a = some (.tup [.str "part", .str "leave"]) → Dp K _ (.ref a) (.tuple [.str "part", .str "leave"]) := fun {a} h => Dp.tup (SqT.of (all _ _ h)) (.cons (.str _) (.cons (.str _) .nil))
      refine ⟨_, _, Dp.lst (SqL.of (all _ _ hh5)) (.cons (tp1 hb1) (.cons (tp1 hb2) .nil)), Dp.lst (SqL.of upd_same) (.cons (Dp.tup (SqT.of at1) (.cons (.str _) (.cons (.str _) .nil))) (.cons (Dp.tup (SqT.of at1) (.cons (.str _) (.cons (.str _) .nil))) .nil)), sh, sh, ?_⟩
      rw [SeqAt.eqv_refl _ (SeqAt.canLay_of_shaped sh)]
      exact fin _ (p5.same all) (m5.trans (Same.toN all)) (tabs5.ext all)
    | true =>
      rw [e] at due
      obtain ⟨i, rfl, i0, i1⟩ := numV_is e
      have wf2 : (RD.fixed z r m i).Wf := ⟨wf.n0, wf.n1, wf.r0, wf.r1, wf.m0, wf.m1, i0, i1⟩
      have lv : ∀ {H' y}, AnsL CF z r m (.int i) H' y → ∃ a y' dy, y = .ref a ∧ H' a = some (.lst [.ref y']) ∧ H' y' = some (.ins CF dy (RD.fixed z r m i).fs) := fun {H' y} k => by
        rcases k with ⟨w', a, hw, _⟩ | ⟨a, y', dy, k', hw, rfl, ha, hy⟩
        · rw [show dueF (.int z) (.int r) (.int m) (.int i) = none from due] at hw
          cases hw
        · exact ⟨a, y', dy, rfl, ha, hy⟩
      refine ⟨fun σ' H' => σ' = [some (.ref p), some (.ref x), some (.ref tp), some (.int i), some (.bl true), some (.ref h1), none, none] ∧ H' = H5, ?_, ?_⟩
      · exact ⟨_, rfl, _, rfl, iteF ⟨rfl, rfl⟩⟩
      rintro σ' H5 ⟨rfl, rfl⟩
      refine ⟨fun σ' H' => ∃ x2 dx2, σ' = [some (.ref p), some (.ref x), some (.ref tp), some (.int i), some (.bl true), some (.ref h1), some (.ref x2), none] ∧ Same H5 H' ∧ H' x2 = some (.ins CF dx2 (RD.fixed z r m i).fs), ?_, ?_⟩
      · refine ⟨_, rfl, tp, _, _, _, rfl, rfl, SqT.of ht5, rfl, _, rfl, tp, _, _, _, rfl, rfl, SqT.of ht5, rfl, _, rfl, tp, _, _, _, rfl, rfl, SqT.of ht5, rfl, _, rfl, fun y dy hy hdy ne => ?_⟩
        exact fixed_rule (CF := CF) (CD := CD) (Q := fun v H' => ∃ x2 dx2, List.set [some (V.ref p), some (.ref x), some (.ref tp), some (.int i), some (.bl true), some (.ref h1), none, none] 6 (some v) = [some (.ref p), some (.ref x), some (.ref tp), some (.int i), some (.bl true), some (.ref h1), some (.ref x2), none] ∧ Same H5 H' ∧ H' x2 = some (.ins CF dx2 (RD.fixed z r m i).fs)) wf2 hy hdy fun H' s ⟨dx2, at_⟩ => ⟨y, dx2, rfl, s, at_⟩
      rintro σ' H6 ⟨x2, dx2, rfl, s6, at2⟩
      refine ⟨fun σ' H' => ∃ v7, σ' = [some (.ref p), some (.ref x), some (.ref tp), some (.int i), some (.bl true), some (.ref h1), some (.ref x2), v7] ∧ Same H6 H', ?_, ?_⟩
      · refine ⟨_, rfl, h1, rfl, ⟨_, SqL.of (s6 _ _ hh5)⟩, ?_⟩
        refine for_list (K := K) (a := h1) (xs := [a1, a2]) (fun j σ' H' => ∃ v7, σ' = [some (.ref p), some (.ref x), some (.ref tp), some (.int i), some (.bl true), some (.ref h1), some (.ref x2), v7] ∧ Same H6 H') ⟨_, rfl, fun _ _ z => z⟩ ?_ ?_ ?_
        · rintro j σ' H' _ ⟨v7, rfl, s⟩
          exact SqL.of (s _ _ (s6 _ _ hh5))
        · rintro j y σ' H' hy ⟨v7, rfl, s⟩
          have kx : AnsL CF z r m (.int i) H' y := by
            match j, hy with
            | 0, hy => cases hy; exact k1.ext (.of (s6.trans s))
            | 1, hy => cases hy; exact k2.ext (.of (s6.trans s))
            | j + 2, hy => simp at hy
          obtain ⟨b, y', dy, rfl, hb, hy'⟩ := lv kx
          have hx2 := s _ _ at2
          refine ⟨_, rfl, _, _, _, _, _, rfl, .ty "list", .base (.lst hb), kit_ty (show kitB "list" "list" = some true by decide +kernel), _, rfl, iteF ?_⟩
          refine ⟨_, rfl, b, _, _, _, rfl, rfl, SqL.of hb, rfl, _, rfl, y', dy, _, _, rfl, hy', PQ.tyF.ty PQ.icF.cl hx2, nf_self, y', dy, _, _, _, rfl, hy', fs_rank (.fixed z r m i), .inl ⟨x2, dx2, _, _, rfl, hx2, fs_rank (.fixed z r m i), _, rfl, _, rfl, ?_⟩⟩
          rw [decide_eq_true rfl]
          refine iteF ?_
          refine ⟨_, rfl, b, _, _, _, rfl, rfl, SqL.of hb, rfl, y', CF, dy, _, _, rfl, hy', PQ.icF.cl, PQ.icF.nStart, fs_start (.fixed z r m i), ?_⟩
          refine ⟨_, rfl, tp, _, _, _, rfl, rfl, SqT.of (s _ _ (s6 _ _ ht5)), rfl, _, rfl, _, _, rfl, rfl, rfl, _, rfl, ?_⟩
          rw [show (!decide (V.int (RD.fixed z r m i).start = (fun i j => V.int (i + j)) (RD.fixed z r m l).num i)) = false by
            show (!decide (V.int (z + i) = V.int (z + i))) = false
            rw [decide_eq_true rfl]
            rfl]
          exact iteF ⟨_, rfl, s⟩
        · rintro σ' H' ⟨v7, rfl, s⟩
          exact ⟨v7, rfl, s⟩
      rintro σ' H7 ⟨v7, rfl, s7⟩
      have s57 := s6.trans s7
      obtain ⟨dx, at7⟩ := hx5.same s57
      have a27 := s7 _ _ at2
      refine ⟨_, rfl, _, rfl, x, dx, _, _, rfl, at7, PQ.tyF.ty PQ.icF.cl a27, nf_self, x, dx, _, _, _, rfl, at7, fs_rank (.fixed z r m l), .inl ⟨x2, dx2, _, _, rfl, a27, fs_rank (.fixed z r m i), ?_⟩⟩
      refine ⟨_, rfl, _, rfl, tp, _, _, _, rfl, rfl, SqT.of (s57 _ _ ht5), rfl, rfl, rfl, ?_⟩
      have same : decide ((RD.fixed z r m l).rank = (RD.fixed z r m i).rank) = decide (V.int i = V.int (RD.fixed z r m l).leave) := by
        show _ = decide (V.int i = V.int l)
        rw [dec_rank wf wf2 rfl]
        by_cases h : l = i
        · subst h
          rw [decide_eq_true rfl, decide_eq_true rfl]
        · rw [decide_eq_false fun z => h (RD.fixed.inj z).2.2.2, decide_eq_false fun z => h (V.int.inj z).symm]
      rw [same, decide_eq_true rfl]
      exact fin _ (p5.same s57) (m5.trans (Same.toN s57)) (tabs5.ext s57)
end
end Fz
set_option Elab.async false
set_option linter.all false
set_option maxRecDepth 100000
set_option maxHeartbeats 2000000
namespace Fz
open PySem PySem.Spec PyProof.Rows L2
/-- one step of a reading -/
local macro_rules | `(tactic| walk_at "st") => `(tactic| first
  | refine ⟨_, rfl, ?_⟩
  | refine Or.inl ⟨_, rfl, ?_⟩
  | refine Or.inr ⟨_, rfl, ?_⟩
  | refine ⟨_, _, _, _, rfl, rfl, SqL.of (by first | assumption | exact upd_same), rfl, ?_⟩
  | refine ⟨_, _, _, _, rfl, rfl, (by first | assumption | exact upd_same), rfl, ?_⟩
  | refine ⟨_, _, rfl, .inl ⟨_, SqL.of (by first | assumption | exact upd_same), rfl⟩, ?_⟩
  | refine ⟨_, _, rfl, rfl, (show (0 : Int) < _ by first | decide | omega), ?_⟩
  | refine ⟨_, _, rfl, rfl, (show (0 : Int) < _ ∧ _ < _ by first | exact ⟨by decide, by decide⟩ | omega), ?_⟩
  | refine ⟨_, _, rfl, rfl, (show (_ < _ ∧ _ < _) ∨ (_ < _ ∧ _ < _) by first | exact .inl ⟨by decide, by decide⟩ | omega), ?_⟩
  | refine ⟨_, _, rfl, rfl, (show (0 : Int) ≤ _ ∧ _ ≤ _ ∧ _ < _ by first | exact ⟨by decide, by decide, by decide⟩ | exact ⟨by decide, by decide, by omega⟩), ?_⟩
  | refine ⟨_, _, rfl, rfl, ?_⟩)

abbrev s_law : Stmt := topS 33
theorem sc_law : FnScope ["_law_script", "_law_pen_here", "_law_turn", "_law_parts_here", "_law_rule_here", "_law_again", "_law_odd", "_law_beside_so", "_law_other", "_law_told", "_law_one"] ["_law_script"] (defScope s_law) := ⟨rfl, rfl, rfl, by decide +kernel, rfl, by decide +kernel, by decide +kernel⟩
def spLaw (K : PySem.W.Frag) (Pt : Addr) : Sp := fun vs H Q _ => ∃ (a : Addr) (ns : List Int), vs = [.ref a] ∧ SqL K H a (ns.map V.int) ∧ ns.length ≤ 63 ∧ H Pt = some (.tbl #[]) ∧ ∀ H', Q (.bl true) H'
theorem made_text {CF CD x : Addr} {H : Hp} {Q : VK} {d : RD} {σ : L2.St} {i : Nat} (v : σ[i]? = some (some (.ref x))) (hx : RuleAt CF CD H x d) (wf : d.Wf) (fin : Q (.str d.text) H) :
    Box (tCB (fun vs H Q => rStrO CF (spStrF CF CD) vs H Q ∨ rStrO CD (spStrD CF CD) vs H Q) (tCons (tVar i) tNil)) σ H Q := by
  obtain ⟨dx, ax⟩ := hx
  cases d with
  | fixed s r m l => exact ⟨_, v, .inl ⟨x, dx, _, rfl, ax, x, s, r, m, l, rfl, ⟨dx, ax⟩, wf, _, rfl, fin⟩⟩
  | down t r m => exact ⟨_, v, .inr ⟨x, dx, _, rfl, ax, x, t, r, m, rfl, ⟨dx, ax⟩, wf, _, rfl, fin⟩⟩
section
variable {P : Program} {w : World} {K : PySem.W.Frag} {mg : Str → Option Value} {base : Heap} {CF CD CRl CB fB : Addr}
theorem ok_law {f fPn fPa fRu fNe fLr fPk fD fEqF fEqD fStF fStD Pt : Addr} {fd fdPn fdPa fdRu fdNe fdLr fdPk fdD fdEqF fdEqD fdStF fdStD : FuncData} (F : Fun K "law" "law" s_law f fd) (U : Blt mg) (T : PrgB K mg CRl CB fB) (PQ : PrgQ K CF CD) (kF : PySem.W.kitOne K (.ref CF) (.ref CRl) = some true) (kD : PySem.W.kitOne K (.ref CD) (.ref CRl) = some true)
    (Pn : Fun K "_law_pen" "_law_pen" s_pen fPn fdPn) (gPen : mg "_law_pen" = some (.ref fPn)) (b_pen : L2.Binds K fdPn ["_law_script"] [])
    (D : Fun K "_law_draw" "_law_draw" s_draw fD fdD) (gD : mg "_law_draw" = some (.ref fD)) (b_draw : L2.Binds K fdD ["_law_pen_here", "_law_many"] [])
    (Pk : Fun K "_law_pick" "_law_pick" s_pick fPk fdPk) (gP : mg "_law_pick" = some (.ref fPk)) (b_pick : L2.Binds K fdPk ["_law_pen_here", "_law_some"] [])
    (Pa : Fun K "_law_parts" "_law_parts" s_parts fPa fdPa) (gPa : mg "_law_parts" = some (.ref fPa)) (b_parts : L2.Binds K fdPa ["_law_pen_here", "_law_most"] [])
    (Ru : Fun K "_law_rule" "_law_rule" s_rule fRu fdRu) (gRu : mg "_law_rule" = some (.ref fRu)) (b_rule : L2.Binds K fdRu ["_law_parts_here"] []) (G_rule : FnOk P w K mg base CX0 7 fRu fdRu ["_law_parts_here"] (spRule CF CD))
    (Ne : Fun K "_law_near" "_law_near" s_near fNe fdNe) (gNe : mg "_law_near" = some (.ref fNe)) (b_near : L2.Binds K fdNe ["_law_pen_here", "_law_parts_here"] [])
    (Lr : Fun K "_law_leaving_right" "_law_leaving_right" s_lr fLr fdLr) (gLr : mg "_law_leaving_right" = some (.ref fLr)) (b_lr : L2.Binds K fdLr ["_law_pen_here", "_law_rule_here", "_law_parts_here"] []) (G_lr : FnG P w K mg base CX0 10 fLr fdLr ["_law_pen_here", "_law_rule_here", "_law_parts_here"] (spLR CF CD Pt))
    (oF : PySem.W.findIn K (.ref CF) "__eq__" = some (some (.ref fEqF))) (iF : PySem.W.isFn K (.ref fEqF) = true) (sF : PySem.W.findIn K (.ref CF) "__ne__" = some (some (.builtin "object.__ne__"))) (G_eqF : FnOk P w K mg base CX0 1 fEqF fdEqF ["self", "other"] (spEqR K CF)) (bF : L2.Binds K fdEqF ["self", "other"] [])
    (oD : PySem.W.findIn K (.ref CD) "__eq__" = some (some (.ref fEqD))) (iD : PySem.W.isFn K (.ref fEqD) = true) (sD : PySem.W.findIn K (.ref CD) "__ne__" = some (some (.builtin "object.__ne__"))) (G_eqD : FnOk P w K mg base CX0 1 fEqD fdEqD ["self", "other"] (spEqR K CD)) (bD : L2.Binds K fdEqD ["self", "other"] [])
    (stF : PySem.W.findIn K (.ref CF) "__str__" = some (some (.ref fStF))) (isF : PySem.W.isFn K (.ref fStF) = true) (G_strF : FnOk P w K mg base CX0 2 fStF fdStF ["self"] (spStrF CF CD)) (b_strF : L2.Binds K fdStF ["self"] [])
    (stD : PySem.W.findIn K (.ref CD) "__str__" = some (some (.ref fStD))) (isD : PySem.W.isFn K (.ref fStD) = true) (G_strD : FnOk P w K mg base CX0 2 fStD fdStD ["self"] (spStrD CF CD)) (b_strD : L2.Binds K fdStD ["self"] []) : FnG P w K mg base CX0 12 f fd ["_law_script"] (spLaw K Pt) := by
  have G_pen : FnOk P w K mg base CX0 1 fPn fdPn ["_law_script"] (spPen K) := ok_pen Pn U
  have G_pick : FnOk P w K mg base CX0 2 fPk fdPk ["_law_pen_here", "_law_some"] (spPick K) := ok_pick Pk U D gD b_draw
  have G_parts : FnOk P w K mg base CX0 3 fPa fdPa ["_law_pen_here", "_law_most"] spParts := ok_parts Pa U D gD b_draw Pk gP b_pick
  have G_near : FnOk P w K mg base CX0 4 fNe fdNe ["_law_pen_here", "_law_parts_here"] spNear := ok_near Ne U D gD b_draw Pk gP b_pick Pa gPa b_parts
  refine funG F sc_law (fun vs H Q E h => ?_) (fun cdv A outer s H vs Q E _ hr hg h => ?_)
  · obtain ⟨a, ns, rfl, _⟩ := h
    rfl
  · obtain ⟨a, ns, rfl, hs, few, htab, fin⟩ := h
    refine ⟨_, (pss_cons (ps_set (i := 1) sc_law.nd rfl (Or.inl rfl) (pe_call G_pen (hr.mono (by decide)) rfl gPen Pn.kp b_pen .nil pass0 (by exact (pa_cons (pv 0) pa_nil))))
  (C8.pss_cut (ps_for PassesOwn.never rfl (pi_range1 rfl U.z_range (by exact (pa_cons pe_int pa_nil))) (pg_name (i := 2) sc_law.nd rfl (Or.inl rfl)) (pss_cons (ps_set (i := 3) sc_law.nd rfl (Or.inl rfl) (pe_call G_parts (hr.mono (by decide)) rfl gPa Pa.kp b_parts .nil pass0 (by exact (pa_cons (pv 1) (pa_cons (pe_call G_pick (hr.mono (by decide)) rfl gP Pk.kp b_pick .nil pass0 (by exact (pa_cons (pv 1) (pa_cons (pe_lst (pa_cons pe_int (pa_cons pe_int (pa_cons pe_int pa_nil)))) pa_nil)))) pa_nil)))))
  (pss_cons (ps_set (i := 4) sc_law.nd rfl (Or.inr rfl) (pe_call G_rule (hr.mono (by decide)) rfl gRu Ru.kp b_rule .nil pass0 (by exact (pa_cons (pv 3) pa_nil))))
  (C8.pss_cut (ps_for PassesOwn.never rfl (pi_range1 rfl U.z_range (by exact (pa_cons pe_int pa_nil))) (pg_name (i := 5) sc_law.nd rfl (Or.inl rfl)) (pss_cons (ps_set (i := 7) sc_law.nd rfl (Or.inl rfl) (pe_call G_near (hr.mono (by decide)) rfl gNe Ne.kp b_near .nil pass0 (by exact (pa_cons (pv 1) (pa_cons (pv 3) pa_nil)))))
  (pss_cons (ps_set (i := 8) sc_law.nd rfl (Or.inl rfl) (pe_call G_rule (hr.mono (by decide)) rfl gRu Ru.kp b_rule .nil pass0 (by exact (pa_cons (pv 7) pa_nil))))
  (pss_cons (ps_set (i := 9) sc_law.nd rfl (Or.inl rfl) (pe_lst (pa_cons (pe_cmpR (show OpR _ (compareOp .Eq) (rEither (rEqO K CF (spEqR K CF)) (rEqO K CD (spEqR K CD))) from op_eqR oF iF G_eqF bF oD iD G_eqD bD (hr.mono (by decide))) (pv 4) (pv 8) (nomark _)) (pa_cons (pe_cmpR (show OpR _ (compareOp .Eq) (rEither (rEqO K CF (spEqR K CF)) (rEqO K CD (spEqR K CD))) from op_eqR oF iF G_eqF bF oD iD G_eqD bD (hr.mono (by decide))) (pv 8) (pv 4) (nomark _)) (pa_cons (pe_cmpR (op_neR oF iF sF PQ.tyF.gm G_eqF bF oD iD sD PQ.tyD.gm G_eqD bD (hr.mono (by decide))) (pv 4) (pv 8) (nomark _)) pa_nil)))))
  (pss_one (ps_if (pt_cmpR op_ne (pe_callB (call_repD hg hr.units) rfl U.z_repr (by decide +kernel) (pa_cons (pv 9) pa_nil)) (pe_callB (call_repD hg hr.units) rfl U.z_repr (by decide +kernel) (pa_cons (pe_lst (pa_cons (pe_cmpR (op_eqD hr.units) (pv 3) (pv 7) (nomark _)) (pa_cons (pe_cmpR (op_eqD hr.units) (pv 3) (pv 7) (nomark _)) (pa_cons (pe_cmpR (op_neD hr.units) (pv 3) (pv 7) (nomark _)) pa_nil)))) pa_nil)) (nomark _)) (pss_one (ps_ret pe_bl)) pss_nil))))))
  (C8.pss_cut (ps_if (PW.pt (pw_and (pt_cmpR op_eq (pe_ix ix_tup (pv 3) pe_int (fun _ _ => rfl)) pe_str (nomark _)) (pw_and1 (pt_not (pt_val (pe_callG G_lr (hr.mono (by decide)) hg rfl gLr Lr.kp b_lr .nil pass0 (by exact (pa_cons (pv 1) (pa_cons (pv 4) (pa_cons (pv 3) pa_nil)))))))))) (pss_one (ps_ret pe_bl)) pss_nil)
  (C8.pss_cut (ps_set (i := 6) sc_law.nd rfl (Or.inl rfl) (pe_lst (pa_cons pe_non (pa_cons (pv 3) (pa_cons (pe_callTy call_list_of rfl U.z_list (by decide +kernel) (pa_cons (pv 3) pa_nil)) (pa_cons (pe_box (pe_callTy ((call_strO stF isF G_strF b_strF (hr.mono (by decide))).or (call_strO stD isD G_strD b_strD (hr.mono (by decide)))) rfl U.z_str (by decide +kernel) (pa_cons (pv 4) pa_nil))) (pa_cons pe_int (pa_cons pe_bl (pa_cons pe_dnewK (pa_cons (pe_lst (pa_cons (pv 4) pa_nil)) (pa_cons (pe_tup (pa_cons (pv 4) pa_nil)) pa_nil)))))))))))
  (pss_one (ps_if (PW.pt (pw_or (pt_cmpR (op_neD hr.units) (pe_lc (own := [("_law_one", 10)]) rfl sc_law.nd (pi_list (pv 6)) (blkOk_by (by kernel_rfl)) (fun s_ H_ C_ cl_ fp_ => (pg_name (i := 10) sc_law.nd rfl (Or.inl rfl))) (fun s_ H_ C_ cl_ fp_ => (pts_one (pt_cmpR (show OpR _ (compareOp .Eq) (rEither (rEqO K CF (spEqR K CF)) (rEqO K CD (spEqR K CD))) from op_eqR oF iF G_eqF bF oD iD G_eqD bD (hr.mono (by decide))) (pv 4) (pv 10) (nomark _)))) (fun s_ H_ C_ cl_ fp_ => (pv 10))) (pe_lst pa_nil) (nomark _)) (pw_or (pt_cmpR (op_neR oF iF sF PQ.tyF.gm G_eqF bF oD iD sD PQ.tyD.gm G_eqD bD (hr.mono (by decide))) (pv 4) (pe_call G_rule (hr.mono (by decide)) rfl gRu Ru.kp b_rule .nil pass0 (by exact (pa_cons (pv 3) pa_nil))) (nomark _)) (pw_or1 (pt_not (pt_val (pe_callB call_isi rfl U.z_isinstance (by decide +kernel) (pa_cons (pv 4) (pa_cons (pe_glob (v := .ref _) rfl T.g_Rule rfl) pa_nil))))))))) (pss_one (ps_ret pe_bl)) pss_nil))))))))
  (pss_one (ps_ret pe_bl)))), ?_⟩
    refine ⟨_, rfl, a, ns, rfl, hs, few, fun H0 p q hp0 hq0 pen0 same0 => ?_⟩
    have tabs0 : LamX.Tabs [(Pt, lamQ)] H0 := fun b hb => by
      cases List.mem_singleton.mp hb
      exact LamX.TabS.nil (same0 _ _ htab)
    refine ⟨fun _ _ => True, ?_, fun σ' H' _ => fin H'⟩
    refine ⟨10, rfl, by decide, by decide, for_range (lo := 0) (n := 10) (fun i σ H' => ∃ v2 v3 v4 v5 v6 v7 v8 v9 v10 : Option V, σ = [some (.ref a), some (.ref p), v2, v3, v4, v5, v6, v7, v8, v9, v10] ∧ PenAt (60 * i) H' p q ∧ LamX.Tabs [(Pt, lamQ)] H')
      ⟨_, _, _, _, _, _, _, _, _, rfl, pen0, tabs0⟩ ?_ (fun _ _ _ => True.intro)⟩
    rintro i σ H1 hi ⟨v2, v3, v4, v5, v6, v7, v8, v9, v10, rfl, pen1, tabs1⟩
    refine ⟨_, rfl, _, rfl, by show 3 ≤ sizeLine; decide, fun l0 hl0 => ?_⟩
    refine ⟨60 * i, p, q, l0, _, rfl, pen1.new hl0, by omega, (pen1.fresh hl0).1, upd_same, by show 0 < 3; decide, by show 3 ≤ 1000; decide, fun H2 y p2 m2 hy => ?_⟩
    have m12 := (Mv.new hl0).trans m2
    obtain ⟨most, rfl, o0, o1⟩ : ∃ most, y = .int most ∧ 3 ≤ most ∧ most ≤ 399 := by
      simp only [List.mem_cons, List.not_mem_nil, or_false] at hy
      rcases hy with rfl | rfl | rfl <;> exact ⟨_, rfl, by decide, by decide⟩
    refine ⟨60 * i + 1, p, q, most, rfl, p2, by omega, by omega, by omega, fun H3 tp d pen3 mv3 un3 at3 wf hF hD => ?_⟩
    refine ⟨_, rfl, tp, d, rfl, at3, wf, fun H4 x s4 unx rx => ?_⟩
    obtain ⟨xs1, hpl⟩ := pen1.lst
    have tabs4 := (tabs_mv hpl (m12.trans mv3) tabs1).ext s4
    have pen4 := pen3.same s4
    have at4 := s4 _ _ at3
    have num399 : d.num ≤ 399 := by
      cases h : d.isF with
      | true =>
        have z := (hF h).1
        omega
      | false =>
        have z := hD h
        omega
    have leave399 : d.leave ≤ 399 := by
      cases h : d.isF with
      | true =>
        have z := (hF h).2
        rw [if_neg (by omega)] at z
        omega
      | false =>
        cases d with
        | fixed _ _ _ _ => cases h
        | down _ _ _ =>
          show (0 : Int) ≤ 399
          decide
    refine ⟨fun σ' H' => ∃ v5 v6 v7 v8 v9 v10, σ' = [some (.ref a), some (.ref p), some (.int (0 + i)), some (.ref tp), some (.ref x), v5, v6, v7, v8, v9, v10] ∧ PenAt (60 * i + 50) H' p q ∧ Mv p H4 H', ?_, ?_⟩
    · refine ⟨5, rfl, by decide, by decide, for_range (lo := 0) (n := 5) (fun j σ' H' => ∃ v5 v6 v7 v8 v9 v10, σ' = [some (.ref a), some (.ref p), some (.int (0 + i)), some (.ref tp), some (.ref x), v5, v6, v7, v8, v9, v10] ∧ PenAt (60 * i + 8 + 8 * j) H' p q ∧ Mv p H4 H')
        ⟨_, _, _, _, _, _, rfl, pen4.more (by omega), Mv.refl _ _⟩ ?_ ?_⟩
      · rintro j σ' H5 hj ⟨v5, v6, v7, v8, v9, v10, rfl, pen5, mv5⟩
        have at5 := tup_mvN at4 pen4 mv5.toN
        have rx5 := rx.mv pen4 mv5
        refine ⟨_, rfl, _, rfl, 60 * i + 8 + 8 * j, p, q, tp, d, rfl, pen5, by omega, at5, wf, num399, leave399, fun H6 tb d' pen6 mv6 at6 wf6 => ?_⟩
        refine ⟨_, rfl, tb, d', rfl, at6, wf6, fun H7 y s7 uny ry => ?_⟩
        have rx7 := (rx5.mv pen5 mv6).same s7
        have atx := s7 _ _ (tup_mvN at5 pen5 mv6.toN)
        have atb := s7 _ _ at6
        refine ⟨_, rfl, _, rfl, eq_rules PQ rx7 ry wf wf6 ?_⟩
        refine ⟨_, rfl, _, rfl, eq_rules PQ ry rx7 wf6 wf ?_⟩
        refine ⟨_, rfl, _, rfl, ne_rules PQ rx7 ry wf wf6 ?_⟩
        have sym : decide (d' = d) = decide (d = d') := by
          by_cases z : d = d'
          · rw [z]
          · rw [decide_eq_false z, decide_eq_false fun e => z e.symm]
        rw [sym]
        obtain ⟨c, hc⟩ : ∃ c, c = decide (d = d') := ⟨_, rfl⟩
        refine ⟨by show 3 ≤ sizeLine; decide, fun l1 hl1 => ?_⟩
        refine ⟨_, rfl, ?_⟩
        show rRepD K [.ref l1] (upd H7 l1 (.lst [V.bl (decide (d = d')), .bl (decide (d = d')), .bl (!decide (d = d'))])) _
        refine rep_bools (bs := [decide (d = d'), decide (d = d'), !decide (d = d')]) upd_same (by show 3 ≤ 1000; decide) ?_
        have u1 := Same.new (o := .lst [V.bl (decide (d = d')), .bl (decide (d = d')), .bl (!decide (d = d'))]) hl1
        refine ⟨_, rfl, _, rfl, d.dat, d'.dat, dp_rd (u1 _ _ atx), dp_rd (u1 _ _ atb), shaped_rd d, shaped_rd d', ?_⟩
        refine ⟨_, rfl, _, rfl, d.dat, d'.dat, dp_rd (u1 _ _ atx), dp_rd (u1 _ _ atb), shaped_rd d, shaped_rd d', ?_⟩
        refine ⟨_, rfl, _, rfl, d.dat, d'.dat, dp_rd (u1 _ _ atx), dp_rd (u1 _ _ atb), shaped_rd d, shaped_rd d', ?_⟩
        rw [eqv_rd]
        refine ⟨by show 3 ≤ sizeLine; decide, fun l2 hl2 => ?_⟩
        show rRepD K [.ref l2] (upd _ l2 (.lst [V.bl (decide (d = d')), .bl (decide (d = d')), .bl (!decide (d = d'))])) _
        refine rep_bools (bs := [decide (d = d'), decide (d = d'), !decide (d = d')]) upd_same (by show 3 ≤ 1000; decide) ?_
        have u2 := Same.new (o := .lst [V.bl (decide (d = d')), .bl (decide (d = d')), .bl (!decide (d = d'))]) hl2
        refine ⟨rfl, _, rfl, ?_⟩
        rw [decide_eq_true rfl]
        refine iteF ?_
        have s79 := s7.trans (u1.trans u2)
        exact ⟨_, _, _, _, _, _, rfl, (pen6.same s79).more (by omega), (mv5.trans mv6).trans (Same.mv s79 p)⟩
      · rintro σ' H' ⟨v5, v6, v7, v8, v9, v10, rfl, pen', mv'⟩
        exact ⟨_, _, _, _, _, _, rfl, pen'.more (by omega), mv'⟩
    rintro σ' H5 ⟨v5, v6, v7, v8, v9, v10, rfl, pen5, mv5⟩
    have at5 := tup_mvN at4 pen4 mv5.toN
    have rx5 := rx.mv pen4 mv5
    obtain ⟨xs4, hp4⟩ := pen4.lst
    have tabs5 := tabs_mv hp4 mv5 tabs4
    refine ⟨fun σ' H' => σ' = [some (.ref a), some (.ref p), some (.int (0 + i)), some (.ref tp), some (.ref x), v5, v6, v7, v8, v9, v10] ∧ PenAt (60 * i + 52) H' p q ∧ MvN p H5 H' ∧ LamX.Tabs [(Pt, lamQ)] H', ?_, ?_⟩
    · cases d with
      | fixed z r m l =>
        refine ⟨_, rfl, tp, _, _, _, rfl, rfl, SqT.of at5, rfl, rfl, _, rfl, ?_⟩
        rw [show decide (V.str (RD.fixed z r m l).kind = V.str "fixed") = true from isFixed_fixed]
        refine iteT ⟨_, rfl, _, rfl, _, rfl, 60 * i + 50, p, q, x, tp, z, r, m, l, rfl, pen5, by omega, rx5, wf, at5, tabs5, fun H6 pen6 mv6 tabs6 => ?_⟩
        exact ⟨_, rfl, iteF ⟨rfl, pen6, mv6, tabs6⟩⟩
      | down t r m =>
        refine ⟨_, rfl, tp, _, _, _, rfl, rfl, SqT.of at5, rfl, rfl, _, rfl, ?_⟩
        rw [show decide (V.str (RD.down t r m).kind = V.str "fixed") = false from isFixed_down]
        exact iteF (iteF ⟨rfl, pen5.more (by omega), MvN.refl _ _, tabs5⟩)
    rintro σ' H6 ⟨rfl, pen6, mv6, tabs6⟩
    have at6 := tup_mvN at5 pen5 mv6
    have rx6 := rx5.mvN pen5 mv6
    refine ⟨fun σ' H' => ∃ (o : Addr) (xs : List V), σ' = [some (.ref a), some (.ref p), some (.int (0 + i)), some (.ref tp), some (.ref x), v5, some (.ref o), v7, v8, v9, v10] ∧ Same H6 H' ∧ H' o = some (.lst xs) ∧ xs.length = 9 ∧ ∀ v ∈ xs, Kd H' v, ?_, ?_⟩
    · refine ⟨_, rfl, _, rfl, _, _, rfl, .inr (SqT.of at6), fun l1 hl1 => ?_⟩
      have u1 := Same.new (o := .lst d.tup) hl1
      refine made_text rfl (rx6.same u1) wf ?_
      refine fun l2 hl2 => ?_
      have u2 := Same.new (o := .dK []) hl2
      refine ⟨_, rfl, by show 1 ≤ sizeLine; decide, fun l3 hl3 => ?_⟩
      have u3 := Same.new (o := .lst [V.ref x]) hl3
      refine ⟨_, rfl, by show 1 ≤ sizeLine; decide, fun l4 hl4 => ?_⟩
      have u4 := Same.new (o := .tup [V.ref x]) hl4
      refine ⟨by show 9 ≤ sizeLine; decide, fun o ho => ?_⟩
      have u5 := Same.new (o := .lst [V.non, .ref tp, .ref l1, .str d.text, .int 1, .bl true, .ref l2, .ref l3, .ref l4]) ho
      have b1 := u5 _ _ (u4 _ _ (u3 _ _ (u2 _ _ (upd_same (H := H6) (a := l1) (o := .lst d.tup)))))
      have b2 := u5 _ _ (u4 _ _ (u3 _ _ (upd_same (H := upd H6 l1 (.lst d.tup)) (a := l2) (o := .dK []))))
      have b3 := u5 _ _ (u4 _ _ (upd_same (H := upd (upd H6 l1 (.lst d.tup)) l2 (.dK [])) (a := l3) (o := .lst [V.ref x])))
      have b4 := u5 _ _ (upd_same (H := upd (upd (upd H6 l1 (.lst d.tup)) l2 (.dK [])) l3 (.lst [V.ref x])) (a := l4) (o := .tup [V.ref x]))
      have all : Same H6 _ := (((u1.trans u2).trans u3).trans u4).trans u5
      refine ⟨o, _, rfl, all, upd_same, rfl, fun v hv => ?_⟩
      simp only [List.mem_cons, List.not_mem_nil, or_false] at hv
      rcases hv with rfl | rfl | rfl | rfl | rfl | rfl | rfl | rfl | rfl
      · exact True.intro
      · exact .inl ⟨_, all _ _ at6⟩
      · exact .inr (.inl ⟨_, b1⟩)
      · exact True.intro
      · exact True.intro
      · exact True.intro
      · exact .inr (.inr ⟨_, b2⟩)
      · exact .inr (.inl ⟨_, b3⟩)
      · exact .inl ⟨_, b4⟩
    rintro σ' H7 ⟨o, xs, rfl, s7, ho, len, kds⟩
    have rx7 := rx6.same s7
    have at7 := s7 _ _ at6
    refine ⟨_, rfl, o, rfl, ⟨_, SqL.of ho⟩, fun D hD => ?_⟩
    refine lc_list (K := K) (a := o) (xs := xs) (fun i H' => Same (upd H7 D (.lst [])) H') (fun _ _ z => z) (fun i H' _ q => SqL.of (q o _ (by rw [upd_ne (ne_of_none ho hD)]; exact ho))) (fun i v H' hi sq => ?_) (fun H' sq => ?_)
    · have kv := kds v (List.mem_of_getElem? hi)
      have s : Same H7 H' := (Same.new hD).trans sq
      refine ⟨rfl, _, rfl, _, rfl, eq_other PQ (rx7.same s) (OtherV.same kv s) ⟨_, rfl, iteF sq⟩⟩
    · have s : Same H7 H' := (Same.new hD).trans sq
      refine ⟨Nat.zero_le _, fun l5 hl5 => ?_⟩
      have u := Same.new (o := .lst []) hl5
      refine ⟨_, _, Dp.lst (SqL.of (u _ _ (sq D _ upd_same))) .nil, Dp.lst (SqL.of upd_same) .nil, shaped_ints [], shaped_ints [], _, rfl, iteF ?_⟩
      have s8 := s.trans u
      refine ⟨_, rfl, _, rfl, tp, d, rfl, s8 _ _ at7, wf, fun H9 y s9 uny ry => ?_⟩
      refine ne_rules PQ ((rx7.same s8).same s9) ry wf wf ⟨_, rfl, ?_⟩
      rw [decide_eq_true rfl]
      refine iteF ?_
      have all := s8.trans s9
      have end_ : ∃ w2 w3 w4 w5 w6 w7 w8 w9 w10 : Option V, [some (V.ref a), some (.ref p), some (.int (0 + i)), some (.ref tp), some (.ref x), v5, some (.ref o), v7, v8, v9, v10] = [some (.ref a), some (.ref p), w2, w3, w4, w5, w6, w7, w8, w9, w10] ∧ PenAt (60 * (i + 1)) H9 p q ∧ LamX.Tabs [(Pt, lamQ)] H9 :=
        ⟨_, _, _, _, _, _, _, _, _, rfl, ((pen6.same s7).same all).more (by omega), (tabs6.ext s7).ext all⟩
      obtain ⟨dx, ax⟩ := (rx7.same all)
      cases d with
      | fixed z r m l => exact ⟨_, rfl, _, _, _, _, _, rfl, .own CRl, PQ.tyF.ty PQ.icF.cl ax, kF, _, rfl, iteF end_⟩
      | down t r m => exact ⟨_, rfl, _, _, _, _, _, rfl, .own CRl, PQ.tyD.ty PQ.icD.cl ax, kD, _, rfl, iteF end_⟩
end
end Fz
set_option Elab.async false
set_option linter.all false
set_option maxRecDepth 100000
set_option maxHeartbeats 2000000
namespace Fz
open PySem PySem.Spec PyProof.Rows L2
/-- one step of a reading -/
local macro_rules | `(tactic| walk_at "st") => `(tactic| first
  | refine ⟨_, rfl, ?_⟩
  | refine Or.inl ⟨_, rfl, ?_⟩
  | refine Or.inr ⟨_, rfl, ?_⟩
  | refine ⟨_, _, _, _, rfl, rfl, SqL.of (by first | assumption | exact upd_same), rfl, ?_⟩
  | refine ⟨_, _, _, _, rfl, rfl, (by first | assumption | exact upd_same), rfl, ?_⟩
  | refine ⟨_, _, rfl, .inl ⟨_, SqL.of (by first | assumption | exact upd_same), rfl⟩, ?_⟩
  | refine ⟨_, _, rfl, rfl, (show (0 : Int) < _ by first | decide | omega), ?_⟩
  | refine ⟨_, _, rfl, rfl, (show (0 : Int) < _ ∧ _ < _ by first | exact ⟨by decide, by decide⟩ | omega), ?_⟩
  | refine ⟨_, _, rfl, rfl, (show (_ < _ ∧ _ < _) ∨ (_ < _ ∧ _ < _) by first | exact .inl ⟨by decide, by decide⟩ | omega), ?_⟩
  | refine ⟨_, _, rfl, rfl, (show (0 : Int) ≤ _ ∧ _ ≤ _ ∧ _ < _ by first | exact ⟨by decide, by decide, by decide⟩ | exact ⟨by decide, by decide, by omega⟩), ?_⟩
  | refine ⟨_, _, rfl, rfl, ?_⟩)

theorem all_mk {l : PySem.W.OpenLaw} {w : World} {K : PySem.W.Frag} {h : Heap} {mg mb : Str → Option Value} {fa : Addr} {qp : Program} {lo : List Str} {mean : ExcName → Option Value} {d : DefRec} (X : K.In h) (Tp : Top qp lo mean mg mb h) (hfa : mg "law" = some (.ref fa)) (hr : (recsOf qp).find? (fun e : DefRec => e.name == ("_law_leaving_right" : Str)) = some d)
    {c Pt : Addr}
    {CRl : Addr}
    {CRs : Addr}
    {CF : Addr}
    {CD : Addr}
    {CSz : Addr}
    {CB : Addr}
    {CX : Addr}
    {fN : Addr}
    {odN anN : Option Addr} {slN : Array (Option Value)} {ocN kVN dcN pmN cdN ctN : Value}
    {fRK : Addr}
    {odRK anRK : Option Addr} {slRK : Array (Option Value)} {ocRK kVRK dcRK pmRK cdRK ctRK : Value}
    {fB : Addr}
    {odB anB : Option Addr} {slB : Array (Option Value)} {ocB kVB dcB pmB cdB ctB : Value}
    {fRs : Addr}
    {odRs anRs : Option Addr} {slRs : Array (Option Value)} {ocRs kVRs dcRs pmRs cdRs ctRs : Value}
    {fSz : Addr}
    {odSz anSz : Option Addr} {slSz : Array (Option Value)} {ocSz kVSz dcSz pmSz cdSz ctSz : Value}
    {fFx : Addr}
    {odFx anFx : Option Addr} {slFx : Array (Option Value)} {ocFx kVFx dcFx pmFx cdFx ctFx : Value}
    {fDn : Addr}
    {odDn anDn : Option Addr} {slDn : Array (Option Value)} {ocDn kVDn dcDn pmDn cdDn ctDn : Value}
    {TdFx : Addr} {ocdFx : Value} {oddFx : Option Addr} {ndFx : Nat} {sldFx : Array (Option Value)} {tdFx0 tdFx1 tdFx2 : Tok}
    {TdDn : Addr} {ocdDn : Value} {oddDn : Option Addr} {ndDn : Nat} {sldDn : Array (Option Value)} {tdDn0 tdDn1 : Tok}
    {t_CRl_MOST : Tok}
    {t_CRl_MOST_MODULUS : Tok}
    {nmCB q_CB : Str} {N_CB : Addr} {bsCB bmCB : List Value} {snCB : List Str} {subCB : List Value} {abCB : Bool} {colCB : Option Bool} {ddCB : Option Addr} {m0CB m1CB m2CB m3CB m5CB : Option Value}
    {fEF : Addr}
    {odEF anEF : Option Addr} {slEF : Array (Option Value)} {ocEF kVEF dcEF pmEF cdEF ctEF : Value}
    {fED : Addr}
    {odED anED : Option Addr} {slED : Array (Option Value)} {ocED kVED dcED pmED cdED ctED : Value}
    {fRT : Addr}
    {odRT anRT : Option Addr} {slRT : Array (Option Value)} {ocRT kVRT dcRT pmRT cdRT ctRT : Value}
    {fLT : Addr}
    {odLT anLT : Option Addr} {slLT : Array (Option Value)} {ocLT kVLT dcLT pmLT cdLT ctLT : Value}
    {fSF : Addr}
    {odSF anSF : Option Addr} {slSF : Array (Option Value)} {ocSF kVSF dcSF pmSF cdSF ctSF : Value}
    {fSD : Addr}
    {odSD anSD : Option Addr} {slSD : Array (Option Value)} {ocSD kVSD dcSD pmSD cdSD ctSD : Value}
    {fPn : Addr}
    {odPn anPn : Option Addr} {slPn : Array (Option Value)} {ocPn kVPn dcPn pmPn cdPn ctPn : Value}
    {fD : Addr}
    {odD anD : Option Addr} {slD : Array (Option Value)} {ocD kVD dcD pmD cdD ctD : Value}
    {fPk : Addr}
    {odPk anPk : Option Addr} {slPk : Array (Option Value)} {ocPk kVPk dcPk pmPk cdPk ctPk : Value}
    {fPa : Addr}
    {odPa anPa : Option Addr} {slPa : Array (Option Value)} {ocPa kVPa dcPa pmPa cdPa ctPa : Value}
    {fRu : Addr}
    {odRu anRu : Option Addr} {slRu : Array (Option Value)} {ocRu kVRu dcRu pmRu cdRu ctRu : Value}
    {fNe : Addr}
    {odNe anNe : Option Addr} {slNe : Array (Option Value)} {ocNe kVNe dcNe pmNe cdNe ctNe : Value}
    {fHd : Addr}
    {odHd anHd : Option Addr} {slHd : Array (Option Value)} {ocHd kVHd dcHd pmHd cdHd ctHd : Value}
    {fLr : Addr}
    {odLr anLr : Option Addr} {slLr : Array (Option Value)} {ocLr kVLr dcLr pmLr  ctLr : Value}
    {fLv : Addr}
    {odLv anLv : Option Addr} {slLv : Array (Option Value)} {ocLv kVLv dcLv pmLv cdLv ctLv : Value}
    {fL : Addr}
    {odL anL : Option Addr} {slL : Array (Option Value)} {ocL kVL dcL pmL cdL ctL : Value}
    {occ : Value} {odcc : Option Addr} {vsc : Array Value} {slcc : Array (Option Value)}
    (gRl : PySem.W.nsIn K mainGlobals "Rule" = some (some (.ref CRl)))
    (gRs : PySem.W.nsIn K mainGlobals "Rested" = some (some (.ref CRs)))
    (gF : PySem.W.nsIn K mainGlobals "Fixed" = some (some (.ref CF)))
    (gDn : PySem.W.nsIn K mainGlobals "Down" = some (some (.ref CD)))
    (gSz : PySem.W.nsIn K mainGlobals "Sized" = some (some (.ref CSz)))
    (gB : PySem.W.nsIn K mainGlobals "BadRule" = some (some (.ref CB)))
    (gX : PySem.W.nsIn K mainGlobals "FreeError" = some (some (.ref CX)))
    (aN : PySem.W.nsIn K mainGlobals "is_number" = some (some (.ref fN)))
    (lN : K.lookup fN = some ⟨ocN, odN, .func (PySem.W.fnOf "is_number" "is_number" (defArgs s_is_number) (defBody s_is_number) (defScope s_is_number) .none kVN dcN pmN anN cdN ctN), slN⟩)
    (cN : PySem.W.codeIn K cdN "is_number" = true)
    (kN : PySem.W.keepIn K (.ref fN) = true)
    (aRK : PySem.W.nsIn K mainGlobals "rank_of" = some (some (.ref fRK)))
    (lRK : K.lookup fRK = some ⟨ocRK, odRK, .func (PySem.W.fnOf "rank_of" "rank_of" (defArgs s_rank_of) (defBody s_rank_of) (defScope s_rank_of) .none kVRK dcRK pmRK anRK cdRK ctRK), slRK⟩)
    (cRK : PySem.W.codeIn K cdRK "rank_of" = true)
    (kRK : PySem.W.keepIn K (.ref fRK) = true)
    (aB : PySem.W.findIn K (.ref CB) "__init__" = some (some (.ref fB)))
    (lB : K.lookup fB = some ⟨ocB, odB, .func (PySem.W.fnOf "__init__" "BadRule.__init__" (defArgs s_badI) (defBody s_badI) (defScope s_badI) .none kVB dcB pmB anB cdB ctB), slB⟩)
    (cB : PySem.W.codeIn K cdB "BadRule.__init__" = true)
    (kB : PySem.W.keepIn K (.ref fB) = true)
    (aRs : PySem.W.findCls K (.ref CRs) (.type "type") "__init__" = some (.val (.ref fRs)))
    (lRs : K.lookup fRs = some ⟨ocRs, odRs, .func (PySem.W.fnOf "__init__" "Rested.__init__" (defArgs s_rested) (defBody s_rested) (defScope s_rested) .none kVRs dcRs pmRs anRs cdRs ctRs), slRs⟩)
    (cRs : PySem.W.codeIn K cdRs "Rested.__init__" = true)
    (kRs : PySem.W.keepIn K (.ref fRs) = true)
    (aSz : PySem.W.findCls K (.ref CSz) (.type "type") "__init__" = some (.val (.ref fSz)))
    (lSz : K.lookup fSz = some ⟨ocSz, odSz, .func (PySem.W.fnOf "__init__" "Sized.__init__" (defArgs s_sized) (defBody s_sized) (defScope s_sized) .none kVSz dcSz pmSz anSz cdSz ctSz), slSz⟩)
    (cSz : PySem.W.codeIn K cdSz "Sized.__init__" = true)
    (kSz : PySem.W.keepIn K (.ref fSz) = true)
    (aFx : PySem.W.findIn K (.ref CF) "__init__" = some (some (.ref fFx)))
    (lFx : K.lookup fFx = some ⟨ocFx, odFx, .func (PySem.W.fnOf "__init__" "Fixed.__init__" (defArgs s_fixed) (defBody s_fixed) (defScope s_fixed) (.ref TdFx) kVFx dcFx pmFx anFx cdFx ctFx), slFx⟩)
    (cFx : PySem.W.codeIn K cdFx "Fixed.__init__" = true)
    (kFx : PySem.W.keepIn K (.ref fFx) = true)
    (aDn : PySem.W.findIn K (.ref CD) "__init__" = some (some (.ref fDn)))
    (lDn : K.lookup fDn = some ⟨ocDn, odDn, .func (PySem.W.fnOf "__init__" "Down.__init__" (defArgs s_down) (defBody s_down) (defScope s_down) (.ref TdDn) kVDn dcDn pmDn anDn cdDn ctDn), slDn⟩)
    (cDn : PySem.W.codeIn K cdDn "Down.__init__" = true)
    (kDn : PySem.W.keepIn K (.ref fDn) = true)
    (ldFx : K.lookup TdFx = some ⟨ocdFx, oddFx, .seq ([.int 0 tdFx0, .int 1 tdFx1, .int 0 tdFx2] : List Value).toArray ndFx, sldFx⟩)
    (ldDn : K.lookup TdDn = some ⟨ocdDn, oddDn, .seq ([.int 0 tdDn0, .int 1 tdDn1] : List Value).toArray ndDn, sldDn⟩)
    (rdCRl : PySem.W.readsIn K CRl (.type "type") = true)
    (gaCRl : PySem.W.specialIn K (.ref CRl) "__getattribute__" = some (some (.builtin "type.__getattribute__")))
    (rdCRs : PySem.W.readsIn K CRs (.type "type") = true)
    (gaCRs : PySem.W.specialIn K (.ref CRs) "__getattribute__" = some (some (.builtin "type.__getattribute__")))
    (rdCSz : PySem.W.readsIn K CSz (.type "type") = true)
    (gaCSz : PySem.W.specialIn K (.ref CSz) "__getattribute__" = some (some (.builtin "type.__getattribute__")))
    (pgCF : PySem.W.plainGet K CF Str.empty = true)
    (hdCF : PySem.W.hasDictIn K CF = true)
    (poCF : PySem.W.plainOver K CF = true)
    (saCF : PySem.W.findIn K (.ref CF) "__setattr__" = some (some (.builtin "object.__setattr__")))
    (ntoCF : PySem.W.findIn K (.ref CF) "to" = some none)
    (nsizeCF : PySem.W.findIn K (.ref CF) "size" = some none)
    (nleaveCF : PySem.W.findIn K (.ref CF) "leave" = some none)
    (nrestCF : PySem.W.findIn K (.ref CF) "rest" = some none)
    (nmodulusCF : PySem.W.findIn K (.ref CF) "modulus" = some none)
    (nstartCF : PySem.W.findIn K (.ref CF) "start" = some none)
    (nrankCF : PySem.W.findIn K (.ref CF) "rank" = some none)
    (pgCD : PySem.W.plainGet K CD Str.empty = true)
    (hdCD : PySem.W.hasDictIn K CD = true)
    (poCD : PySem.W.plainOver K CD = true)
    (saCD : PySem.W.findIn K (.ref CD) "__setattr__" = some (some (.builtin "object.__setattr__")))
    (ntoCD : PySem.W.findIn K (.ref CD) "to" = some none)
    (nsizeCD : PySem.W.findIn K (.ref CD) "size" = some none)
    (nleaveCD : PySem.W.findIn K (.ref CD) "leave" = some none)
    (nrestCD : PySem.W.findIn K (.ref CD) "rest" = some none)
    (nmodulusCD : PySem.W.findIn K (.ref CD) "modulus" = some none)
    (nstartCD : PySem.W.findIn K (.ref CD) "start" = some none)
    (nrankCD : PySem.W.findIn K (.ref CD) "rank" = some none)
    (haCF : PySem.W.findIn K (.ref CF) "__class__" = some (some (.builtin "object.__class__")))
    (hn : PySem.W.specialIn K (.builtin "object.__class__") "__get__" = some (some (.builtin "getset_descriptor.__get__")))
    (htk : PySem.W.takesIn K (.builtin "object.__class__") = some true)
    (hmCF : PySem.W.mroIn K CF (.type "object") = some true)
    (haCD : PySem.W.findIn K (.ref CD) "__class__" = some (some (.builtin "object.__class__")))
    (hmCD : PySem.W.mroIn K CD (.type "object") = some true)
    (mkCF : PySem.W.makesIn K CF = true)
    (kpCF : PySem.W.keepIn K (.ref CF) = true)
    (iFFx : PySem.W.isFn K (.ref fFx) = true)
    (mkCD : PySem.W.makesIn K CD = true)
    (kpCD : PySem.W.keepIn K (.ref CD) = true)
    (iFDn : PySem.W.isFn K (.ref fDn) = true)
    (m_CRl_MOST : PySem.W.findCls K (.ref CRl) (.type "type") "MOST" = some (.val (.int 400 t_CRl_MOST)))
    (m_CRl_MOST_MODULUS : PySem.W.findCls K (.ref CRl) (.type "type") "MOST_MODULUS" = some (.val (.int 6 t_CRl_MOST_MODULUS)))
    (xBCB : K.lookup CB = some (excClassObj nmCB q_CB CB N_CB bsCB bmCB true snCB subCB abCB colCB ddCB m0CB m1CB m2CB m3CB m5CB "ValueError.__new__"))
    (rBCB : PySem.HandSPX.refsVE bmCB = true)
    (saCB : PySem.W.findIn K (.ref CB) "__setattr__" = some (some (.builtin "object.__setattr__")))
    (exCB : PySem.W.subIn K (.ref CB) (.type "BaseException") = some true)
    (tyCB : PySem.W.typeIn K (.ref CB) = some (.type "type"))
    (kpCB : PySem.W.keepIn K (.ref CB) = true)
    (npCB : PySem.W.findIn K (.ref CB) "part" = some none)
    (tfCB : PySem.W.typeIn K (.ref fB) = some (.type "function"))
    (gaCB : PySem.W.findIn K (.ref CB) "__getattribute__" = some (some (.builtin "BaseException.__getattribute__")))
    (ggCB : PySem.W.findIn K (.ref CB) "__getattr__" = some none)
    (hdCB : PySem.W.hasDictIn K CB = true)
    (haCB : PySem.W.findIn K (.ref CB) "__class__" = some (some (.builtin "object.__class__")))
    (hmCB : PySem.W.mroIn K CB (.type "object") = some true)
    (exCX : PySem.W.subIn K (.ref CX) (.type "BaseException") = some true)
    (hdCX : PySem.W.hasDictIn K CX = true)
    (tyCX : PySem.W.typeIn K (.ref CX) = some (.type "type"))
    (s_CB_CX : PySem.W.subIn K (.ref CB) (.ref CX) = some true)
    (kt_CB_CB : PySem.W.kitOne K (.ref CB) (.ref CB) = some true)
    (z_int : PySem.W.nsIn K mainGlobals "int" = some none)
    (z_len : PySem.W.nsIn K mainGlobals "len" = some none)
    (z_abs : PySem.W.nsIn K mainGlobals "abs" = some none)
    (z_list : PySem.W.nsIn K mainGlobals "list" = some none)
    (z_range : PySem.W.nsIn K mainGlobals "range" = some none)
    (z_isinstance : PySem.W.nsIn K mainGlobals "isinstance" = some none)
    (z_repr : PySem.W.nsIn K mainGlobals "repr" = some none)
    (z_bool : PySem.W.nsIn K mainGlobals "bool" = some none)
    (z_tuple : PySem.W.nsIn K mainGlobals "tuple" = some none)
    (z_str : PySem.W.nsIn K mainGlobals "str" = some none)
    (z_max : PySem.W.nsIn K mainGlobals "max" = some none)
    (z_min : PySem.W.nsIn K mainGlobals "min" = some none)
    (z_dict : PySem.W.nsIn K mainGlobals "dict" = some none)
    (z_set : PySem.W.nsIn K mainGlobals "set" = some none)
    (z_sorted : PySem.W.nsIn K mainGlobals "sorted" = some none)
    (z_sum : PySem.W.nsIn K mainGlobals "sum" = some none)
    (z_all : PySem.W.nsIn K mainGlobals "all" = some none)
    (z_any : PySem.W.nsIn K mainGlobals "any" = some none)
    (z_zip : PySem.W.nsIn K mainGlobals "zip" = some none)
    (z_enumerate : PySem.W.nsIn K mainGlobals "enumerate" = some none)
    (z_reversed : PySem.W.nsIn K mainGlobals "reversed" = some none)
    (aEF : PySem.W.findIn K (.ref CF) "__eq__" = some (some (.ref fEF)))
    (lEF : K.lookup fEF = some ⟨ocEF, odEF, .func (PySem.W.fnOf "__eq__" "Fixed.__eq__" (defArgs s_eqF) (defBody s_eqF) (defScope s_eqF) .none kVEF dcEF pmEF anEF cdEF ctEF), slEF⟩)
    (cEF : PySem.W.codeIn K cdEF "Fixed.__eq__" = true)
    (kEF : PySem.W.keepIn K (.ref fEF) = true)
    (aED : PySem.W.findIn K (.ref CD) "__eq__" = some (some (.ref fED)))
    (lED : K.lookup fED = some ⟨ocED, odED, .func (PySem.W.fnOf "__eq__" "Down.__eq__" (defArgs s_eqD) (defBody s_eqD) (defScope s_eqD) .none kVED dcED pmED anED cdED ctED), slED⟩)
    (cED : PySem.W.codeIn K cdED "Down.__eq__" = true)
    (kED : PySem.W.keepIn K (.ref fED) = true)
    (iFEF : PySem.W.isFn K (.ref fEF) = true)
    (neCF : PySem.W.findIn K (.ref CF) "__ne__" = some (some (.builtin "object.__ne__")))
    (tyCF : PySem.W.typeIn K (.ref CF) = some (.type "type"))
    (iFED : PySem.W.isFn K (.ref fED) = true)
    (neCD : PySem.W.findIn K (.ref CD) "__ne__" = some (some (.builtin "object.__ne__")))
    (tyCD : PySem.W.typeIn K (.ref CD) = some (.type "type"))
    (nFD : PySem.W.notFirst K CF (.ref CD) = true)
    (nDF : PySem.W.notFirst K CD (.ref CF) = true)
    (kt_CF_CF : PySem.W.kitOne K (.ref CF) (.ref CF) = some true)
    (kt_CF_CD : PySem.W.kitOne K (.ref CF) (.ref CD) = some false)
    (kt_CD_CF : PySem.W.kitOne K (.ref CD) (.ref CF) = some false)
    (kt_CD_CD : PySem.W.kitOne K (.ref CD) (.ref CD) = some true)
    (aRT : PySem.W.nsIn K mainGlobals "rest_text" = some (some (.ref fRT)))
    (lRT : K.lookup fRT = some ⟨ocRT, odRT, .func (PySem.W.fnOf "rest_text" "rest_text" (defArgs s_restT) (defBody s_restT) (defScope s_restT) .none kVRT dcRT pmRT anRT cdRT ctRT), slRT⟩)
    (cRT : PySem.W.codeIn K cdRT "rest_text" = true)
    (kRT : PySem.W.keepIn K (.ref fRT) = true)
    (aLT : PySem.W.nsIn K mainGlobals "leave_text" = some (some (.ref fLT)))
    (lLT : K.lookup fLT = some ⟨ocLT, odLT, .func (PySem.W.fnOf "leave_text" "leave_text" (defArgs s_leaveT) (defBody s_leaveT) (defScope s_leaveT) .none kVLT dcLT pmLT anLT cdLT ctLT), slLT⟩)
    (cLT : PySem.W.codeIn K cdLT "leave_text" = true)
    (kLT : PySem.W.keepIn K (.ref fLT) = true)
    (aSF : PySem.W.findIn K (.ref CF) "__str__" = some (some (.ref fSF)))
    (lSF : K.lookup fSF = some ⟨ocSF, odSF, .func (PySem.W.fnOf "__str__" "Fixed.__str__" (defArgs s_strF) (defBody s_strF) (defScope s_strF) .none kVSF dcSF pmSF anSF cdSF ctSF), slSF⟩)
    (cSF : PySem.W.codeIn K cdSF "Fixed.__str__" = true)
    (kSF : PySem.W.keepIn K (.ref fSF) = true)
    (aSD : PySem.W.findIn K (.ref CD) "__str__" = some (some (.ref fSD)))
    (lSD : K.lookup fSD = some ⟨ocSD, odSD, .func (PySem.W.fnOf "__str__" "Down.__str__" (defArgs s_strD) (defBody s_strD) (defScope s_strD) .none kVSD dcSD pmSD anSD cdSD ctSD), slSD⟩)
    (cSD : PySem.W.codeIn K cdSD "Down.__str__" = true)
    (kSD : PySem.W.keepIn K (.ref fSD) = true)
    (iFSF : PySem.W.isFn K (.ref fSF) = true)
    (iFSD : PySem.W.isFn K (.ref fSD) = true)
    (aPn : PySem.W.nsIn K mainGlobals "_law_pen" = some (some (.ref fPn)))
    (lPn : K.lookup fPn = some ⟨ocPn, odPn, .func (PySem.W.fnOf "_law_pen" "_law_pen" (defArgs s_pen) (defBody s_pen) (defScope s_pen) .none kVPn dcPn pmPn anPn cdPn ctPn), slPn⟩)
    (cPn : PySem.W.codeIn K cdPn "_law_pen" = true)
    (kPn : PySem.W.keepIn K (.ref fPn) = true)
    (aD : PySem.W.nsIn K mainGlobals "_law_draw" = some (some (.ref fD)))
    (lD : K.lookup fD = some ⟨ocD, odD, .func (PySem.W.fnOf "_law_draw" "_law_draw" (defArgs s_draw) (defBody s_draw) (defScope s_draw) .none kVD dcD pmD anD cdD ctD), slD⟩)
    (cD : PySem.W.codeIn K cdD "_law_draw" = true)
    (kD : PySem.W.keepIn K (.ref fD) = true)
    (aPk : PySem.W.nsIn K mainGlobals "_law_pick" = some (some (.ref fPk)))
    (lPk : K.lookup fPk = some ⟨ocPk, odPk, .func (PySem.W.fnOf "_law_pick" "_law_pick" (defArgs s_pick) (defBody s_pick) (defScope s_pick) .none kVPk dcPk pmPk anPk cdPk ctPk), slPk⟩)
    (cPk : PySem.W.codeIn K cdPk "_law_pick" = true)
    (kPk : PySem.W.keepIn K (.ref fPk) = true)
    (aPa : PySem.W.nsIn K mainGlobals "_law_parts" = some (some (.ref fPa)))
    (lPa : K.lookup fPa = some ⟨ocPa, odPa, .func (PySem.W.fnOf "_law_parts" "_law_parts" (defArgs s_parts) (defBody s_parts) (defScope s_parts) .none kVPa dcPa pmPa anPa cdPa ctPa), slPa⟩)
    (cPa : PySem.W.codeIn K cdPa "_law_parts" = true)
    (kPa : PySem.W.keepIn K (.ref fPa) = true)
    (aRu : PySem.W.nsIn K mainGlobals "_law_rule" = some (some (.ref fRu)))
    (lRu : K.lookup fRu = some ⟨ocRu, odRu, .func (PySem.W.fnOf "_law_rule" "_law_rule" (defArgs s_rule) (defBody s_rule) (defScope s_rule) .none kVRu dcRu pmRu anRu cdRu ctRu), slRu⟩)
    (cRu : PySem.W.codeIn K cdRu "_law_rule" = true)
    (kRu : PySem.W.keepIn K (.ref fRu) = true)
    (aNe : PySem.W.nsIn K mainGlobals "_law_near" = some (some (.ref fNe)))
    (lNe : K.lookup fNe = some ⟨ocNe, odNe, .func (PySem.W.fnOf "_law_near" "_law_near" (defArgs s_near) (defBody s_near) (defScope s_near) .none kVNe dcNe pmNe anNe cdNe ctNe), slNe⟩)
    (cNe : PySem.W.codeIn K cdNe "_law_near" = true)
    (kNe : PySem.W.keepIn K (.ref fNe) = true)
    (aHd : PySem.W.nsIn K mainGlobals "_law_heard" = some (some (.ref fHd)))
    (lHd : K.lookup fHd = some ⟨ocHd, odHd, .func (PySem.W.fnOf "_law_heard" "_law_heard" (defArgs s_heard) (defBody s_heard) (defScope s_heard) .none kVHd dcHd pmHd anHd cdHd ctHd), slHd⟩)
    (cHd : PySem.W.codeIn K cdHd "_law_heard" = true)
    (kHd : PySem.W.keepIn K (.ref fHd) = true)
    (aLr : PySem.W.nsIn K mainGlobals "_law_leaving_right" = some (some (.ref fLr)))
    (lLr : K.lookup fLr = some ⟨ocLr, odLr, .func (PySem.W.fnOf "_law_leaving_right" "_law_leaving_right" (defArgs s_lr) (defBody s_lr) (defScope s_lr) .none kVLr dcLr pmLr anLr (.ref c) ctLr), slLr⟩)
    (cLr : PySem.W.codeIn K (.ref c) "_law_leaving_right" = true)
    (kLr : PySem.W.keepIn K (.ref fLr) = true)
    (aLv : PySem.W.findIn K (.ref CF) "leaving" = some (some (.ref fLv)))
    (lLv : K.lookup fLv = some ⟨ocLv, odLv, .func (PySem.W.fnOf "leaving" "Fixed.leaving" (defArgs s_leaving) (defBody s_leaving) (defScope s_leaving) .none kVLv dcLv pmLv anLv cdLv ctLv), slLv⟩)
    (cLv : PySem.W.codeIn K cdLv "Fixed.leaving" = true)
    (kLv : PySem.W.keepIn K (.ref fLv) = true)
    (iFLv : PySem.W.isFn K (.ref fLv) = true)
    (aL : PySem.W.nsIn K mainGlobals "law" = some (some (.ref fL)))
    (lL : K.lookup fL = some ⟨ocL, odL, .func (PySem.W.fnOf "law" "law" (defArgs s_law) (defBody s_law) (defScope s_law) .none kVL dcL pmL anL cdL ctL), slL⟩)
    (cL : PySem.W.codeIn K cdL "law" = true)
    (kL : PySem.W.keepIn K (.ref fL) = true)
    (lc : K.lookup c = some ⟨occ, odcc, .fields vsc, slcc⟩)
    (vP : vsc[11]? = some (Value.ref Pt))
    (lt : K.lookup Pt = none)
    (kt_CF_CRl : PySem.W.kitOne K (.ref CF) (.ref CRl) = some true)
    (kt_CD_CRl : PySem.W.kitOne K (.ref CD) (.ref CRl) = some true) : LawEnd l w K 12 63 "_law_script" mg fa h := by
  have G := Tp.g
  have e := hfa.symm.trans (PySem.W.mg_of X G aL)
  cases e
  have FN := fun_mk (st := s_is_number) lN cN kN
  have bN := FN.binds (ps := ["value", "least", "most"]) fun _ _ _ _ _ _ us hl => match us, hl with | [_, _, _], _ => rfl
  have FRK := fun_mk (st := s_rank_of) lRK cRK kRK
  have bRK := FRK.binds (ps := ["kind", "number", "modulus", "rest", "leave"]) fun _ _ _ _ _ _ us hl => match us, hl with | [_, _, _, _, _], _ => rfl
  have FB := fun_mk (st := s_badI) lB cB kB
  have bB := FB.binds (ps := ["self", "part"]) fun _ _ _ _ _ _ us hl => match us, hl with | [_, _], _ => rfl
  have FRs := fun_mk (st := s_rested) lRs cRs kRs
  have bRs := FRs.binds (ps := ["self", "rest", "modulus"]) fun _ _ _ _ _ _ us hl => match us, hl with | [_, _, _], _ => rfl
  have FSz := fun_mk (st := s_sized) lSz cSz kSz
  have bSz := FSz.binds (ps := ["self", "size", "leave"]) fun _ _ _ _ _ _ us hl => match us, hl with | [_, _, _], _ => rfl
  have FEF := fun_mk (st := s_eqF) lEF cEF kEF
  have bEF := FEF.binds (ps := ["self", "other"]) fun _ _ _ _ _ _ us hl => match us, hl with | [_, _], _ => rfl
  have FED := fun_mk (st := s_eqD) lED cED kED
  have bED := FED.binds (ps := ["self", "other"]) fun _ _ _ _ _ _ us hl => match us, hl with | [_, _], _ => rfl
  have FRT := fun_mk (st := s_restT) lRT cRT kRT
  have bRT := FRT.binds (ps := ["rule"]) fun _ _ _ _ _ _ us hl => match us, hl with | [_], _ => rfl
  have FLT := fun_mk (st := s_leaveT) lLT cLT kLT
  have bLT := FLT.binds (ps := ["rule"]) fun _ _ _ _ _ _ us hl => match us, hl with | [_], _ => rfl
  have FSF := fun_mk (st := s_strF) lSF cSF kSF
  have bSF := FSF.binds (ps := ["self"]) fun _ _ _ _ _ _ us hl => match us, hl with | [_], _ => rfl
  have FSD := fun_mk (st := s_strD) lSD cSD kSD
  have bSD := FSD.binds (ps := ["self"]) fun _ _ _ _ _ _ us hl => match us, hl with | [_], _ => rfl
  have FPn := fun_mk (st := s_pen) lPn cPn kPn
  have bPn := FPn.binds (ps := ["_law_script"]) fun _ _ _ _ _ _ us hl => match us, hl with | [_], _ => rfl
  have FD := fun_mk (st := s_draw) lD cD kD
  have bD := FD.binds (ps := ["_law_pen_here", "_law_many"]) fun _ _ _ _ _ _ us hl => match us, hl with | [_, _], _ => rfl
  have FPk := fun_mk (st := s_pick) lPk cPk kPk
  have bPk := FPk.binds (ps := ["_law_pen_here", "_law_some"]) fun _ _ _ _ _ _ us hl => match us, hl with | [_, _], _ => rfl
  have FPa := fun_mk (st := s_parts) lPa cPa kPa
  have bPa := FPa.binds (ps := ["_law_pen_here", "_law_most"]) fun _ _ _ _ _ _ us hl => match us, hl with | [_, _], _ => rfl
  have FRu := fun_mk (st := s_rule) lRu cRu kRu
  have bRu := FRu.binds (ps := ["_law_parts_here"]) fun _ _ _ _ _ _ us hl => match us, hl with | [_], _ => rfl
  have FNe := fun_mk (st := s_near) lNe cNe kNe
  have bNe := FNe.binds (ps := ["_law_pen_here", "_law_parts_here"]) fun _ _ _ _ _ _ us hl => match us, hl with | [_, _], _ => rfl
  have FHd := fun_mk (st := s_heard) lHd cHd kHd
  have bHd := FHd.binds (ps := ["_law_ask"]) fun _ _ _ _ _ _ us hl => match us, hl with | [_], _ => rfl
  have FLr := fun_mk (st := s_lr) lLr cLr kLr
  have bLr := FLr.binds (ps := ["_law_pen_here", "_law_rule_here", "_law_parts_here"]) fun _ _ _ _ _ _ us hl => match us, hl with | [_, _, _], _ => rfl
  have FLv := fun_mk (st := s_leaving) lLv cLv kLv
  have bLv := FLv.binds (ps := ["self", "leave"]) fun _ _ _ _ _ _ us hl => match us, hl with | [_, _], _ => rfl
  have FL := fun_mk (st := s_law) lL cL kL
  have Fx : FunFixed K fFx _ := ⟨⟨_, _, _, _, _, _, _, _, _, _, rfl, lFx, cFx, .inr ⟨by simp, TdFx, _, [.int 0 tdFx0, .int 1 tdFx1, .int 0 tdFx2], ndFx, rfl, ldFx, rfl, (.cons ⟨tdFx0, rfl⟩ (.cons ⟨tdFx1, rfl⟩ (.cons ⟨tdFx2, rfl⟩ .nil)))⟩, .inl rfl⟩, kFx⟩
  have Dn : FunDown K fDn _ := ⟨⟨_, _, _, _, _, _, _, _, _, _, rfl, lDn, cDn, .inr ⟨by simp, TdDn, _, [.int 0 tdDn0, .int 1 tdDn1], ndDn, rfl, ldDn, rfl, (.cons ⟨tdDn0, rfl⟩ (.cons ⟨tdDn1, rfl⟩ .nil))⟩, .inl rfl⟩, kDn⟩
  have U : Blt mg := ⟨PySem.W.mg_none_of X G z_int, PySem.W.mg_none_of X G z_len, PySem.W.mg_none_of X G z_abs, PySem.W.mg_none_of X G z_list, PySem.W.mg_none_of X G z_range, PySem.W.mg_none_of X G z_isinstance, PySem.W.mg_none_of X G z_repr, PySem.W.mg_none_of X G z_bool, PySem.W.mg_none_of X G z_tuple, PySem.W.mg_none_of X G z_str, PySem.W.mg_none_of X G z_max, PySem.W.mg_none_of X G z_min, PySem.W.mg_none_of X G z_dict, PySem.W.mg_none_of X G z_set, PySem.W.mg_none_of X G z_sorted, PySem.W.mg_none_of X G z_sum, PySem.W.mg_none_of X G z_all, PySem.W.mg_none_of X G z_any, PySem.W.mg_none_of X G z_zip, PySem.W.mg_none_of X G z_enumerate, PySem.W.mg_none_of X G z_reversed⟩
  have T : PrgB K mg CRl CB fB := { g_Rule := (PySem.W.mg_of X G gRl), g_BadRule := (PySem.W.mg_of X G gB), rdRl := ⟨rdCRl, gaCRl⟩, most := ⟨_, m_CRl_MOST, ⟨t_CRl_MOST, rfl⟩⟩, mostM := ⟨_, m_CRl_MOST_MODULUS, ⟨t_CRl_MOST_MODULUS, rfl⟩⟩, oB := ⟨⟨_, _, _, _, _, _, _, _, _, _, _, _, _, _, _, xBCB, rBCB⟩, saCB, exCB, tyCB, kpCB⟩, nPart := npCB, iB := aB, tB := tfCB }
  have IF : InsC K CF := ⟨⟨pgCF, hdCF, poCF, saCF⟩, ntoCF, nsizeCF, nleaveCF, nrestCF, nmodulusCF, nstartCF, nrankCF⟩
  have ID : InsC K CD := ⟨⟨pgCD, hdCD, poCD, saCD⟩, ntoCD, nsizeCD, nleaveCD, nrestCD, nmodulusCD, nstartCD, nrankCD⟩
  have Ex : PrgE K mg CB CX := { g_FreeError := (PySem.W.mg_of X G gX), hit := (PySem.W.exm_ref exCX hdCX tyCX s_CB_CX), exc := ⟨gaCB, ggCB, exCB, hdCB, haCB, hn, htk, hmCB⟩, xf := ⟨gaCB, ggCB, exCB, hdCB⟩, same := kt_CB_CB }
  have MkF : Mk K CF fFx := ⟨mkCF, aFx, iFFx, kpCF⟩
  have MkD : Mk K CD fDn := ⟨mkCD, aDn, iFDn, kpCD⟩
  have BRs : BaseC K CRs fRs := ⟨⟨rdCRs, gaCRs⟩, aRs⟩
  have BSz : BaseC K CSz fSz := ⟨⟨rdCSz, gaCSz⟩, aSz⟩
  have PQ : PrgQ K CF CD := { icF := IF, icD := ID, tyF := ⟨haCF, hn, htk, hmCF⟩, tyD := ⟨haCD, hn, htk, hmCD⟩, nFD := nFD, nDF := nDF, kFF := kt_CF_CF, kFD := kt_CF_CD, kDF := kt_CD_CF, kDD := kt_CD_CD, tF := tyCF, tD := tyCD }
  have ht : PySem.W.tabIn K "_law_leaving_right" = some (c, Pt) := by
    unfold PySem.W.tabIn
    rw [show PySem.W.nsIn K mainGlobals "_law_leaving_right" = some (some (.ref fLr)) from aLr]
    simp only [lLr, PySem.W.fnOf, lc, vP]
  obtain ⟨code, tab⟩ := PySem.W.tab_of Tp X hr ht
  refine ⟨PySem.W.fnOf "law" "law" (defArgs s_law) (defBody s_law) (defScope s_law) .none kVL dcL pmL anL cdL ctL, [(c, Pt)], spLaw K Pt, fun q hq => ?_, fun s u => .of_eq rfl, fun H a ns few _ tabs sq => ⟨a, ns, rfl, sq, few, tabs (c, Pt) (List.mem_singleton.mpr rfl), fun _ => rfl⟩, fun base KX _ tb => ?_⟩
  · cases List.mem_singleton.mp hq
    exact ⟨tab, lt, code⟩
  · have code2 : (PySem.W.fnOf "_law_leaving_right" "_law_leaving_right" (defArgs s_lr) (defBody s_lr) (defScope s_lr) .none kVLr dcLr pmLr anLr (.ref c) ctLr).code = .ref c := PySem.W.law_code X G ht (PySem.W.mg_of X G aLr) (X _ _ lLr) rfl
    have tb2 := tb (c, Pt) (List.mem_singleton.mpr rfl)
    have G_fixed : FnOk l.prog w K mg base (L2.CX l.prog w) 5 fFx _ pFx (spFixed CB CF) := ok_fixed Fx U T IF FN (PySem.W.mg_of X G aN) bN FB bB FRs bRs (PySem.W.mg_of X G gRs) BRs FRK (PySem.W.mg_of X G aRK) bRK FSz bSz (PySem.W.mg_of X G gSz) BSz
    have G_down : FnOk l.prog w K mg base (L2.CX l.prog w) 5 fDn _ ["self", "to", "rest", "modulus"] (spDown CB CD) := ok_down Dn U T ID FN (PySem.W.mg_of X G aN) bN FB bB FRs bRs (PySem.W.mg_of X G gRs) BRs FRK (PySem.W.mg_of X G aRK) bRK
    have G_eqF : FnOk l.prog w K mg base CX0 1 fEF _ ["self", "other"] (spEqR K CF) := ok_eqF FEF U (PySem.W.mg_of X G gF) IF PQ.tyF PQ.kFF
    have G_eqD : FnOk l.prog w K mg base CX0 1 fED _ ["self", "other"] (spEqR K CD) := ok_eqD FED U (PySem.W.mg_of X G gDn) ID PQ.tyD PQ.kDD
    have G_strF : FnOk l.prog w K mg base CX0 2 fSF _ ["self"] (spStrF CF CD) := ok_strF FSF IF FRT (PySem.W.mg_of X G aRT) bRT FLT (PySem.W.mg_of X G aLT) bLT
    have G_strD : FnOk l.prog w K mg base CX0 2 fSD _ ["self"] (spStrD CF CD) := ok_strD FSD ID FRT (PySem.W.mg_of X G aRT) bRT
    have G_rule : FnOk l.prog w K mg base CX0 7 fRu _ ["_law_parts_here"] (spRule CF CD) := ok_rule FRu Dn G_down MkD (PySem.W.mg_of X G gDn) Fx G_fixed MkF (PySem.W.mg_of X G gF)
    have G_leaving : FnOk l.prog w K mg base (L2.CX l.prog w) 7 fLv _ ["self", "leave"] (spLeaving CB CF CD) := ok_leaving FLv IF Fx G_fixed MkF (PySem.W.mg_of X G gF)
    have b_lvk : KBn K (PySem.W.fnOf "leaving" "Fixed.leaving" (defArgs s_leaving) (defBody s_leaving) (defScope s_leaving) .none kVLv dcLv pmLv anLv cdLv ctLv) ["self", "leave"] 1 ["leave"] (fun us ws => us ++ ws) (fun vs zs => vs ++ zs) := ⟨fun s us ws _ l1 l2 => match us, l1, ws, l2 with | [_], _, [_], _ => .of_eq rfl, fun r1 r2 => r1.append r2⟩
    have G_lr : FnG l.prog w K mg base CX0 10 fLr _ ["_law_pen_here", "_law_rule_here", "_law_parts_here"] (spLR CF CD Pt) := ok_lr FLr code2 tb2 U T Ex PQ FD (PySem.W.mg_of X G aD) bD FPk (PySem.W.mg_of X G aPk) bPk FHd (PySem.W.mg_of X G aHd) bHd ⟨aLv, iFLv, kLv⟩ G_leaving bLv b_lvk Fx G_fixed MkF (PySem.W.mg_of X G gF) aEF iFEF neCF G_eqF bEF
    exact ok_law FL U T PQ kt_CF_CRl kt_CD_CRl FPn (PySem.W.mg_of X G aPn) bPn FD (PySem.W.mg_of X G aD) bD FPk (PySem.W.mg_of X G aPk) bPk FPa (PySem.W.mg_of X G aPa) bPa FRu (PySem.W.mg_of X G aRu) bRu G_rule FNe (PySem.W.mg_of X G aNe) bNe FLr (PySem.W.mg_of X G aLr) bLr G_lr aEF iFEF neCF G_eqF bEF aED iFED neCD G_eqD bED aSF iFSF G_strF bSF aSD iFSD G_strD bSD
end Fz
open PySem PySem.W PyProof.Rows in
set_option maxRecDepth 100000 in
set_option maxHeartbeats 0 in
theorem PySem.Challenge.cw_freetakes_k05_rules_alike_holds : PySem.Challenge.rw_freetakes_k05_rules_alike.Holds := by
  w_on; o_law; k_head; (case hw => w_witness2)
  k_fill
  refine Fz.walk_fz (l := PySem.Challenge.rw_freetakes_k05_rules_alike) (n := 63) (k := 12) (x := "_law_script") rfl (by decide) rfl ⟨rfl, by decide, by decide⟩ (fun w h Y => PySem.W.km_in_of Y) ?F
  case F =>
    intro w mg mb fa h lo mean KX Tp hmg
    refine' Fz.all_mk KX Tp hmg ?hr ?gRl ?gRs ?gF ?gDn ?gSz ?gB ?gX ?aN ?lN ?cN ?kN ?aRK ?lRK ?cRK ?kRK ?aB ?lB ?cB ?kB ?aRs ?lRs ?cRs ?kRs ?aSz ?lSz ?cSz ?kSz ?aFx ?lFx ?cFx ?kFx ?aDn ?lDn ?cDn ?kDn ?ldFx ?ldDn ?rdCRl ?gaCRl ?rdCRs ?gaCRs ?rdCSz ?gaCSz ?pgCF ?hdCF ?poCF ?saCF ?ntoCF ?nsizeCF ?nleaveCF ?nrestCF ?nmodulusCF ?nstartCF ?nrankCF ?pgCD ?hdCD ?poCD ?saCD ?ntoCD ?nsizeCD ?nleaveCD ?nrestCD ?nmodulusCD ?nstartCD ?nrankCD ?haCF ?hn ?htk ?hmCF ?haCD ?hmCD ?mkCF ?kpCF ?iFFx ?mkCD ?kpCD ?iFDn ?m_CRl_MOST ?m_CRl_MOST_MODULUS ?xBCB ?rBCB ?saCB ?exCB ?tyCB ?kpCB ?npCB ?tfCB ?gaCB ?ggCB ?hdCB ?haCB ?hmCB ?exCX ?hdCX ?tyCX ?s_CB_CX ?kt_CB_CB ?z_int ?z_len ?z_abs ?z_list ?z_range ?z_isinstance ?z_repr ?z_bool ?z_tuple ?z_str ?z_max ?z_min ?z_dict ?z_set ?z_sorted ?z_sum ?z_all ?z_any ?z_zip ?z_enumerate ?z_reversed ?aEF ?lEF ?cEF ?kEF ?aED ?lED ?cED ?kED ?iFEF ?neCF ?tyCF ?iFED ?neCD ?tyCD ?nFD ?nDF ?kt_CF_CF ?kt_CF_CD ?kt_CD_CF ?kt_CD_CD ?aRT ?lRT ?cRT ?kRT ?aLT ?lLT ?cLT ?kLT ?aSF ?lSF ?cSF ?kSF ?aSD ?lSD ?cSD ?kSD ?iFSF ?iFSD ?aPn ?lPn ?cPn ?kPn ?aD ?lD ?cD ?kD ?aPk ?lPk ?cPk ?kPk ?aPa ?lPa ?cPa ?kPa ?aRu ?lRu ?cRu ?kRu ?aNe ?lNe ?cNe ?kNe ?aHd ?lHd ?cHd ?kHd ?aLr ?lLr ?cLr ?kLr ?aLv ?lLv ?cLv ?kLv ?iFLv ?aL ?lL ?cL ?kL ?lc ?vP ?lt ?kt_CF_CRl ?kt_CD_CRl
    (case hr => first | rfl | kernel_rfl | k_is)
    (case gRl => k_is)
    (case gRs => k_is)
    (case gF => k_is)
    (case gDn => k_is)
    (case gSz => k_is)
    (case gB => k_is)
    (case gX => k_is)
    (case aN => k_is)
    (case lN => k_is)
    (case cN => k_is)
    (case kN => k_is)
    (case aRK => k_is)
    (case lRK => k_is)
    (case cRK => k_is)
    (case kRK => k_is)
    (case aB => k_is)
    (case lB => k_is)
    (case cB => k_is)
    (case kB => k_is)
    (case aRs => k_is)
    (case lRs => k_is)
    (case cRs => k_is)
    (case kRs => k_is)
    (case aSz => k_is)
    (case lSz => k_is)
    (case cSz => k_is)
    (case kSz => k_is)
    (case aFx => k_is)
    (case lFx => k_is)
    (case cFx => k_is)
    (case kFx => k_is)
    (case aDn => k_is)
    (case lDn => k_is)
    (case cDn => k_is)
    (case kDn => k_is)
    (case ldFx => k_is)
    (case ldDn => k_is)
    (case rdCRl => k_is)
    (case gaCRl => k_is)
    (case rdCRs => k_is)
    (case gaCRs => k_is)
    (case rdCSz => k_is)
    (case gaCSz => k_is)
    (case pgCF => k_is)
    (case hdCF => k_is)
    (case poCF => k_is)
    (case saCF => k_is)
    (case ntoCF => k_is)
    (case nsizeCF => k_is)
    (case nleaveCF => k_is)
    (case nrestCF => k_is)
    (case nmodulusCF => k_is)
    (case nstartCF => k_is)
    (case nrankCF => k_is)
    (case pgCD => k_is)
    (case hdCD => k_is)
    (case poCD => k_is)
    (case saCD => k_is)
    (case ntoCD => k_is)
    (case nsizeCD => k_is)
    (case nleaveCD => k_is)
    (case nrestCD => k_is)
    (case nmodulusCD => k_is)
    (case nstartCD => k_is)
    (case nrankCD => k_is)
    (case haCF => k_is)
    (case hn => k_is)
    (case htk => k_is)
    (case hmCF => k_is)
    (case haCD => k_is)
    (case hmCD => k_is)
    (case mkCF => k_is)
    (case kpCF => k_is)
    (case iFFx => k_is)
    (case mkCD => k_is)
    (case kpCD => k_is)
    (case iFDn => k_is)
    (case m_CRl_MOST => k_is)
    (case m_CRl_MOST_MODULUS => k_is)
    (case xBCB => k_is)
    (case rBCB => first | rfl | decide +kernel)
    (case saCB => k_is)
    (case exCB => k_is)
    (case tyCB => k_is)
    (case kpCB => k_is)
    (case npCB => k_is)
    (case tfCB => k_is)
    (case gaCB => k_is)
    (case ggCB => k_is)
    (case hdCB => k_is)
    (case haCB => k_is)
    (case hmCB => k_is)
    (case exCX => k_is)
    (case hdCX => k_is)
    (case tyCX => k_is)
    (case s_CB_CX => k_is)
    (case kt_CB_CB => kit_is)
    (case z_int => k_is)
    (case z_len => k_is)
    (case z_abs => k_is)
    (case z_list => k_is)
    (case z_range => k_is)
    (case z_isinstance => k_is)
    (case z_repr => k_is)
    (case z_bool => k_is)
    (case z_tuple => k_is)
    (case z_str => k_is)
    (case z_max => k_is)
    (case z_min => k_is)
    (case z_dict => k_is)
    (case z_set => k_is)
    (case z_sorted => k_is)
    (case z_sum => k_is)
    (case z_all => k_is)
    (case z_any => k_is)
    (case z_zip => k_is)
    (case z_enumerate => k_is)
    (case z_reversed => k_is)
    (case aEF => k_is)
    (case lEF => k_is)
    (case cEF => k_is)
    (case kEF => k_is)
    (case aED => k_is)
    (case lED => k_is)
    (case cED => k_is)
    (case kED => k_is)
    (case iFEF => k_is)
    (case neCF => k_is)
    (case tyCF => k_is)
    (case iFED => k_is)
    (case neCD => k_is)
    (case tyCD => k_is)
    (case nFD => k_is)
    (case nDF => k_is)
    (case kt_CF_CF => kit_is)
    (case kt_CF_CD => kit_is)
    (case kt_CD_CF => kit_is)
    (case kt_CD_CD => kit_is)
    (case aRT => k_is)
    (case lRT => k_is)
    (case cRT => k_is)
    (case kRT => k_is)
    (case aLT => k_is)
    (case lLT => k_is)
    (case cLT => k_is)
    (case kLT => k_is)
    (case aSF => k_is)
    (case lSF => k_is)
    (case cSF => k_is)
    (case kSF => k_is)
    (case aSD => k_is)
    (case lSD => k_is)
    (case cSD => k_is)
    (case kSD => k_is)
    (case iFSF => k_is)
    (case iFSD => k_is)
    (case aPn => k_is)
    (case lPn => k_is)
    (case cPn => k_is)
    (case kPn => k_is)
    (case aD => k_is)
    (case lD => k_is)
    (case cD => k_is)
    (case kD => k_is)
    (case aPk => k_is)
    (case lPk => k_is)
    (case cPk => k_is)
    (case kPk => k_is)
    (case aPa => k_is)
    (case lPa => k_is)
    (case cPa => k_is)
    (case kPa => k_is)
    (case aRu => k_is)
    (case lRu => k_is)
    (case cRu => k_is)
    (case kRu => k_is)
    (case aNe => k_is)
    (case lNe => k_is)
    (case cNe => k_is)
    (case kNe => k_is)
    (case aHd => k_is)
    (case lHd => k_is)
    (case cHd => k_is)
    (case kHd => k_is)
    (case aLr => k_is)
    (case lLr => k_is)
    (case cLr => k_is)
    (case kLr => k_is)
    (case aLv => k_is)
    (case lLv => k_is)
    (case cLv => k_is)
    (case kLv => k_is)
    (case iFLv => k_is)
    (case aL => k_is)
    (case lL => k_is)
    (case cL => k_is)
    (case kL => k_is)
    (case lc => k_is)
    (case vP => rfl)
    (case lt => first | rfl | kernel_rfl | decide +kernel)
    (case kt_CF_CRl => kit_is)
    (case kt_CD_CRl => kit_is)
#print axioms PySem.Challenge.cw_freetakes_k05_rules_alike_holds
