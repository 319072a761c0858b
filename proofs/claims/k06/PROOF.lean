import PyProof.Rows.All
import Wide.All
import OpenK.AllK
import Wide.FinOn
import PyProof.EqAt
import PyProof.EqKinds
import PyProof.TupleCall
import HandS.Base
import HandS.Call
import HandS.List
import HandS.Ends
import HandS.Exc
import HandS.ExcOwn
import HandS.ExcInit
import HandS.Lambda
import HandS.ExcField
import HandS.ExcIs
import HandS.IsInst
import HandS.EndTab
import HandS.Words
import HandS.WordsList
import HandS.WordsExc
import HandS.ClsMeth
import HandS.Wide
import HandS.Conv
import HandS.LawCells
import HandS.MakeKw
import HandS.MakeKwOnly
import KE.KCallOwn
import HandS.SlotsOwn
import HandS.FStr
import KE.IntTextLaws
import KE.KIntText
import HandS.Text
import HandS.OwnEq
import HandS.Star
import HandS.StrMore
import HandS.Iter
import HandS.Walk
import HandS.TupAny
import PyProof.StrOps2
import PySem.Challenge.RW_freetakes_k06_rules_written_and_read
set_option Elab.async false
set_option linter.all false
set_option maxRecDepth 100000
set_option maxHeartbeats 2000000
/-! Own layer, first part: repr of data; defs that are called where no repr is under way. -/
namespace Fz
open PySem PySem.Spec PyProof.Rows L2

/-! ### repr of lists and tuples of data -/
structure rRepD (K : PySem.W.Frag) (vs : List V) (H : Hp) (Q : VK) : Prop where
  ex : ∃ (p : Addr) (dat : PyData), vs = [.ref p] ∧ Dp K H (.ref p) dat ∧ dat.showable = true ∧ dat.hasDict = false ∧ dat.depth ≤ 60 ∧ dat.shown.length ≤ sizeLine ∧ Q (.str dat.shown) H
theorem call_repD {X : Cx} (clear : X.A.guards = some []) (room : X.A.units + 64 < cLine) : CallR X (.builtin "repr") (rRepD X.K) := by
  intro pins s σ H vs us Q I rvs hyp
  obtain ⟨p, dat, rfl, hdat, hshow, hno, hdeep, hfit, fin⟩ := hyp.ex
  obtain ⟨u, rfl, ru⟩ := vals1 rvs
  cases ru
  obtain ⟨seen, reads⟩ := Dp.reads I dat (.ref p) (.ref p) hdat rfl
  refine repr_of_reads' reads hshow (fun bad => ?_) clear (by omega) (fun _ _ same => same) (fun heap' tok toks kept => ?_) hfit
  · rw [hno] at bad
    cases bad
  · exact ⟨.str dat.shown, H, I.kept kept, ⟨_, rfl⟩, fin⟩

/-! ### defs that are called where no repr is under way -/
structure FnG (P : Program) (w : World) (K : PySem.W.Frag) (mg : Str → Option Value) (base : Heap) (CX : CXT) (k : Nat) (f : Addr) (fd : FuncData) (ps : List Str) (sp : Sp) : Prop where
  len : ∀ vs H Q E, sp vs H Q E → vs.length = ps.length
  run : ∀ (A : Around) (outer : List Env) (s : Shared) (H : Hp) (args : Args) (us : List Value) (vs : List V) (Q : VK) (E : XK), Room k A → A.guards = some [] → Env0 P w K mg base A outer s H →
    BindsTo s fd args (ps.zip us) → Vals vs us → sp vs H Q E → codeAny (model P w) A (.call (.ref f) args) (CR CX outer P w H s Q E) s
section
variable {P : Program} {w : World} {K : PySem.W.Frag} {mg : Str → Option Value} {base : Heap} {CX : CXT} {k : Nat} {f : Addr} {fd : FuncData} {ps : List Str} {sp : Sp}
theorem FnG.of (F : FnOk P w K mg base CX k f fd ps sp) : FnG P w K mg base CX k f fd ps sp :=
  ⟨F.len, fun A outer s H args us vs Q E room _ => F.run A outer s H args us vs Q E room⟩
/-- the rule for such a def -/
theorem fnG_of {name qual : Str} {params : Arguments} {body : List Stmt} {scope : Scope} {dV kV doc pm cdv ct oc : Value} {an od : Option Addr} {osl : Array (Option Value)} {N : List Str}
    (lk : K.lookup f = some ⟨oc, od, .func (PySem.W.fnOf name qual params body scope dV kV doc pm an cdv ct), osl⟩) (code : PySem.W.codeIn K cdv qual = true) (S : FnScope N ps scope) (len : ∀ vs H Q E, sp vs H Q E → vs.length = ps.length)
    (walk : ∀ (A : Around) (outer : List Env) (s : Shared) (H : Hp) (vs : List V) (Q : VK) (E : XK), Room k (A.deeper (envOfC qual scope s.heap.objs.size f cdv)) → A.guards = some [] → sp vs H Q E →
      ∃ t, PSs (cxOf CX P w K mg base N qual scope f cdv A outer s H E) body t ∧ t { nx := fun _ H' => Q .non H', rt := Q } (start N vs) H) :
    FnG P w K mg base CX (k + 1) f (PySem.W.fnOf name qual params body scope dV kV doc pm an cdv ct) ps sp :=
  ⟨len, fun A outer s H args us vs Q E room clear at0 binds rvs hyp => LamX.run_ofS lk code S room at0 binds rvs (len _ _ _ _ hyp) fun room' => walk A outer s H vs Q E room' clear hyp⟩
end
section
variable {X : Cx} {CX : CXT} {k : Nat} {f : Addr} {fd : FuncData} {ps : List Str} {sp : Sp} {dvs : List V} {ds : List Value} {E : XK} {x : Str} {p pos : Pos} {e : Expr} {es : List Expr} {t : TA}
theorem run_fnG {pins : List (Addr × Obj)} {σ : L2.St} {H : Hp} {s : Shared} {Q : VK} {us : List Value} {vs : List V} (F : FnG X.prog X.w X.K X.mg X.base CX k f fd ps sp) (room : Room k X.A) (clear : X.A.guards = some []) (binds : L2.Binds X.K fd ps ds) (rd : Vals dvs ds)
    (pass : Passes CX X E) (I : Inv X pins σ H s) (rvs : Vals vs us) (hyp : sp (vs ++ dvs) H Q E) : wpAny (model X.prog X.w) X.A (call (.ref f) us) (EP X pins σ Q) X.xe s := by
  have rall : Vals (vs ++ dvs) (us ++ ds) := rvs.append rd
  have many : (us ++ ds).length = ps.length := rall.length.symm.trans (F.len _ _ _ _ hyp)
  refine wpAny_call (codeAny_mono (F.run X.A X.stack s H ⟨us, []⟩ (us ++ ds) (vs ++ dvs) Q E room clear I.env0 (binds s us I.kIn many) rall hyp) fun res s' got => ?_)
  match res, got with
  | .error e, got => exact pass pins σ H s e s' I got
  | .ok (.ret u), got => exact I.after got
  | .ok .next, got => exact got.elim
  | .ok .brk, got => exact got.elim
  | .ok .cont, got => exact got.elim
theorem pe_callG (F : FnG X.prog X.w X.K X.mg X.base CX k f fd ps sp) (room : Room k X.A) (clear : X.A.guards = some []) (glob : Gl X x) (at_ : X.mg x = some (.ref f)) (keep : PySem.W.keepIn X.K (.ref f) = true) (binds : L2.Binds X.K fd ps ds) (rd : Vals dvs ds) (pass : Passes CX X E)
    (ha : PA X (e :: es) t) (ndb : (x == ("__debug__" : Str)) = false := by decide) (star : starEach (e :: es) X.env = (false, eval e X.env) :: starEach es X.env := by rfl) (plain : (backTo pos (starEach es X.env)).any (·.1) = false := by rfl) :
    PE X (.Call (.Name x p) (e :: es) [] pos) (tCall sp dvs E t) :=
  ⟨fun pins s σ H Q I hyp => wpAny_Call_Name_kw (ld_glob I glob at_ (PySem.W.callWith_K (h₀ := X.base) I.ok.mod.kin keep
    (thn (ha.run pos pins s σ H _ I hyp) fun us s1 ⟨vs, H1, I1, rvs, fin⟩ => ⟨I1.kIn, run_fnG F room clear binds rd pass I1 rvs fin⟩) star plain) ndb)⟩
end
end Fz

set_option Elab.async false
set_option linter.all false
set_option maxRecDepth 100000
set_option maxHeartbeats 4000000
/-! Own layer, second part: a caught error of an own class that a name keeps behind the except suite: it is tracked. -/
namespace Fz
open PySem PySem.Spec PyProof.Rows L2

/-- at p: an error of the class cls, its fields' dict at d -/
def Err (cls : Value) (d : Option Addr) (p : Addr) : HO := .ext fun h => ∃ (ob : Obj) (slots : Array Value), h.get? p = some ob ∧ Zc cls d ob ∧ ob.data = .fields slots
theorem Err.made {P : Program} {w : World} {H : Hp} {h : Heap} {p : Addr} {cls : Value} {d : Option Addr} {ob : Obj} {slots : Array Value} (at_ : h.get? p = some ob) (z : Zc cls d ob) (dat : ob.data = .fields slots) : ObjOk P w H h p (Err cls d p) :=
  ⟨⟨ob, slots, at_, z, dat⟩, ⟨ob, at_⟩, fun _ _ ⟨ob', slots', q, r⟩ stay => ⟨ob', slots', stay ob' q, r⟩⟩
theorem Err.at_ {P : Program} {w : World} {H : Hp} {h : Heap} {p : Addr} {cls : Value} {d : Option Addr} (ok : HOk P w H h) (here : H p = some (Err cls d p)) : ∃ (ob : Obj) (slots : Array Value), h.get? p = some ob ∧ Zc cls d ob ∧ ob.data = .fields slots :=
  (show ObjOk P w H h p (.ext _) from ok p _ here).1

section
variable {X : Cx} {pins : List (Addr × Obj)} {σ : L2.St} {H : Hp} {s : Shared}
/-- an object that came to be since the entry is tracked from now on -/
theorem track {p : Addr} {o : HO} (I : Inv X pins σ H s) (un : H p = none) (new : ObjOk X.prog X.w (upd H p o) s.heap p o) (late : ∀ b u, X.s_0.heap.get? b = some u → b ≠ p) (noFrame : p ≠ X.env.locals)
    (noCell : ∀ x c, X.env.cells.lookup x = some c → c ≠ p) (noPin : ∀ q ∈ X.pn ++ pins, q.1 ≠ p) : Inv X pins σ (upd H p o) s := by
  have other : ∀ {b u}, H b = some u → b ≠ p := fun {b u} q => ne_of_none q un
  refine ⟨I.ok, I.os, I.bare, ⟨I.base.keep, I.base.slot, fun b u q n hx => ?_, I.base.there, fun b vs q => ?_, fun b u v q => ?_, fun b vs q => ?_⟩, I.loc, I.cell, ?_, fun x c q => ?_, fun q hq => ?_, fun b u q => ?_, I.len⟩
  · rw [upd_ne (late b u q)]
    exact I.base.free b u q n hx
  · have z := I.base.tups b vs q
    rw [upd_ne (other z)]
    exact z
  · have z := I.base.frzs b u v q
    rw [upd_ne (other z)]
    exact z
  · obtain ⟨more, z⟩ := I.base.tbls b vs q
    exact ⟨more, by rw [upd_ne (other z)]; exact z⟩
  · rw [upd_ne (Ne.symm noFrame)]
    exact I.free
  · rw [upd_ne (noCell x c q)]
    exact I.freeC x c q
  · obtain ⟨z1, z2, z3, z4, z5⟩ := I.pin q hq
    exact ⟨z1, by rw [upd_ne (noPin q hq)]; exact z2, z3, z4, z5⟩
  · by_cases hb : b = p
    · subst hb
      rw [upd_same] at q
      cases q
      exact new
    · rw [upd_ne hb] at q
      refine (I.hok b u q).stay (fun c v _ r => r) (fun c r => ?_) fun c vs r => ?_
      · rw [upd_ne (other r)]
        exact r
      · rw [upd_ne (other r)]
        exact r
/-- into an except suite, and out of it, the error tracked -/
theorem intoSuite (I : Inv X pins σ H s) (p : Addr) : Inv (X.suite p (X.pn ++ pins)) [] σ H s :=
  ⟨I.ok.suite p (X.pn ++ pins), I.os, I.bare, I.base, I.loc, I.cell, I.free, I.freeC, fun q hq => I.pin q (by simpa using hq), I.hok, I.len⟩
theorem outOfSuite {p : Addr} {more : List (Addr × Obj)} (I : Inv (X.suite p (X.pn ++ pins)) more σ H s) (ok : X.Ok) : Inv X pins σ H s :=
  ⟨ok, I.os, I.bare, I.base, I.loc, I.cell, I.free, I.freeC, fun q hq => I.pin q (List.mem_append_left more hq), I.hok, I.len⟩
end

/-- what the clause «except x as n» wishes: in its suite, and from then on, the error is tracked at p -/
def wErr (K : PySem.W.Frag) (N : List Str) (c : Value) (i : Nat) (ts : Addr → Value → Option Addr → TS) (Wout : WX) (D : Ends) : WX := fun cls d σ H => ∃ hit, PySem.W.exmOne K cls c = some hit ∧
  (hit = true → σ.length = N.length → ∀ p, H p = none → ts p cls d { nx := fun σ' H' => D.nx (σ'.set i none) H', rt := D.rt, bk := fun σ' H' => D.bk (σ'.set i none) H', ct := fun σ' H' => D.ct (σ'.set i none) H' } (σ.set i (some (.ref p))) (upd H p (Err cls d p))) ∧
  (hit = false → Wout cls d σ H)
section
variable {X : Cx} {x n : Str} {c : Value} {i : Nat} {body rest : List Stmt} {first : Stmt} {np pos pos' : Pos} {tb : WX → TS} {ts : Addr → Value → Option Addr → TS} {Wout : WX}
theorem ps_tryErr (stk : X.stack = X.env :: X.outer) (frm : X.env.frame = some X.env.locals) (noex : X.ex = []) (nd : X.N.Nodup) (slot : X.N[i]? = some n) (isLocal : X.env.kindOf n = some .local) (named : Names X x c) (out : Takes X Wout)
    (hbody : ∀ (W : WX) (pn : List (Addr × Obj)) (xe : Value → Shared → Prop), Takes (X.tr pn xe) W → PassesOwn (model X.prog X.w) X.A X.env xe → PSs (X.tr pn xe) body (tb W))
    (hsuite : ∀ (p : Addr) (cls : Value) (d : Option Addr) (pn : List (Addr × Obj)), PSs (X.suite p pn) (first :: rest) (ts p cls d)) :
    PS X (.Try body [.ExceptHandler (some (.Name x np)) (some n) (first :: rest) pos'] [] [] pos) (fun D σ H => tb (wErr X.K X.N c i ts Wout D) D σ H) := by
  refine ⟨fun pins s σ H D I hyp => wpAny_Try_except ?_⟩
  have okX := I.ok
  have frames : X.A.frames = some (X.env :: X.outer) := okX.frames.trans (congrArg some stk)
  refine wpAny_mono ((hbody (wErr X.K X.N c i ts Wout D) (X.pn ++ pins) (fun err s₁ => wpAny (model X.prog X.w) X.A (noteFrame err X.env) (fun _ s₂ => wpAny (model X.prog X.w) X.A (setFlight err none) (fun _ s₃ =>
    wpAny (model X.prog X.w) X.A (handleBy err X.env [.ExceptHandler (some (.Name x np)) (some n) (first :: rest) pos']) (SP X pins D) X.xe s₃) X.xe s₂) X.xe s₁) (fun err s' air => ?_) PassesOwn.looking).run [] s σ H D (I.toTry _) hyp) (fun flow s' done => ?_) (fun _ _ z => z)
  · -- an error comes
    obtain ⟨p, B, ground, pins', σ', H', cls, d, rfl, Jt, below, upto, sky, un, sameOs, bare, hit, test, yes, no⟩ := air
    have J : Inv X pins σ' H' ground := Jt.ofTry okX
    rw [stk] at sky
    show wpAny (model X.prog X.w) X.A (noteFrame (.ref p) X.env) _ _ _
    refine Sky.land Zc.steady frames frm sky fun h1 fly1 upto1 => ?_
    have J1 : Inv X pins σ' H' { s' with heap := h1 } := J.landed below fly1.1 (upto.trans upto1) sameOs bare
    obtain ⟨ob1, sl1, get1, z1, dat1⟩ := fly1.there
    -- p is no frame's own address
    have noFrame : p ∉ frs (X.env :: X.outer) := fun hm => by
      obtain ⟨_, ob', get', nofields⟩ := fly1.2.2.1.mem hm
      have same : ob1 = ob' := Option.some.inj (get1.symm.trans get')
      exact nofields sl1 (same ▸ dat1)
    have notOwn : p ≠ X.env.locals := fun z => noFrame (List.mem_filterMap.mpr ⟨X.env, List.mem_cons_self, by rw [frm, z]⟩)
    -- p came to be behind the entry
    have fresh0 : ∀ b u, ground.heap.get? b = some u → b ≠ p := fun b u q z => by
      have z2 := below b u q (by rw [stk, z]; exact noFrame)
      rw [z, fly1.2.1] at z2
      cases z2
    have fresh : ∀ b u, X.s_0.heap.get? b = some u → b ≠ p := fun b u q => by
      obtain ⟨u', q'⟩ := J.base.there b u q (by rw [noex]; exact fun z => nomatch z)
      exact fresh0 b u' q'
    have noPin : ∀ q ∈ X.pn ++ pins, q.1 ≠ p := fun q hq => fresh0 q.1 q.2 (J.pin q hq).1
    have noCell : ∀ y k, X.env.cells.lookup y = some k → k ≠ p := fun y k q => by
      obtain ⟨v, ob', get', _⟩ := J.cell y k q
      exact fresh0 k ob' get'
    -- the clause's class is named and asked
    refine wpAny_handleBy_cons (codeAny_handlers_test ?_) (by intro z; cases z)
    have tyP : PySem.W.Looks (model X.prog X.w) h1 (typeOf (.ref p)) cls := fun A Q E s k q => wpAny_typeOf_ref (k _ _ get1) (by rw [z1.1]; exact q)
    have ask := PySem.W.exm_one (M := model X.prog X.w) J1.kIn tyP test
    have inside := intoSuite J1 p
    have loaded : ∀ {Q : Value → Shared → Prop} {E : Value → Shared → Prop}, Q c { s' with heap := h1 } → wpAny (model X.prog X.w) (X.A.mark (some (.ref p))) (eval (.Name x np) X.env) Q E { s' with heap := h1 } := fun {Q E} q => by
      obtain ⟨isGlob, ndb, here | ⟨nowhere, boot, nname⟩⟩ := named
      · exact ld_glob (X := X.suite p (X.pn ++ pins)) inside isGlob here q ndb
      · exact ld_blt (X := X.suite p (X.pn ++ pins)) inside isGlob nowhere boot q nname ndb
    refine loaded (ask.here ?_)
    match hit, yes, no with
    | true, yes, _ =>
      refine codeAny_handlers_suite_as (HandSPX.lands_againZ fly1 fun h2 fly2 upto2 => ?_)
      have J2 : Inv X pins σ' H' { s' with heap := h2 } := J.landed below fly2.1 ((upto.trans upto1).trans upto2) sameOs bare
      obtain ⟨ob2, sl2, get2, z2, dat2⟩ := fly2.there
      have tracked := track J2 un (Err.made get2 z2 dat2) fresh notOwn noCell noPin
      refine store_ok (X := X.suite p (X.pn ++ pins)) (v := .ref p) (intoSuite tracked p) nd slot (.inl isLocal) rfl (fun s3 S3 => ?_) (.inr isLocal)
      refine wpAny_mono ((hsuite p cls d (X.pn ++ pins)).run [] s3 _ _ _ S3 (yes rfl J.len p un)) (fun flow s4 done => ?_) (fun _ _ z => z.elim)
      have gone : ∀ {σ4 : L2.St} {H4 : Hp} {Q : Shared → Prop}, Inv (X.suite p (X.pn ++ pins)) [] σ4 H4 s4 → (∀ s5, Inv X pins (σ4.set i none) H4 s5 → Q s5) →
          wpAny (model X.prog X.w) X.A (do bindName X.env n .none; unbindBehindTheSuite X.env n pos') (fun _ s5 => Q s5) X.xe s4 := fun {σ4 H4 Q} S4 go => gone_ok (outOfSuite S4 okX) nd slot isLocal go
      match flow, done with
      | .next, ⟨_, _, S4, q⟩ => exact gone S4 fun _ J5 => ⟨_, _, J5, q⟩
      | .brk, ⟨_, _, S4, q⟩ => exact gone S4 fun _ J5 => ⟨_, _, J5, q⟩
      | .cont, ⟨_, _, S4, q⟩ => exact gone S4 fun _ J5 => ⟨_, _, J5, q⟩
      | .ret _, ⟨_, _, _, S4, rv, q⟩ => exact gone S4 fun _ J5 => ⟨_, _, _, J5, rv, q⟩
    | false, _, no =>
      show wpAny _ X.A (handleBy (.ref p) X.env []) _ _ _
      refine wpAny_handleBy_nil ?_
      obtain ⟨_, _, _, obF, slF, T, _, _, getF, _, datF, traced, _⟩ := id fly1
      unfold PySem.passOn
      refine wpAny_bind (wpAny_field getF datF traced ?_)
      rw [if_neg (show ¬ ((Value.ref T == Value.none) = true) by simp)]
      have on_ : wpAny (model X.prog X.w) X.A (setFlight (.ref p) X.env.frame) (fun _ s4 => wpAny (model X.prog X.w) X.A (throw (.ref p) : Sem Flow) (SP X pins D) X.xe s4) X.xe { s' with heap := h1 } := by
        rw [frm]
        exact HandSPX.setFlight_upZ fly1 fun h2 held2 upto2 => wpAny_throw (out _ _ ⟨p, B, ground, pins, σ', H', cls, d, rfl, J, below, (upto.trans upto1).trans upto2, .inr (.inr (by rw [stk]; exact held2)), un, sameOs, bare, no rfl⟩)
      first
        | exact wpAny_bind (wpAny_pure (wpAny_bind on_))
        | exact wpAny_bind on_
  · match flow, done with
    | .next, ⟨_, _, J, q⟩ => exact wpAny_execs_nil ⟨_, _, J.ofTry okX, q⟩
    | .brk, ⟨_, _, J, q⟩ => exact ⟨_, _, J.ofTry okX, q⟩
    | .cont, ⟨_, _, J, q⟩ => exact ⟨_, _, J.ofTry okX, q⟩
    | .ret _, ⟨_, _, _, J, rv, q⟩ => exact ⟨_, _, _, J.ofTry okX, rv, q⟩
end
end Fz

set_option Elab.async false
set_option linter.all false
set_option maxRecDepth 100000
set_option maxHeartbeats 4000000
/-! Own layer, third part: what is asked of a tracked error: its fields, its class. -/
namespace Fz
open PySem PySem.Spec PyProof.Rows L2
section
open PySem.W
variable {prog : Program} {w : World} {A : Around} {E : Value → Shared → Prop} {s : Shared} {K : Frag} {p cl : Addr} {ob : Obj} {own : Option Obj}
/-- err.__class__, the error with a dict or without one -/
theorem err_class {Q : Option Value → Shared → Prop} (C : ExcC K cl) (X : K.In s.heap) (I : InstAt s.heap p ob cl own) (fin : Q (some (.ref cl)) { s with toks := s.toks + 1 }) : wpAny (model prog w) A (getAttr? (.ref p) "__class__") Q E s := by
  have found : findObj K cl own "__class__" = some (.bind (.builtin "getset_descriptor.__get__") (.builtin "object.__class__")) := by
    have isC : (clsIn K cl).isSome = true := by
      obtain ⟨cd, q, _⟩ := any_some C.hd
      rw [q]
      rfl
    cases own with
    | none => exact findObj_dataN isC C.ha C.hn C.ht
    | some od => exact findObj_data isC C.ha C.hn C.ht
  obtain ⟨heap, gens, drawn, tok, os⟩ := s
  have t1 := I.type (M := model prog w)
  have t2 := looks_findIn (M := model prog w) X C.hg
  have t3 := looks_findIn (M := model prog w) X C.hk
  have t4 := looks_find (M := model prog w) X I found
  have isExc : Looks (model prog w) heap (isInstance (.ref p) (.type "BaseException")) true := t1.andThen (looks_subIn X C.hs)
  have n1 : (Value.builtin "BaseException.__getattribute__" == Value.builtin "object.__getattribute__") = false := by decide +kernel
  have n2 : (onTheHeap (Value.ref cl) && Value.builtin "BaseException.__getattribute__" == Value.builtin "object.__getattribute__") = false := by rw [n1]; rfl
  have n3 : (false && onTheHeap (Value.builtin "BaseException.__getattribute__")) = false := rfl
  unfold getAttr? getAttrBy? getAttrBy
  refine wpAny_bind (wpAny_mkText (wpAny_bind (wpAny_attempt (wpAny_holding (wpAny_bind (t1.at (wpAny_bind (t2.at ?_))))))))
  show wpAny _ _ (if (onTheHeap (Value.ref cl) && Value.builtin "BaseException.__getattribute__" == Value.builtin "object.__getattribute__") = true then _ else _) _ _ _
  rw [n2, if_neg Bool.false_ne_true]
  unfold getAttrByItsOwn hookBefore
  refine wpAny_bind ?_
  rw [if_pos (show onTheHeap (Value.ref cl) = true from rfl)]
  refine t3.at (wpAny_bind (wpAny_attempt (wpAny_holding ?_)))
  unfold callGetattribute
  rw [n3, if_neg Bool.false_ne_true]
  unfold boundAndCalled
  rw [PySem.F.excAttr_ValueError.ga.bind (.ref p)]
  refine wpAny_bind (wpAny_pure ?_)
  show wpAny _ _ (call (.builtin "BaseException.__getattribute__") [.ref p, .str "__class__" tok]) _ _ _
  refine wpAny_call (codeAny_call_builtin PySem.F.excAttr_ValueError.ga.plain PySem.F.entry_bexc_ga ?_)
  refine @check_slot (model prog w) _ _ ⟨heap, gens, drawn, tok + 1, os⟩ "BaseException.__getattribute__" "BaseException" "__getattribute__" (.ref p) [.str "__class__" tok] [] _ (by decide +kernel) (by decide +kernel) isExc (PySem.F.args_bexc_ga (.ref p) (.str "__class__" tok)) ?_
  unfold Builtin.«object.__getattribute__»
  refine wpAny_bind (wpAny_of_eq (a := ((Value.ref p : Value), [Value.str "__class__" tok])) (by first | rfl | (simp only [slotArgs]; rfl)) ?_)
  refine wpAny_bind (wpAny_pure (wpAny_bind (t1.at (wpAny_bind (t4.at ?_)))))
  show wpAny _ _ (holding [Value.builtin "object.__class__"] (call (.builtin "getset_descriptor.__get__") [.builtin "object.__class__", .ref p, .ref cl]) >>= ret) _ _ _
  refine wpAny_bind (wpAny_holding (wpAny_call (class_get (s := ⟨heap, gens, drawn, tok + 1, os⟩) (ox := ob) (od := own) X I C.hm ?_)))
  refine wpAny_pure ?_
  show wpAny _ _ (handedOut (.ref cl)) _ _ _
  rw [handedOut_of (v := .ref cl) rfl]
  first
    | exact wpAny_pure (wpAny_pure fin)
    | exact wpAny_pure fin
    | exact wpAny_pure (wpAny_bind (wpAny_pure (wpAny_pure fin)))
theorem cls_obj (C : ExcC K cl) : ∃ o : Obj, K.lookup cl = some o ∧ (∀ its n, o.data ≠ .seq its n) ∧ ∀ (M : Model) (h : Heap), K.In h → Looks M h (isType (.ref cl)) true := by
  obtain ⟨cd, q, _⟩ := any_some C.hd
  unfold clsIn at q
  split at q
  · rename_i c d dat sl here
    refine ⟨_, here, fun its n z => (by cases z), fun M h X A Q E st stay fin => ?_⟩
    unfold isType loadHead
    exact wpAny_bind (wpAny_loadPart (stay _ _ (X _ _ here)) (wpAny_pure fin))
  · cases q
theorem kit_err (C : ExcC K cl) : KitX K (.ref p) (.ref cl) (fun h => InstAt h p ob cl own) where
  ty := fun _ _ _ I => I.type
  it := fun M h X _ => (cls_obj C).choose_spec.2.2 M h X
  ne := fun h tp dd its n sl X there => by
    obtain ⟨o, here, noSeq, _⟩ := cls_obj C
    refine Bool.eq_false_iff.mpr fun q => ?_
    cases Value.ref.inj (beq_iff_eq.mp q)
    have z := Option.some.inj ((X _ _ here).symm.trans there)
    exact noSeq its.toArray n (by rw [z])
  ca := fun X I fin => err_class C X I fin
end
section
variable {X : Cx}
/-- an error's place as the library's rules take it -/
theorem inst_err {pins : List (Addr × Obj)} {σ : L2.St} {H : Hp} {s : Shared} {p cl : Addr} {d : Option Addr} (I : Inv X pins σ H s) (here : H p = some (Err (.ref cl) d p)) (dict : ∀ dd, d = some dd → ∃ fs, H dd = some (.xd fs)) :
    ∃ (ob : Obj) (own : Option Obj), PySem.W.InstAt s.heap p ob cl own := by
  obtain ⟨ob, slots, get, z, dat⟩ := Err.at_ I.hok here
  have notC : PySem.W.notCls ob = true := by
    unfold PySem.W.notCls
    rw [dat] <;> rfl
  match d, z, dict with
  | none, z, _ => exact ⟨ob, none, get, z.1, notC, by rw [z.2]; trivial⟩
  | some dd, z, dict =>
    obtain ⟨fs, q⟩ := dict dd rfl
    obtain ⟨mA, names, _⟩ := (show ObjOk X.prog X.w H s.heap dd (.xd fs) from I.hok dd _ q)
    obtain ⟨od, getD, _⟩ := lookIn_ns names
    exact ⟨ob, some od, get, z.1, notC, by rw [z.2]; exact getD⟩
/-- isinstance(err, c) -/
def rIsErr (K : PySem.W.Frag) : List V → Hp → VK → Prop := fun vs H Q => ∃ (p cl : Addr) (d : Option Addr) (c : V) (cv : Value) (b : Bool), vs = [.ref p, c] ∧ H p = some (Err (.ref cl) d p) ∧ (∀ dd, d = some dd → ∃ fs, H dd = some (.xd fs)) ∧ ExcC K cl ∧ ClsV c cv ∧
  PySem.W.kitOne K (.ref cl) cv = some b ∧ Q (.bl b) H
theorem call_isErr : CallR X (.builtin "isinstance") (rIsErr X.K) := by
  intro pins s σ H vs us Q I rvs hyp
  obtain ⟨p, cl, d, c, cv, b, rfl, here, dict, C, isC, ans, fin⟩ := hyp
  obtain ⟨u1, u2, rfl, r1, r2⟩ := vals2 rvs
  cases r1
  cases isC.eq r2
  obtain ⟨ob, own, J⟩ := inst_err I here dict
  exact PySem.W.kia_one (kit_err C) I.kIn J ans (fun z => nomatch z) fun tk => ⟨.bl b, H, I.tok tk, rfl, fin⟩
/-- err.f -/
def tErrF (K : PySem.W.Frag) (f : Str) (te : TE) : TE := fun σ H Q => te σ H fun x H1 => ∃ (p cl dd : Addr) (fs : List (Str × V)) (v : V), x = .ref p ∧ H1 p = some (Err (.ref cl) (some dd) p) ∧ H1 dd = some (.xd fs) ∧ XfC K cl ∧ PySem.W.findIn K (.ref cl) f = some none ∧ fs.lookup f = some v ∧ Q v H1
theorem pe_errF {e : Expr} {te : TE} {f : Str} {pos : Pos} (he : PE X e te) (base : attributeBase e f X.env (eval e X.env) = eval e X.env := by rfl) : PE X (.Attribute e f pos) (tErrF X.K f te) := by
  refine ⟨fun pins s σ H Q I hyp => attr_of base (thn (he.run pins s σ H _ I hyp) fun u s1 ⟨x, H1, I1, rx, p, cl, dd, fs, v, ex, here, dict, T, none_, look, fin⟩ => ?_)⟩
  subst ex
  obtain rfl : u = Value.ref p := rx
  obtain ⟨ob, slots, get, z, dat⟩ := Err.at_ I1.hok here
  obtain ⟨mA, names, rel⟩ := (show ObjOk X.prog X.w H1 s1.heap dd (.xd fs) from I1.hok dd _ dict)
  obtain ⟨od, getD, lookD⟩ := lookIn_ns names
  obtain ⟨u', atf, ru⟩ := RelO.some_of (v := v) (o := mA f) (by rw [← look]; exact rel f)
  have J : PySem.W.InstAt s1.heap p ob cl (some od) := ⟨get, z.1, by unfold PySem.W.notCls; rw [dat] <;> rfl, by rw [z.2]; exact getD⟩
  exact HandSPX.exc_get I1.kIn J T.ga T.gg T.exC (PySem.W.findObj_own T.hdC none_ rfl (by rw [lookD, atf])) (handed_of ru) ⟨v, H1, I1.tok _, ru, fin⟩
end
end Fz

set_option Elab.async false
set_option linter.all false
set_option maxRecDepth 100000
set_option maxHeartbeats 4000000
/-! Own layer, fourth part: the end of a law's row, for a law whose defs ask for repr, its tables of code objects told. -/
namespace Fz
open PySem PySem.Spec PyProof.Rows L2
section
variable {P : Program} {w : World} {K : PySem.W.Frag} {mg mb : Str → Option Value} {s : Shared} {H : Hp}
/-- what is tracked at first: lists and empty records, none of them in the written part -/
structure First (K : PySem.W.Frag) (h : Heap) (H : Hp) : Prop where
  out : ∀ b, H b ≠ none → K.lookup b = none
  kind : ∀ b o, H b ≠ none → h.get? b = some o → (∃ its n, o.data = .seq its n) ∨ o.data = .fields #[]
theorem First.free (F : First K s.heap H) {b : Addr} {o : Obj} (get : s.heap.get? b = some o) (n1 : ∀ its n, o.data ≠ .seq its n) (n2 : o.data ≠ .fields #[]) : H b = none := by
  cases q : H b with
  | none => rfl
  | some u =>
    rcases F.kind b o (by rw [q]; exact fun z => nomatch z) get with ⟨its, n, z⟩ | z
    · exact absurd z (n1 its n)
    · exact absurd z n2
theorem First.names (F : First K s.heap H) {b : Addr} {m : Str → Option Value} (N : s.heap.Ns b m) : (hidT s.heap H).Ns b m := by
  obtain ⟨o, es, ep, get, dat, more⟩ := N
  exact ⟨o, es, ep, hidT_get get (F.free get (fun its n z => by rw [dat] at z; cases z) (fun z => by rw [dat] at z; cases z)), dat, more⟩
theorem First.part (F : First K s.heap H) (X : K.In s.heap) : K.In (hidT s.heap H) := fun b o here => hidT_get (X b o here) (by
  cases q : H b with
  | none => rfl
  | some u =>
    have z := F.out b (by rw [q]; exact fun z => nomatch z)
    rw [here] at z
    cases z)
theorem First.env (F : First K s.heap H) (X : K.In s.heap) (N : s.heap.Ns mainGlobals mg) (B : s.heap.Ns builtinsNs mb) (boot : ∀ x : Str, x ≠ "__name__" → mb x = bootBuiltins x) (lim : s.heap.NoLimit) (noGens : s.gens = #[]) (ok : HOk P w H s.heap) :
    Env0 P w K mg (hidT s.heap H) callerA [] s H where
  frames := rfl
  mod := ⟨F.part X, F.names N, ⟨mb, F.names B, boot⟩, let ⟨mc, q, r⟩ := lim; ⟨mc, F.names q, r⟩⟩
  bs := fun _ _ z => of_hidT z
  bsz := Nat.le_of_eq (hidT_size _ _)
  funs := trivial
  frf := fun b z => nomatch (show b ∈ ([] : List Addr) from z)
  hok := ok
  bare := .of_eq noGens
theorem First.table (F : First K s.heap H) (N : s.heap.Ns mainGlobals mg) {c T : Addr} (tab : s.heap.get? T = some { cls := .none, data := .fields #[] }) (code : PySem.W.CodeHd s.heap c T)
    (main : ∃ (bm : Addr) (ob : Obj), mg "__builtins__" = some (.ref bm) ∧ bm ≠ builtinsNs ∧ s.heap.get? bm = some ob ∧ ob.cls = .type "module" ∧ ob.dict = some builtinsNs ∧ ob.data = .plain) : LamX.TabB (hidT s.heap H) mg c T := by
  obtain ⟨om, es, ep, getM, datM, _⟩ := N
  refine ⟨?_, ?_, fun z => ?_⟩
  · obtain ⟨o, us, file, tf, flags, tg, inF, text, tt, get, isCode, dat, r⟩ := code
    exact ⟨o, us, file, tf, flags, tg, inF, text, tt, hidT_get get (F.free get (fun its n z => by rw [dat] at z; cases z) (fun z => by
      rw [dat] at z
      cases z
      have z2 := r.1
      simp at z2)), isCode, dat, r⟩
  · obtain ⟨bm, ob, r1, r2, r3, r4, r5, r6⟩ := main
    refine ⟨bm, ob, r1, r2, fun z => ?_, fun z => ?_, hidT_get r3 (F.free r3 (fun its n z => by rw [r6] at z; cases z) (fun z => by rw [r6] at z; cases z)), r4, r5, r6⟩
    · rw [z, getM] at r3
      cases r3
      rw [datM] at r6
      cases r6
    · rw [z, tab] at r3
      cases r3
      cases r6
  · rw [z, tab] at getM
    cases getM
    cases datM
end
/-- what a law's proof gives at the end of the top -/
def LawEnd (l : PySem.W.OpenLaw) (w : World) (K : PySem.W.Frag) (k n : Nat) (x : Str) (mg : Str → Option Value) (fa : Addr) (h : Heap) : Prop :=
  ∃ (fd : FuncData) (tabs : List (Addr × Addr)) (sp : Sp), (∀ q ∈ tabs, h.get? q.2 = some { cls := .none, data := .fields #[] } ∧ K.lookup q.2 = none ∧ PySem.W.CodeHd h q.1 q.2) ∧ (∀ (s : Shared) (u : Value), BindsTo s fd ⟨[u], []⟩ [(x, u)]) ∧
    (∀ (H : Hp) (a : Addr) (ns : List Int), ns.length ≤ n → (∀ z ∈ ns, Builtin.Int.intBits z ≤ 1048576) → (∀ q ∈ tabs, H q.2 = some (.tbl #[])) → SqL K H a (ns.map V.int) → sp [.ref a] H (fun v _ => v = .bl true) fun _ _ _ => False) ∧
    ∀ base : Heap, K.In base → base.Ns mainGlobals mg → (∀ q ∈ tabs, LamX.TabB base mg q.1 q.2) → FnG l.prog w K mg base CX0 k fa fd [x] sp
theorem law_end {l : PySem.W.OpenLaw} {w : World} {K : PySem.W.Frag} {mg mb : Str → Option Value} {k n : Nat} {fa a : Addr} {x : Str} {s : Shared} {vs : List Value} {ns : List Int}
    (X : K.In s.heap) (N : s.heap.Ns mainGlobals mg) (B : s.heap.Ns builtinsNs mb) (boot : ∀ x : Str, x ≠ "__name__" → mb x = bootBuiltins x) (lim : s.heap.NoLimit) (noGens : s.gens = #[])
    (main : ∃ (bm : Addr) (ob : Obj), mg "__builtins__" = some (.ref bm) ∧ bm ≠ builtinsNs ∧ s.heap.get? bm = some ob ∧ ob.cls = .type "module" ∧ ob.dict = some builtinsNs ∧ ob.data = .plain)
    (script : s.heap.get? a = some { cls := .type "list", data := .seq vs.toArray }) (areInts : IntsAre vs ns) (few : ns.length ≤ n) (line : n ≤ sizeLine) (bits : ∀ z ∈ ns, Builtin.Int.intBits z ≤ 1048576) (room : Room k callerA) (L : LawEnd l w K k n x mg fa s.heap) :
    codeAny (model l.prog w) callerA (.call (.ref fa) ⟨[.ref a], []⟩) (fun r s' => r = .ok (.ret (.bool true)) ∧ OldK s.heap s'.heap ∧ s'.os = s.os ∧ AllBare s'.gens) s := by
  obtain ⟨fd, tabs, sp, tab, binds, promise, fn⟩ := L
  have vals := vals_ints areInts
  have many := areInts.length
  have isTab : ∀ b ∈ tabs.map (·.2), s.heap.get? b = some { cls := .none, data := .fields #[] } := fun b hb => by
    obtain ⟨q, hq, z⟩ := List.mem_map.mp hb
    rw [← z]
    exact (tab q hq).1
  have apart : a ∉ tabs.map (·.2) := fun z => by
    have z2 := isTab a z
    rw [script] at z2
    cases z2
  have asTab : ∀ q ∈ tabs, q.2 ∈ tabs.map (·.2) := fun q hq => List.mem_map.mpr ⟨q, hq, rfl⟩
  -- from what is tracked at first: the tables, and the script where it is no object of the top
  have start_ : ∀ H : Hp, (∀ q ∈ tabs, H q.2 = some (.tbl #[])) → (∀ b, b ∉ tabs.map (·.2) → H b = none ∨ (b = a ∧ H b = some (.frz { cls := .type "list", data := .seq vs.toArray } (.lst (ns.map V.int))))) → (H a ≠ none → K.lookup a = none) → SqL K H a (ns.map V.int) →
      codeAny (model l.prog w) callerA (.call (.ref fa) ⟨[.ref a], []⟩) (fun r s' => r = .ok (.ret (.bool true)) ∧ OldK s.heap s'.heap ∧ s'.os = s.os ∧ AllBare s'.gens) s := by
    intro H onTab else_ outA read
    have cases_ : ∀ b u, H b = some u → (b ∈ tabs.map (·.2) ∧ u = .tbl #[]) ∨ (b = a ∧ u = .frz { cls := .type "list", data := .seq vs.toArray } (.lst (ns.map V.int))) := fun b u q => by
      by_cases hb : b ∈ tabs.map (·.2)
      · obtain ⟨t, ht, z⟩ := List.mem_map.mp hb
        have z2 := onTab t ht
        rw [z, q] at z2
        exact .inl ⟨hb, Option.some.inj z2⟩
      · rcases else_ b hb with z | ⟨z, z2⟩
        · rw [q] at z
          cases z
        · rw [q] at z2
          exact .inr ⟨z, Option.some.inj z2⟩
    have F : First K s.heap H := by
      refine ⟨fun b hb => ?_, fun b o hb get => ?_⟩
      · obtain ⟨u, q⟩ := Option.ne_none_iff_exists'.mp hb
        rcases cases_ b u q with ⟨z, _⟩ | ⟨z, _⟩
        · obtain ⟨t, ht, e⟩ := List.mem_map.mp z
          rw [← e]
          exact (tab t ht).2.1
        · rw [z] at hb ⊢
          exact outA hb
      · obtain ⟨u, q⟩ := Option.ne_none_iff_exists'.mp hb
        rcases cases_ b u q with ⟨z, _⟩ | ⟨z, _⟩
        · rw [isTab b z] at get
          cases get
          exact .inr rfl
        · rw [z, script] at get
          cases get
          exact .inl ⟨_, _, rfl⟩
    have ok : HOk l.prog w H s.heap := fun b u q => by
      rcases cases_ b u q with ⟨z, rfl⟩ | ⟨rfl, rfl⟩
      · exact isTab b z
      · exact ⟨script, by rw [List.length_map]; exact Nat.le_trans few line, vs, _, vals, script⟩
    have G := fn _ (F.part X) (F.names N) fun q hq => F.table N (tab q hq).1 (tab q hq).2.2 main
    refine codeAny_mono (G.run callerA [] s H ⟨[.ref a], []⟩ [.ref a] [.ref a] _ _ room rfl (F.env X N B boot lim noGens ok) (binds s (.ref a)) (.cons rfl .nil) (promise H a ns few bits onTab read)) fun r s' got => ?_
    match r, got with
    | .error _, got => exact got.elim
    | .ok .next, got => exact got.elim
    | .ok .brk, got => exact got.elim
    | .ok .cont, got => exact got.elim
    | .ok (.ret u), ⟨v, H', os, bare, un, ok', rv, fin⟩ =>
      cases (show v = .bl true from fin)
      cases (show u = Value.bool true from rv)
      have grown : ∀ b, b ∈ tabs.map (·.2) → ∃ more : Array Value, s'.heap.get? b = some { cls := .none, data := .fields more } := fun b hb => by
        obtain ⟨t, ht, e⟩ := List.mem_map.mp hb
        obtain ⟨more, z⟩ := un.tbls t.2 #[] (onTab t ht)
        rw [← e]
        exact ⟨_, ok' t.2 _ z⟩
      have kept : ∀ b o, b ∉ tabs.map (·.2) → s.heap.get? b = some o → s'.heap.get? b = some o := fun b o hb get => by
        rcases else_ b hb with z | ⟨rfl, z⟩
        · exact un.keep b o get z (fun y => nomatch (show b ∈ ([] : List Addr) from y)) (fun y => nomatch y)
        · obtain ⟨z1, _⟩ := ok b _ z
          obtain ⟨z2, _⟩ := ok' b _ (un.frzs b _ _ z)
          rw [get] at z1
          cases z1
          exact z2
      refine ⟨rfl, ⟨fun b o get => ?_, fun b o get => ?_⟩, os, bare⟩
      · by_cases hb : b ∈ tabs.map (·.2)
        · obtain ⟨more, z⟩ := grown b hb
          obtain ⟨t, ht, e⟩ := List.mem_map.mp hb
          have z0 := isTab b hb
          rw [get] at z0
          cases z0
          rw [← e] at get z ⊢
          exact .inr (.inl ⟨((tab t ht).2.2.tab get).isCodeTable, rfl, #[], more, rfl, by rw [Array.empty_append]; exact z⟩)
        · exact .inl (kept b o hb get)
      · by_cases hb : b ∈ tabs.map (·.2)
        · obtain ⟨more, z⟩ := grown b hb
          exact ⟨_, z⟩
        · exact ⟨o, kept b o hb get⟩
  cases inTop : K.lookup a with
  | some o =>
    have same := X a o inTop
    rw [script] at same
    cases same
    refine start_ (fun b => if b ∈ tabs.map (·.2) then some (.tbl #[]) else none) (fun q hq => if_pos (asTab q hq)) (fun b hb => .inl (if_neg hb)) (fun z => absurd (if_neg apart) z)
      (.inr ⟨_, vs.toArray, _, inTop, rfl, rfl, rfl, by rw [List.size_toArray, many]; exact Nat.le_trans few line, by simpa using vals⟩)
  | none =>
    refine start_ (fun b => if b ∈ tabs.map (·.2) then some (.tbl #[]) else if b = a then some (.frz { cls := .type "list", data := .seq vs.toArray } (.lst (ns.map V.int))) else none) (fun q hq => if_pos (asTab q hq)) (fun b hb => ?_) (fun _ => inTop)
      (.inl (.inr ⟨_, (if_neg apart).trans (if_pos rfl)⟩))
    by_cases ba : b = a
    · exact .inr ⟨ba, (if_neg hb).trans (if_pos ba)⟩
    · exact .inl ((if_neg hb).trans (if_neg ba))
/-- the goal that k_head leaves -/
theorem walk_fz {l : PySem.W.OpenLaw} {n k : Nat} {q : Program} {loose : List Str} {XP : (Str → Option Value) → Heap → Prop} {YP : World → Heap → Prop} {d : DefRec} {K : Params → PySem.W.Frag} {x : Str}
    (most : l.most = some n) (line : n ≤ sizeLine) (noDef : d.params.defaults = []) (room : Room k callerA) (part : ∀ (w : World) (h : Heap), YP w h → (K w.params).In h)
    (F : ∀ (w : World) (mg mb : Str → Option Value) (fa : Addr) (h : Heap) (lo : List Str) (mean : ExcName → Option Value), (K w.params).In h → Top q lo mean mg mb h → mg d.name = some (.ref fa) → LawEnd l w (K w.params) k n x mg fa h) :
    PySem.W.WalkO q loose XP YP l.row.toRowW d [] (fun f vs => PySem.call f vs) :=
  Att.attach_callB most noDef fun w _ s₁ mg mb fa _ _ _ _ _ vs ns G Y _ _ _ hmg script areInts few bits noGens =>
    law_end (part w _ Y) G.T.g G.T.b G.T.builtins G.T.nolimit noGens G.T.bmain script areInts few line bits room (F w mg mb fa _ _ _ (part w _ Y) G.T hmg)
end Fz

set_option Elab.async false
set_option linter.all false
set_option maxRecDepth 100000
set_option maxHeartbeats 4000000
/-! Own layer, fifth part: a def read off a class and called; values of any kind; numbers within bounds; data of lists. -/
namespace Fz
open PySem PySem.Spec PyProof.Rows L2
section
variable {X : Cx} {CX : CXT} {k : Nat} {C g : Addr} {mc : Value} {fd : FuncData} {ps : List Str} {sp : Sp} {dvs : List V} {ds : List Value} {E : XK} {o e : Expr} {es : List Expr} {m : Str} {pos apos : Pos} {ta : TE} {t : TA} {pl : Sem Bool}
/-- C.m(e, ..), C a class, m a def of it or of one above it -/
def tClsFn (C : Addr) (sp : Sp) (dvs : List V) (E : XK) (ta : TE) (t : TA) : TE := fun σ H Q => ta σ H fun x H1 => x = .ref C ∧ t σ H1 fun vs H2 => sp (vs ++ dvs) H2 Q E
theorem pe_clsFn (he : PE X o ta) (r : ClX.CRead X.K C mc) (found : PySem.W.findCls X.K (.ref C) mc m = some (.val (.ref g))) (F : FnOk X.prog X.w X.K X.mg X.base CX k g fd ps sp) (room : Room k X.A) (keep : PySem.W.keepIn X.K (.ref g) = true) (binds : L2.Binds X.K fd ps ds) (rd : Vals dvs ds)
    (pass : Passes CX X E) (ha : PA X (e :: es) t) (star : starEach (e :: es) X.env = (false, eval e X.env) :: starEach es X.env := by rfl) (plain : (backTo pos (starEach es X.env)).any (·.1) = false := by rfl)
    (tree : eval (.Call (.Attribute o m apos) (e :: es) [] pos) X.env = (do
      let ov ← eval o X.env
      standAt apos.atName
      let (f, first) ← holding [ov] (getMethod ov m pl)
      callWith pos f first (backTo pos (starEach (e :: es) X.env)) (backToKw pos (keywordEach [] X.env))) := by rfl) :
    PE X (.Call (.Attribute o m apos) (e :: es) [] pos) (tClsFn C sp dvs E ta t) := by
  refine ⟨fun pins s σ H Q I hyp => PySem.W.methodCall_KW (pl := pl) (thn (he.run pins s σ H _ I hyp) fun u s1 ⟨x, H1, I1, rx, isC, rest⟩ => ?_) tree⟩
  subst isC
  obtain rfl : u = Value.ref C := rx
  refine PySem.W.method_cls I1.kIn r.ga (PySem.W.cls_value I1.kIn r.rd found rfl ?_)
  have I2 := I1.tok (s1.toks + 1)
  exact PySem.W.callWith_K (first := []) (h₀ := X.base) I2.ok.mod.kin keep (thn (ha.run pos pins _ σ H1 _ I2 rest) fun us s3 ⟨vs, H3, I3, rv, fin⟩ => ⟨I3.kIn, run_fn F room binds rd pass I3 rv fin⟩) star plain
end

/-! ### values of any kind -/
/-- of a built-in kind, what it holds left open -/
def Kd (H : Hp) : V → Prop
  | .non | .bl _ | .int _ | .str _ => True
  | .ref a => (∃ xs, H a = some (.tup xs)) ∨ (∃ xs, H a = some (.lst xs)) ∨ ∃ kvs, H a = some (.dK kvs)
  | _ => False
theorem Kd.keep {H H' : Hp} {x : V} (h : Kd H x) (k : ∀ a o, x = .ref a → H a = some o → H' a = some o) : Kd H' x := by
  cases x with
  | ref a =>
    rcases h with ⟨xs, h⟩ | ⟨xs, h⟩ | ⟨kvs, h⟩
    · exact .inl ⟨xs, k a _ rfl h⟩
    · exact .inr (.inl ⟨xs, k a _ rfl h⟩)
    · exact .inr (.inr ⟨kvs, k a _ rfl h⟩)
  | _ => exact h
def isIntV : V → Bool
  | .int _ => true
  | .bl _ => true
  | _ => false
def isBlV : V → Bool
  | .bl _ => true
  | _ => false
theorem Kd.isInt {K : PySem.W.Frag} {H : Hp} {x : V} (h : Kd H x) : ∃ t, TyX K H x t ∧ PySem.W.kitOne K t (.type "int") = some (isIntV x) ∧ PySem.W.kitOne K t (.type "bool") = some (isBlV x) := by
  cases x with
  | non => exact ⟨_, .base .non, kit_ty (show kitB "NoneType" "int" = some false by decide +kernel), kit_ty (show kitB "NoneType" "bool" = some false by decide +kernel)⟩
  | bl b => exact ⟨_, .base (.bl b), kit_ty (show kitB "bool" "int" = some true by decide +kernel), kit_ty (show kitB "bool" "bool" = some true by decide +kernel)⟩
  | int i => exact ⟨_, .base (.int i), kit_ty (show kitB "int" "int" = some true by decide +kernel), kit_ty (show kitB "int" "bool" = some false by decide +kernel)⟩
  | str z => exact ⟨_, .base (.str z), kit_ty (show kitB "str" "int" = some false by decide +kernel), kit_ty (show kitB "str" "bool" = some false by decide +kernel)⟩
  | ref a =>
    rcases h with ⟨xs, h⟩ | ⟨xs, h⟩ | ⟨kvs, h⟩
    · exact ⟨_, .base (.tup h), kit_ty (show kitB "tuple" "int" = some false by decide +kernel), kit_ty (show kitB "tuple" "bool" = some false by decide +kernel)⟩
    · exact ⟨_, .base (.lst h), kit_ty (show kitB "list" "int" = some false by decide +kernel), kit_ty (show kitB "list" "bool" = some false by decide +kernel)⟩
    · exact ⟨_, .base (.dK h), kit_ty (show kitB "dict" "int" = some false by decide +kernel), kit_ty (show kitB "dict" "bool" = some false by decide +kernel)⟩
  | byt _ => exact h.elim
  | flt _ => exact h.elim
  | ty _ => exact h.elim
/-- an int (no bool) within bounds -/
def numV (lo hi : Int) : V → Bool
  | .int i => decide (lo ≤ i) && decide (i ≤ hi)
  | _ => false
theorem numV_is {lo hi : Int} {x : V} (h : numV lo hi x = true) : ∃ i, x = .int i ∧ lo ≤ i ∧ i ≤ hi := by
  cases x with
  | int i =>
    obtain ⟨a, b⟩ := Bool.and_eq_true_iff.mp h
    exact ⟨i, rfl, of_decide_eq_true a, of_decide_eq_true b⟩
  | _ => exact absurd (show false = true from h) Bool.false_ne_true
theorem small_log {m : Int} (h0 : 0 < m) (h1 : m ≤ 10 ^ 40) : m.natAbs.log2 < 9000 := by
  have h2 : m.natAbs < 2 ^ 9000 := Nat.lt_of_le_of_lt (show m.natAbs ≤ 10 ^ 40 by omega) (by decide +kernel)
  exact (Nat.log2_lt (by omega)).mpr h2

/-! ### data -/
theorem dp_ints {K : PySem.W.Frag} {H : Hp} : ∀ ns : List Int, DpAll K H (ns.map V.int) (ns.map PyData.int)
  | [] => .nil
  | n :: ns => .cons (.int n) (dp_ints ns)
theorem lay_ints : ∀ ns : List Int, PyData.canLayAll0 (ns.map PyData.int) = true
  | [] => by simp only [List.map_nil, PyData.canLayAll0]
  | n :: ns => by
    have ih := lay_ints ns
    simp only [List.map_cons, PyData.canLayAll0, PyData.canLay0, ih, Bool.and_self]
theorem depth_ints : ∀ ns : List Int, PyData.depthAll (ns.map PyData.int) ≤ 1
  | [] => by simp only [List.map_nil, PyData.depthAll]; omega
  | n :: ns => by
    have ih := depth_ints ns
    simp only [List.map_cons, PyData.depthAll, PyData.depth]
    omega
theorem shaped_ints (ns : List Int) : SeqAt.shaped (.list (ns.map PyData.int)) = true := by
  have h1 := depth_ints ns
  have h2 : PyData.depth (.list (ns.map PyData.int)) ≤ 64 := by
    simp only [PyData.depth]
    omega
  show (PyData.canLay0 (.list (ns.map PyData.int)) && decide (PyData.depth (.list (ns.map PyData.int)) ≤ 64)) = true
  rw [Bool.and_eq_true]
  exact ⟨by simp only [PyData.canLay0]; exact lay_ints ns, decide_eq_true h2⟩
theorem at_mod {xs : List V} (i : Int) (h : 0 < xs.length) : ∃ x, x ∈ xs ∧ atI xs (i % (xs.length : Int)) = some x := by
  have hp := mod_place (i := i) h
  have e : xs[(i % (xs.length : Int)).toNat]? = some xs[(i % (xs.length : Int)).toNat] := List.getElem?_eq_getElem hp.1
  refine ⟨_, List.getElem_mem hp.1, ?_⟩
  have z := atI_nat e
  rw [hp.2] at z
  exact z
theorem at_in {xs : List V} {i : Int} (h0 : 0 ≤ i) (h1 : i < xs.length) : ∃ x, x ∈ xs ∧ atI xs i = some x := by
  have hn : i.toNat < xs.length := by omega
  have e : xs[i.toNat]? = some xs[i.toNat] := List.getElem?_eq_getElem hn
  refine ⟨_, List.getElem_mem hn, ?_⟩
  have z := atI_nat e
  rw [show ((i.toNat : Nat) : Int) = i by omega] at z
  exact z
end Fz

set_option Elab.async false
set_option linter.all false
set_option maxRecDepth 100000
set_option maxHeartbeats 4000000
/-! Own layer, sixth part: the text of a list of numbers is short. -/
namespace Fz
open PySem PySem.Spec PyProof.Rows L2
section
variable {X : Cx} {e : Expr} {t : TE}
/-- a reading, closed -/
structure Box (t : TE) (σ : L2.St) (H : Hp) (Q : VK) : Prop where
  open_ : t σ H Q
theorem pe_box (h : PE X e t) : PE X e (Box t) := ⟨fun pins s σ H Q I h' => h.run pins s σ H Q I h'.open_⟩
/-- a reading may be asked for less -/
def tWeak (t : TE) : TE := fun σ H Q => ∃ Q' : VK, t σ H Q' ∧ ∀ x H', Q' x H' → Q x H'
theorem pe_weak (h : PE X e t) : PE X e (tWeak t) :=
  ⟨fun pins s σ H Q I ⟨Q', h', k⟩ => wpAny_mono (h.run pins s σ H Q' I h') (fun _ _ ⟨x, H1, I1, r, q⟩ => ⟨x, H1, I1, r, k _ _ q⟩) fun _ _ z => z⟩
end
/-- the rule for a def of the law that may ask for repr -/
theorem funG {P : Program} {w : World} {K : PySem.W.Frag} {mg : Str → Option Value} {base : Heap} {x qual : Str} {st : Stmt} {f : Addr} {fd : FuncData} {N ps : List Str} {k : Nat} {sp : Sp} (F : Fun K x qual st f fd) (S : FnScope N ps (defScope st)) (len : ∀ vs H Q E, sp vs H Q E → vs.length = ps.length)
    (walk : ∀ (cdv : Value) (A : Around) (outer : List Env) (s : Shared) (H : Hp) (vs : List V) (Q : VK) (E : XK), fd.code = cdv → Room k (A.deeper (envOfC qual (defScope st) s.heap.objs.size f cdv)) → A.guards = some [] → sp vs H Q E →
      ∃ t, PSs (cxOf CX0 P w K mg base N qual (defScope st) f cdv A outer s H E).nox (defBody st) t ∧ t { nx := fun _ H' => Q .non H', rt := Q } (start N vs) H) : FnG P w K mg base CX0 (k + 1) f fd ps sp := by
  obtain ⟨oc, od, kV, doc, pm, an, cdv, ct, osl, rfl, lk, code⟩ := F.ex
  refine fnG_of lk code S len fun A outer s H vs Q E room clear h => ?_
  obtain ⟨t, ht, hq⟩ := walk cdv A outer s H vs Q E rfl room clear h
  exact ⟨t, ht.nox, hq⟩
theorem textFrom_most (m : Nat) : ∀ (ts : List Str) (k : Nat) (acc : Str), (∀ t ∈ ts, t.length ≤ m) → (textFrom k acc ts).length ≤ acc.length + ts.length * (m + 2)
  | [], k, acc, _ => by
    show acc.length ≤ _
    omega
  | t :: r, k, acc, h => by
    have ih := textFrom_most m r (k + 1) (acc ++ (if k > 0 then ", " else "" : String) ++ t) fun u hu => h u (List.mem_cons_of_mem _ hu)
    have ht := h t List.mem_cons_self
    have e : (acc ++ (if k > 0 then ", " else "" : String) ++ t).length ≤ acc.length + 2 + t.length := by
      rw [strLen_append, strLen_append]
      split
      · have z : (Str.ofString ", ").length = 2 := by decide +kernel
        show acc.length + (Str.ofString ", ").length + t.length ≤ _
        omega
      · have z : (Str.ofString "").length = 0 := by decide +kernel
        show acc.length + (Str.ofString "").length + t.length ≤ _
        omega
    show (textFrom (k + 1) _ r).length ≤ _
    have l : (t :: r).length = r.length + 1 := rfl
    rw [l, Nat.add_mul]
    omega
theorem shown_int_short {n : Int} (h0 : 0 ≤ n) (h1 : n < 10 ^ 10) : (PyData.shown (.int n)).length ≤ 10 := by
  rw [PyData.shown]
  exact toString_length_le h0 (by decide) h1
theorem shownAll_ints : ∀ ns : List Int, PyData.shownAll (ns.map PyData.int) = ns.map fun n => PyData.shown (.int n)
  | [] => by simp only [List.map_nil, PyData.shownAll]
  | n :: ns => by
    have ih := shownAll_ints ns
    simp only [List.map_cons, PyData.shownAll, ih]
theorem text_ints {ns : List Int} (h : ∀ n ∈ ns, 0 ≤ n ∧ n < 10 ^ 10) (l : ns.length ≤ 1000) : (PyData.shown (.list (ns.map PyData.int))).length ≤ sizeLine := by
  rw [PyData.shown, shownAll_ints]
  have z := textFrom_most 10 (ns.map fun n => PyData.shown (.int n)) 0 "[" fun t ht => by
    obtain ⟨n, hn, e⟩ := List.mem_map.mp ht
    rw [← e]
    exact shown_int_short (h n hn).1 (h n hn).2
  rw [List.length_map] at z
  have z1 : (Str.ofString "[").length = 1 := by decide +kernel
  have z2 : (Str.ofString "]").length = 1 := by decide +kernel
  have z3 : (textFrom 0 "[" (ns.map fun n => PyData.shown (.int n))).length ≤ 1 + ns.length * 12 := by
    rw [← z1]
    exact z
  show (textFrom 0 "[" _ ++ Str.ofString "]").length ≤ sizeLine
  rw [strLen_append]
  show _ ≤ 16777216
  omega
theorem showable_ints : ∀ {ns : List Int}, (∀ n ∈ ns, 0 ≤ n ∧ n < 10 ^ 10) → PyData.showableAll (ns.map PyData.int) = true
  | [], _ => by simp only [List.map_nil, PyData.showableAll]
  | n :: ns, h => by
    have ih := showable_ints (ns := ns) fun m hm => h m (List.mem_cons_of_mem _ hm)
    obtain ⟨h0, h1⟩ := h n List.mem_cons_self
    have z : n.natAbs.log2 < 1920 := by
      have h2 : n.natAbs < 2 ^ 1920 := Nat.lt_of_lt_of_le (show n.natAbs < 10 ^ 10 by omega) (by decide +kernel)
      by_cases e : n.natAbs = 0
      · rw [e]
        decide +kernel
      · exact (Nat.log2_lt e).mpr h2
    simp only [List.map_cons, PyData.showableAll, PyData.showable, ih, decide_eq_true z, Bool.and_self]
theorem noDict_ints : ∀ ns : List Int, PyData.hasDictAll (ns.map PyData.int) = false
  | [] => by simp only [List.map_nil, PyData.hasDictAll]
  | n :: ns => by
    have ih := noDict_ints ns
    simp only [List.map_cons, PyData.hasDictAll, PyData.hasDict, ih, Bool.or_self]
/-- repr of a list of numbers, in the words that call_repD asks for -/
theorem rep_ints {K : PySem.W.Frag} {H : Hp} {Q : VK} {l : Addr} {ns : List Int} (hl : H l = some (.lst (ns.map V.int))) (h : ∀ n ∈ ns, 0 ≤ n ∧ n < 10 ^ 10) (few : ns.length ≤ 1000) (fin : Q (.str (PyData.shown (.list (ns.map PyData.int)))) H) : rRepD K [.ref l] H Q := by
  refine ⟨⟨l, _, rfl, Dp.lst (SqL.of hl) (dp_ints ns), ?_, ?_, ?_, text_ints h few, fin⟩⟩
  · rw [PyData.showable]
    exact showable_ints h
  · rw [PyData.hasDict]
    exact noDict_ints ns
  · have z := depth_ints ns
    rw [PyData.depth]
    omega
end Fz

set_option Elab.async false
set_option linter.all false
set_option maxRecDepth 100000
set_option maxHeartbeats 2000000
/-! Own layer, seventh part: the words of the laws on rules: the pen, numbers, errors, rules, what is heard. -/
namespace Fz
open PySem PySem.Spec PyProof.Rows L2
/-- at p: the pen, of which at most n draws were made -/
def PenAt (n : Nat) (H : Hp) (p q : Addr) : Prop := ∃ (ns : List Int) (spot great : Int), H p = some (.lst [.ref q, .int spot, .int great]) ∧ H q = some (.lst (ns.map V.int)) ∧ q ≠ p ∧ ns.length ≤ 63 ∧ 0 ≤ spot ∧ spot ≤ n
/-- all but what stands at p is as it was -/
def Mv (p : Addr) (H H' : Hp) : Prop := ∀ b o, b ≠ p → H b = some o → H' b = some o
theorem Mv.refl (p : Addr) (H : Hp) : Mv p H H := fun _ _ _ z => z
theorem Mv.trans {p : Addr} {H H1 H2 : Hp} (a : Mv p H H1) (b : Mv p H1 H2) : Mv p H H2 := fun c o n z => b c o n (a c o n z)
theorem Mv.new {p l : Addr} {H : Hp} {o : HO} (h : H l = none) : Mv p H (upd H l o) := fun b u _ z => by
  rw [upd_ne (ne_of_none z h)]
  exact z
theorem Mv.here {p : Addr} {H : Hp} {o : HO} : Mv p H (upd H p o) := fun b u n z => by
  rw [upd_ne n]
  exact z
theorem PenAt.ne {n : Nat} {H : Hp} {p q : Addr} (h : PenAt n H p q) : q ≠ p := let ⟨_, _, _, _, _, z, _⟩ := h; z
theorem PenAt.there {n : Nat} {H : Hp} {p q : Addr} (h : PenAt n H p q) : H p ≠ none ∧ H q ≠ none := by
  obtain ⟨_, _, _, a, b, _⟩ := h
  exact ⟨fun z => (by rw [a] at z; cases z), fun z => (by rw [b] at z; cases z)⟩
theorem PenAt.fresh {n : Nat} {H : Hp} {p q l : Addr} (h : PenAt n H p q) (hl : H l = none) : l ≠ p ∧ l ≠ q := by
  obtain ⟨a, b⟩ := h.there
  exact ⟨fun z => a (z ▸ hl), fun z => b (z ▸ hl)⟩
theorem PenAt.keep {n m : Nat} {H H' : Hp} {p q : Addr} (h : PenAt n H p q) (le : n ≤ m) (kp : H' p = H p) (kq : H' q = H q) : PenAt m H' p q := by
  obtain ⟨ns, spot, great, a, b, c, d, e, f⟩ := h
  exact ⟨ns, spot, great, by rw [kp]; exact a, by rw [kq]; exact b, c, d, e, by omega⟩
theorem PenAt.put {n : Nat} {H : Hp} {p q l : Addr} {o : HO} (h : PenAt n H p q) (hp : l ≠ p) (hq : l ≠ q) : PenAt n (upd H l o) p q := h.keep (Nat.le_refl _) (upd_ne (Ne.symm hp)) (upd_ne (Ne.symm hq))
theorem PenAt.new {n : Nat} {H : Hp} {p q l : Addr} {o : HO} (h : PenAt n H p q) (hl : H l = none) : PenAt n (upd H l o) p q := h.put (h.fresh hl).1 (h.fresh hl).2
theorem PenAt.same {n : Nat} {H H' : Hp} {p q : Addr} (h : PenAt n H p q) (s : Same H H') : PenAt n H' p q := by
  obtain ⟨ns, spot, great, a, b, c⟩ := h
  exact ⟨ns, spot, great, s _ _ a, s _ _ b, c⟩
theorem PenAt.more {n m : Nat} {H : Hp} {p q : Addr} (h : PenAt n H p q) (le : n ≤ m) : PenAt m H p q := h.keep le rfl rfl
theorem PenAt.lst {n : Nat} {H : Hp} {p q : Addr} (h : PenAt n H p q) : ∃ xs, H p = some (.lst xs) := by
  obtain ⟨_, _, _, a, _⟩ := h
  exact ⟨_, a⟩
theorem PenAt.ext {n : Nat} {H H' : Hp} {p q : Addr} (h : PenAt n H p q) (s : LamX.ExtN H H') : PenAt n H' p q := by
  obtain ⟨ns, spot, great, a, b, c⟩ := h
  exact ⟨ns, spot, great, s _ _ a (fun _ z => nomatch z), s _ _ b (fun _ z => nomatch z), c⟩
theorem PenAt.mv {n : Nat} {H H' : Hp} {p q r : Addr} (h : PenAt n H p q) (m : Mv r H H') (hp : r ≠ p) (hq : r ≠ q) : PenAt n H' p q := by
  obtain ⟨ns, spot, great, a, b, c⟩ := h
  exact ⟨ns, spot, great, m _ _ (Ne.symm hp) a, m _ _ (Ne.symm hq) b, c⟩
/-- the names that the laws mean as Python means them -/
structure Blt (mg : Str → Option Value) : Prop where
  z_int : mg "int" = none
  z_len : mg "len" = none
  z_abs : mg "abs" = none
  z_list : mg "list" = none
  z_range : mg "range" = none
  z_isinstance : mg "isinstance" = none
  z_repr : mg "repr" = none
  z_bool : mg "bool" = none
  z_tuple : mg "tuple" = none
  z_str : mg "str" = none
  z_max : mg "max" = none
  z_min : mg "min" = none
  z_dict : mg "dict" = none
  z_set : mg "set" = none
  z_sorted : mg "sorted" = none
  z_sum : mg "sum" = none
  z_all : mg "all" = none
  z_any : mg "any" = none
  z_zip : mg "zip" = none
  z_enumerate : mg "enumerate" = none
  z_reversed : mg "reversed" = none
def spPen (K : PySem.W.Frag) : Sp := fun vs H Q _ => ∃ (a : Addr) (ns : List Int), vs = [.ref a] ∧ SqL K H a (ns.map V.int) ∧ ns.length ≤ 63 ∧ ∀ H' p q, H p = none → H q = none → PenAt 0 H' p q → Same H H' → Q (.ref p) H'
def spDraw : Sp := fun vs H Q _ => ∃ (n : Nat) (p q : Addr) (m : Int), vs = [.ref p, .int m] ∧ PenAt n H p q ∧ n < 100000 ∧ 0 < m ∧ m.natAbs.log2 < 9000 ∧ ∀ H' r, PenAt (n + 1) H' p q → Mv p H H' → 0 ≤ r → r < m → Q (.int r) H'
def spPick (K : PySem.W.Frag) : Sp := fun vs H Q _ => ∃ (n : Nat) (p q l : Addr) (xs : List V), vs = [.ref p, .ref l] ∧ PenAt n H p q ∧ n < 100000 ∧ l ≠ p ∧ H l = some (.lst xs) ∧ 0 < xs.length ∧ xs.length ≤ 1000 ∧ ∀ H' x, PenAt (n + 1) H' p q → Mv p H H' → x ∈ xs → Q x H'
/-- the rank of a rule -/
def rankI (k a b c e : Int) : Int := (((k * 401 + a) * 401 + b) * 401 + c) * 401 + e
def spNum : Sp := fun vs H Q _ => ∃ (x : V) (lo hi : Int), vs = [x, .int lo, .int hi] ∧ Kd H x ∧ Q (.bl (numV lo hi x)) H
def spBadI (C : Addr) : Sp := fun vs H Q _ => ∃ (a : Addr) (v : V), vs = [.ref a, v] ∧ H a = some (exo a C none) ∧ ∀ d, H d = none → d ≠ a → Q .non (upd (upd H d (exd d [("part", v)])) a (exo a C (some d)))
/-- a BadRule of this part may leave -/
def Bad (C : Addr) (E : XK) (H : Hp) (z : Str) : Prop := ∀ d, H d = none → E (.ref C) (some d) (upd H d (.xd [("part", .str z)]))
def spRank : Sp := fun vs H Q _ => ∃ k a b c e : Int, vs = [.int k, .int a, .int b, .int c, .int e] ∧ 0 ≤ k ∧ k ≤ 1 ∧ 0 ≤ a ∧ a ≤ 400 ∧ 0 ≤ b ∧ b ≤ 400 ∧ 0 ≤ c ∧ c ≤ 400 ∧ 0 ≤ e ∧ e ≤ 400 ∧ ∀ H', Same H H' → Q (.int (rankI k a b c e)) H'
/-- the wrong one of rest and modulus -/
def dueR (r m : V) : Option Str := if numV 1 6 m = true then (match m with | .int i => if numV 0 (i - 1) r = true then none else some "rest" | _ => none) else some "modulus"
def spRested (CB C : Addr) : Sp := fun vs H Q E => ∃ (x dx : Addr) (fs : List (Str × V)) (r m : V), vs = [.ref x, r, m] ∧ H x = some (.ins C dx fs) ∧ fs.length < 900 ∧ Kd H r ∧ Kd H m ∧ (∀ z, dueR r m = some z → Bad CB E H z) ∧
  (dueR r m = none → Q .non (upd H x (.ins C dx (putF "modulus" m (putF "rest" r fs)))))
/-- the wrong one of size and leave -/
def dueS (s l : V) : Option Str := if numV 1 400 s = true then (if numV 0 400 l = true then none else some "leave") else some "size"
def spSized (CB C : Addr) : Sp := fun vs H Q E => ∃ (x dx : Addr) (fs : List (Str × V)) (s l : V), vs = [.ref x, s, l] ∧ H x = some (.ins C dx fs) ∧ fs.length < 900 ∧ Kd H s ∧ Kd H l ∧ (∀ z, dueS s l = some z → Bad CB E H z) ∧
  (dueS s l = none → Q .non (upd H x (.ins C dx (putF "leave" l (putF "size" s fs)))))
/-- the wrong one of the parts of a Down -/
def dueD (t r m : V) : Option Str := if numV 0 400 t = true then dueR r m else some "to"
def dfs (t r m k : Int) : List (Str × V) := putF "rank" (.int k) (putF "start" (.int (t + 1)) (putF "to" (.int t) (putF "modulus" (.int m) (putF "rest" (.int r) []))))
def spDown (CB CD : Addr) : Sp := fun vs H Q E => ∃ (x dx : Addr) (t r m : V), vs = [.ref x, t, r, m] ∧ H x = some (.ins CD dx []) ∧ Kd H t ∧ Kd H r ∧ Kd H m ∧ (∀ z, dueD t r m = some z → Bad CB E H z) ∧
  (∀ (ti ri mi : Int) (H' : Hp), t = .int ti → r = .int ri → m = .int mi → dueD t r m = none → Mv x H H' → H' x = some (.ins CD dx (dfs ti ri mi (rankI 1 ti mi ri 0))) → Q .non H')
/-- the wrong one of the parts of a Fixed -/
def dueF (s r m l : V) : Option Str := match dueS s l with
  | some z => some z
  | none => dueR r m
def ffs (s r m l k : Int) : List (Str × V) := putF "rank" (.int k) (putF "start" (.int (s + l)) (putF "modulus" (.int m) (putF "rest" (.int r) (putF "leave" (.int l) (putF "size" (.int s) [])))))
def spFixed (CB CF : Addr) : Sp := fun vs H Q E => ∃ (x dx : Addr) (s r m l : V), vs = [.ref x, s, r, m, l] ∧ H x = some (.ins CF dx []) ∧ Kd H s ∧ Kd H r ∧ Kd H m ∧ Kd H l ∧ (∀ z H', dueF s r m l = some z → Mv x H H' → Bad CB E H' z) ∧
  (∀ (si ri mi li : Int) (H' : Hp), s = .int si → r = .int ri → m = .int mi → l = .int li → dueF s r m l = none → Mv x H H' → H' x = some (.ins CF dx (ffs si ri mi li (rankI 0 si mi ri li))) → Q .non H')
/-- what the rules' makers ask of the module -/
structure PrgB (K : PySem.W.Frag) (mg : Str → Option Value) (CRl CB fB : Addr) : Prop where
  g_Rule : mg "Rule" = some (.ref CRl)
  g_BadRule : mg "BadRule" = some (.ref CB)
  rdRl : ClX.CRead K CRl (.type "type")
  most : ∃ u, ClX.CVal K CRl (.type "type") "MOST" (.int 400) u
  mostM : ∃ u, ClX.CVal K CRl (.type "type") "MOST_MODULUS" (.int 6) u
  oB : OexC K CB
  nPart : PySem.W.findIn K (.ref CB) "part" = some none
  iB : PySem.W.findIn K (.ref CB) "__init__" = some (some (.ref fB))
  tB : PySem.W.typeIn K (.ref fB) = some (.type "function")
/-- a class whose maker is called by name -/
structure BaseC (K : PySem.W.Frag) (C f : Addr) : Prop where
  rd : ClX.CRead K C (.type "type")
  fn : PySem.W.findCls K (.ref C) (.type "type") "__init__" = some (.val (.ref f))
/-- a class of rules -/
structure InsC (K : PySem.W.Frag) (C : Addr) : Prop where
  cl : Cls K C
  nTo : NoAttr K C "to"
  nSize : NoAttr K C "size"
  nLeave : NoAttr K C "leave"
  nRest : NoAttr K C "rest"
  nModulus : NoAttr K C "modulus"
  nStart : NoAttr K C "start"
  nRank : NoAttr K C "rank"
/-- isinstance may be asked of its objects -/
structure TyC (K : PySem.W.Frag) (C : Addr) : Prop where
  ga : PySem.W.findIn K (.ref C) "__class__" = some (some (.builtin "object.__class__"))
  gn : PySem.W.specialIn K (.builtin "object.__class__") "__get__" = some (some (.builtin "getset_descriptor.__get__"))
  gt : PySem.W.takesIn K (.builtin "object.__class__") = some true
  gm : PySem.W.mroIn K C (.type "object") = some true
theorem TyC.ty {K : PySem.W.Frag} {C x dx : Addr} {H : Hp} {fs : List (Str × V)} (t : TyC K C) (c : Cls K C) (h : H x = some (.ins C dx fs)) : TyX K H (.ref x) (.ref C) := .base (.ins h c t.ga t.gn t.gt t.gm)
theorem int_of_num {lo hi : Int} {x : V} (h : numV lo hi x = true) : ∃ i, x = .int i ∧ lo ≤ i ∧ i ≤ hi := numV_is h
theorem dueS_none {s l : V} (h : dueS s l = none) : ∃ si li : Int, s = .int si ∧ l = .int li ∧ 1 ≤ si ∧ si ≤ 400 ∧ 0 ≤ li ∧ li ≤ 400 := by
  unfold dueS at h
  split at h
  · rename_i e1
    split at h
    · rename_i e2
      obtain ⟨si, rfl, s0, s1⟩ := numV_is e1
      obtain ⟨li, rfl, l0, l1⟩ := numV_is e2
      exact ⟨si, li, rfl, rfl, s0, s1, l0, l1⟩
    · cases h
  · cases h
theorem dueR_none {r m : V} (h : dueR r m = none) : ∃ ri mi : Int, r = .int ri ∧ m = .int mi ∧ 0 ≤ ri ∧ ri ≤ mi - 1 ∧ 1 ≤ mi ∧ mi ≤ 6 := by
  unfold dueR at h
  split at h
  · rename_i e2
    obtain ⟨mi, rfl, m0, m1⟩ := numV_is e2
    have h' : (if numV 0 (mi - 1) r = true then none else some ("rest" : Str)) = none := h
    split at h'
    · rename_i e3
      obtain ⟨ri, rfl, r0, r1⟩ := numV_is e3
      exact ⟨ri, mi, rfl, rfl, r0, r1, m0, m1⟩
    · cases h'
  · cases h
theorem dueD_none {t r m : V} (h : dueD t r m = none) : ∃ ti ri mi : Int, t = .int ti ∧ r = .int ri ∧ m = .int mi ∧ 0 ≤ ti ∧ ti ≤ 400 ∧ 0 ≤ ri ∧ ri ≤ mi - 1 ∧ 1 ≤ mi ∧ mi ≤ 6 := by
  unfold dueD at h
  split at h
  · rename_i e1
    obtain ⟨ti, rfl, t0, t1⟩ := numV_is e1
    obtain ⟨ri, mi, rfl, rfl, z⟩ := dueR_none h
    exact ⟨ti, ri, mi, rfl, rfl, rfl, t0, t1, z⟩
  · cases h
theorem dueF_none {s r m l : V} (h : dueF s r m l = none) : ∃ si ri mi li : Int, s = .int si ∧ r = .int ri ∧ m = .int mi ∧ l = .int li ∧ 1 ≤ si ∧ si ≤ 400 ∧ 0 ≤ ri ∧ ri ≤ mi - 1 ∧ 1 ≤ mi ∧ mi ≤ 6 ∧ 0 ≤ li ∧ li ≤ 400 := by
  unfold dueF at h
  split at h
  · cases h
  · rename_i e
    obtain ⟨si, li, rfl, rfl, s0, s1, l0, l1⟩ := dueS_none e
    obtain ⟨ri, mi, rfl, rfl, r0, r1, m0, m1⟩ := dueR_none h
    exact ⟨si, ri, mi, li, rfl, rfl, rfl, rfl, s0, s1, r0, r1, m0, m1, l0, l1⟩
theorem numV_of {lo hi i : Int} (h0 : lo ≤ i) (h1 : i ≤ hi) : numV lo hi (.int i) = true := by
  show (decide (lo ≤ i) && decide (i ≤ hi)) = true
  rw [decide_eq_true h0, decide_eq_true h1] <;> rfl
theorem dueR_of {r m : Int} (r0 : 0 ≤ r) (r1 : r ≤ m - 1) (m0 : 1 ≤ m) (m1 : m ≤ 6) : dueR (.int r) (.int m) = none := by
  unfold dueR
  rw [numV_of m0 m1]
  show (if numV 0 (m - 1) (.int r) = true then none else some ("rest" : Str)) = none
  rw [numV_of r0 r1]
  rfl
theorem dueD_of {t r m : Int} (t0 : 0 ≤ t) (t1 : t ≤ 400) (r0 : 0 ≤ r) (r1 : r ≤ m - 1) (m0 : 1 ≤ m) (m1 : m ≤ 6) : dueD (.int t) (.int r) (.int m) = none := by
  unfold dueD
  rw [numV_of t0 t1, dueR_of r0 r1 m0 m1]
  rfl
theorem dueF_of {s r m l : Int} (s0 : 1 ≤ s) (s1 : s ≤ 400) (r0 : 0 ≤ r) (r1 : r ≤ m - 1) (m0 : 1 ≤ m) (m1 : m ≤ 6) (l0 : 0 ≤ l) (l1 : l ≤ 400) : dueF (.int s) (.int r) (.int m) (.int l) = none := by
  unfold dueF dueS
  rw [numV_of s0 s1, numV_of l0 l1, dueR_of r0 r1 m0 m1]
  rfl
/-- BadRule(z), raised -/
theorem bad_made {C : Addr} {E : XK} {W : WX} {σ : L2.St} {H : Hp} {z : Str} (h : Bad C E H z) (hW : ∀ cls d H', E cls d H' → W cls d σ H') : tMkO C (spBadI C) [] (tCons (tC (.str z)) tNil) σ H (fun cls d H' => W cls d σ H') := by
  refine ⟨(show 1 ≤ 1000 by decide), fun a ha => ⟨a, .str z, rfl, upd_same, fun d hd ne => ⟨rfl, d, _, upd_same, by rw [upd_ne ne, upd_same], by rw [upd_ne ne] at hd; exact hd, ?_⟩⟩⟩
  have hd0 : H d = none := by rw [upd_ne ne] at hd; exact hd
  have e : upd (del (upd (upd (upd H a (exo a C none)) d (exd d [("part", V.str z)])) a (exo a C (some d))) a) d (.xd [("part", V.str z)]) = upd H d (.xd [("part", V.str z)]) := by
    funext b
    by_cases hb : b = d
    · subst hb
      rw [upd_same, upd_same]
    · rw [upd_ne hb, upd_ne hb]
      by_cases hba : b = a
      · subst hba
        rw [del_same, ha]
      · rw [del_ne hba, upd_ne hba, upd_ne hb, upd_ne hba]
  show W (.ref C) (some d) σ (upd (del (upd (upd (upd H a (exo a C none)) d (exd d [("part", V.str z)])) a (exo a C (some d))) a) d (.xd [("part", V.str z)]))
  rw [e]
  exact hW _ _ _ (h d hd0)
/-- what the hearing of an act asks of the program -/
structure PrgE (K : PySem.W.Frag) (mg : Str → Option Value) (CB CF : Addr) : Prop where
  g_FreeError : mg "FreeError" = some (.ref CF)
  hit : PySem.W.exmOne K (.ref CB) (.ref CF) = some true
  exc : ExcC K CB
  xf : XfC K CB
  same : PySem.W.kitOne K (.ref CB) (.ref CB) = some true
/-- what the hearing makes of an act's reading -/
def TTh (CB : Addr) : (XK → Hp → VK → Prop) → Hp → VK → Prop := fun tl H Q => ∀ H1, Same H H1 →
  tl (fun cls d H' => cls = .ref CB ∧ ∃ (dd : Addr) (z : V), d = some dd ∧ H' dd = some (.xd [("part", z)]) ∧ ∀ H'' t, Same H' H'' → H'' t = some (.tup [.str "part", z]) → Q (.ref t) H'')
    H1 (fun x H' => ∀ H'' l, Same H' H'' → H'' l = some (.lst [x]) → Q (.ref l) H'')
/-- a value of a built-in kind, neither the pen nor l -/
def Good (p l : Addr) (H : Hp) (x : V) : Prop := Kd H x ∧ ∀ a, x = .ref a → a ≠ p ∧ a ≠ l
theorem Good.mv {p l : Addr} {H H' : Hp} {x : V} (h : Good p l H x) (m : Mv p H H') : Good p l H' x := ⟨h.1.keep fun a o e z => m a o (h.2 a e).1 z, h.2⟩
theorem Good.put {p l : Addr} {H : Hp} {x : V} {o : HO} (h : Good p l H x) : Good p l (upd H l o) x := ⟨h.1.keep fun a u e z => by rw [upd_ne (h.2 a e).2]; exact z, h.2⟩
theorem Good.int {p l : Addr} {H : Hp} (i : Int) : Good p l H (.int i) := ⟨True.intro, fun _ z => nomatch z⟩
theorem tabs_mv {T : List (Addr × Str)} {H H' : Hp} {p : Addr} {xs : List V} (hp : H p = some (.lst xs)) (m : Mv p H H') (t : LamX.Tabs T H) : LamX.Tabs T H' := fun b hb => by
  obtain ⟨ps, h1, h2, h3⟩ := t b hb
  refine ⟨ps, m _ _ (fun z => by rw [z, hp] at h1; cases h1) h1, h2, fun pos cv hc => ?_⟩
  obtain ⟨c, e1, e2⟩ := h3 pos cv hc
  exact ⟨c, e1, m _ _ (fun z => by rw [z, hp] at e2; cases e2) e2⟩
theorem Kd.ext {H H' : Hp} {x : V} (h : Kd H x) (s : LamX.ExtN H H') : Kd H' x := by
  cases x with
  | ref a =>
    rcases h with ⟨xs, h⟩ | ⟨xs, h⟩ | ⟨kvs, h⟩
    · exact .inl ⟨xs, s _ _ h fun _ z => nomatch z⟩
    · exact .inr (.inl ⟨xs, s _ _ h fun _ z => nomatch z⟩)
    · exact .inr (.inr ⟨kvs, s _ _ h fun _ z => nomatch z⟩)
  | _ => exact h
theorem made_same {H H' : Hp} {x dx C : Addr} (hx : H x = none) (hd : H dx = none) (m : Mv x (upd (upd H dx (.own x)) x (.ins C dx [])) H') : Same H H' := fun b o e => by
  have n1 := ne_of_none e hx
  have n2 := ne_of_none e hd
  exact m b o n1 (by rw [upd_ne n1, upd_ne n2]; exact e)
theorem extN_same {H H1 H2 : Hp} (a : LamX.ExtN H H1) (b : Same H1 H2) : LamX.ExtN H H2 := a.trans (.of b)
theorem Kd.put {H : Hp} {h : Addr} {xs ys : List V} {x : V} (k : Kd H x) (at_ : H h = some (.lst xs)) : Kd (upd H h (.lst ys)) x := by
  cases x with
  | ref a =>
    by_cases e : a = h
    · subst e
      exact .inr (.inl ⟨ys, upd_same⟩)
    · rcases k with ⟨zs, k⟩ | ⟨zs, k⟩ | ⟨zs, k⟩
      · exact .inl ⟨zs, by rw [upd_ne e]; exact k⟩
      · exact .inr (.inl ⟨zs, by rw [upd_ne e]; exact k⟩)
      · exact .inr (.inr ⟨zs, by rw [upd_ne e]; exact k⟩)
  | _ => exact k
theorem Same.new {H : Hp} {l : Addr} {o : HO} (h : H l = none) : Same H (upd H l o) := fun b u e => by
  rw [upd_ne (ne_of_none e h)]
  exact e
theorem Same.mv {H H' : Hp} (s : Same H H') (p : Addr) : Mv p H H' := fun b o _ e => s b o e
theorem Kd.same {H H' : Hp} {x : V} (h : Kd H x) (s : Same H H') : Kd H' x := h.keep fun a o _ e => s a o e
end Fz
set_option Elab.async false
set_option linter.all false
set_option maxRecDepth 100000
set_option maxHeartbeats 2000000
/-! Own layer, eighth part: rules made, and what is heard of their making. -/
namespace Fz
open PySem PySem.Spec PyProof.Rows L2
def toI : V → Int
  | .int i => i
  | _ => 0
/-- what a law hears of a making: the wrong part, or the object in a list -/
def Ans (C : Addr) (due : Option Str) (fs : Int → List (Str × V)) (H : Hp) (v : V) : Prop := (∃ (z : Str) (a : Addr), due = some z ∧ v = .ref a ∧ H a = some (.tup [.str "part", .str z])) ∨
  ∃ (a x dx : Addr) (k : Int), due = none ∧ v = .ref a ∧ H a = some (.lst [.ref x]) ∧ H x = some (.ins C dx (fs k))
section
variable {C CB : Addr} {due : Option Str} {fs : Int → List (Str × V)} {H H' : Hp} {v : V}
theorem Ans.ext (h : Ans C due fs H v) (s : LamX.ExtN H H') : Ans C due fs H' v := by
  rcases h with ⟨z, a, h1, h2, h3⟩ | ⟨a, x, dx, k, h1, h2, h3, h4⟩
  · exact .inl ⟨z, a, h1, h2, s _ _ h3 (fun _ z => nomatch z)⟩
  · exact .inr ⟨a, x, dx, k, h1, h2, s _ _ h3 (fun _ z => nomatch z), s _ _ h4 (fun _ z => nomatch z)⟩
theorem Ans.put {h : Addr} {a1 : V} {o : HO} {C' : Addr} {due' : Option Str} {fs' : Int → List (Str × V)} (k : Ans C due fs H v) (at_ : H h = some (.lst [a1])) (k1 : Ans C' due' fs' H a1) : Ans C due fs (upd H h o) v := by
  have no : ∀ {x C dx fs}, H x = some (.ins C dx fs) → a1 ≠ .ref x := fun {x C dx fs} hx e => by
    rcases k1 with ⟨_, b, _, e2, z⟩ | ⟨b, _, _, _, _, e2, z, _⟩ <;>
    · rw [e] at e2
      cases e2
      rw [hx] at z
      cases z
  rcases k with ⟨z, a, h1, h2, h3⟩ | ⟨a, x, dx, k, h1, h2, h3, h4⟩
  · exact .inl ⟨z, a, h1, h2, by rw [upd_ne (fun e => by rw [e, at_] at h3; cases h3)]; exact h3⟩
  · refine .inr ⟨a, x, dx, k, h1, h2, ?_, ?_⟩
    · rw [upd_ne (fun e => ?_)]
      · exact h3
      · rw [e, at_] at h3
        exact no h4 (List.cons.inj (HO.lst.inj (Option.some.inj h3))).1
    · rw [upd_ne (fun e => by rw [e, at_] at h4; cases h4)]
      exact h4
/-- what stands in the answer of a making -/
abbrev heardNx (Q : VK) : VK := fun x H' => ∀ H'' l, Same H' H'' → H'' l = some (.lst [x]) → Q (.ref l) H''
abbrev heardEx (CB : Addr) (Q : VK) : XK := fun cls d H' => cls = .ref CB ∧ ∃ (dd : Addr) (z : V), d = some dd ∧ H' dd = some (.xd [("part", z)]) ∧ ∀ H'' t, Same H' H'' → H'' t = some (.tup [.str "part", z]) → Q (.ref t) H''
end
section
variable {CD CB : Addr} {H : Hp} {Q : VK} {t r m z l : V} {x dx : Addr}
theorem up_made {C : Addr} (hx : H x = none) (hd : H dx = none) : Same H (upd (upd H dx (.own x)) x (.ins C dx [])) := fun b o e => by rw [upd_ne (ne_of_none e hx), upd_ne (ne_of_none e hd)]; exact e
theorem down_heard (kt : Kd H t) (kr : Kd H r) (km : Kd H m) (hQ : ∀ H' v, Same H H' → Ans CD (dueD t r m) (fun k => dfs (toI t) (toI r) (toI m) k) H' v → Q v H') (hx : H x = none) (hd : H dx = none) :
    spDown CB CD [.ref x, t, r, m] (upd (upd H dx (.own x)) x (.ins CD dx [])) (fun v H' => v = .non ∧ heardNx Q (.ref x) H') (heardEx CB Q) := by
  have up := up_made (C := CD) hx hd
  refine ⟨x, dx, t, r, m, rfl, upd_same, kt.same up, kr.same up, km.same up, fun z hz d hd2 => ⟨rfl, d, .str z, rfl, upd_same, fun H'' a s at_ => ?_⟩, fun ti ri mi H' e1 e2 e3 hz mv at_ => ⟨rfl, fun H'' a s at2 => ?_⟩⟩
  · exact hQ H'' _ (fun b o e => s b o (by rw [upd_ne (ne_of_none (up b o e) hd2)]; exact up b o e)) (.inl ⟨z, a, hz, rfl, at_⟩)
  · cases e1
    cases e2
    cases e3
    exact hQ H'' _ (fun b o e => s b o (made_same hx hd mv b o e)) (.inr ⟨a, x, dx, _, hz, rfl, at2, s _ _ at_⟩)
theorem down_made (kt : Kd H t) (kr : Kd H r) (km : Kd H m) (none_ : dueD t r m = none) {E : XK} (hx : H x = none) (hd : H dx = none)
    (hQ : ∀ H' k, Same H H' → H' x = some (.ins CD dx (dfs (toI t) (toI r) (toI m) k)) → Q (.ref x) H') :
    spDown CB CD [.ref x, t, r, m] (upd (upd H dx (.own x)) x (.ins CD dx [])) (fun v H' => v = .non ∧ Q (.ref x) H') E := by
  have up := up_made (C := CD) hx hd
  refine ⟨x, dx, t, r, m, rfl, upd_same, kt.same up, kr.same up, km.same up, fun z hz => ?_, fun ti ri mi H' e1 e2 e3 hz mv at_ => ⟨rfl, ?_⟩⟩
  · rw [none_] at hz
    cases hz
  · cases e1
    cases e2
    cases e3
    exact hQ H' _ (made_same hx hd mv) at_
theorem fixed_heard (kz : Kd H z) (kr : Kd H r) (km : Kd H m) (kl : Kd H l) (hQ : ∀ H' v, Same H H' → Ans CD (dueF z r m l) (fun k => ffs (toI z) (toI r) (toI m) (toI l) k) H' v → Q v H') (hx : H x = none) (hd : H dx = none) :
    spFixed CB CD [.ref x, z, r, m, l] (upd (upd H dx (.own x)) x (.ins CD dx [])) (fun v H' => v = .non ∧ heardNx Q (.ref x) H') (heardEx CB Q) := by
  have up := up_made (C := CD) hx hd
  refine ⟨x, dx, z, r, m, l, rfl, upd_same, kz.same up, kr.same up, km.same up, kl.same up, fun y H1 hy mv1 d hd2 => ⟨rfl, d, .str y, rfl, upd_same, fun H'' a s at_ => ?_⟩, fun ti ri mi li H' e1 e2 e3 e4 hz mv at_ => ⟨rfl, fun H'' a s at2 => ?_⟩⟩
  · have s1 := made_same hx hd mv1
    exact hQ H'' _ (fun b o e => s b o (by rw [upd_ne (ne_of_none (s1 b o e) hd2)]; exact s1 b o e)) (.inl ⟨y, a, hy, rfl, at_⟩)
  · cases e1
    cases e2
    cases e3
    cases e4
    exact hQ H'' _ (fun b o e => s b o (made_same hx hd mv b o e)) (.inr ⟨a, x, dx, _, hz, rfl, at2, s _ _ at_⟩)
theorem fixed_made (kz : Kd H z) (kr : Kd H r) (km : Kd H m) (kl : Kd H l) (none_ : dueF z r m l = none) {E : XK} (hx : H x = none) (hd : H dx = none)
    (hQ : ∀ H' k, Same H H' → H' x = some (.ins CD dx (ffs (toI z) (toI r) (toI m) (toI l) k)) → Q (.ref x) H') :
    spFixed CB CD [.ref x, z, r, m, l] (upd (upd H dx (.own x)) x (.ins CD dx [])) (fun v H' => v = .non ∧ Q (.ref x) H') E := by
  have up := up_made (C := CD) hx hd
  refine ⟨x, dx, z, r, m, l, rfl, upd_same, kz.same up, kr.same up, km.same up, kl.same up, fun y H1 hy => ?_, fun ti ri mi li H' e1 e2 e3 e4 hz mv at_ => ⟨rfl, ?_⟩⟩
  · rw [none_] at hy
    cases hy
  · cases e1
    cases e2
    cases e3
    cases e4
    exact hQ H' _ (made_same hx hd mv) at_
theorem dueD_some (h : dueD t r m = some x') : x' = ("to" : Str) ∨ x' = "modulus" ∨ x' = "rest" := by
  unfold dueD at h
  split at h
  · unfold dueR at h
    split at h
    · split at h
      · split at h
        · cases h
        · cases h
          exact .inr (.inr rfl)
      · cases h
    · cases h
      exact .inr (.inl rfl)
  · cases h
    exact .inl rfl
theorem dueF_some {y : Str} (h : dueF z r m l = some y) : y = "size" ∨ y = "leave" ∨ y = "modulus" ∨ y = "rest" := by
  unfold dueF at h
  split at h
  · rename_i e
    cases h
    unfold dueS at e
    split at e
    · split at e
      · cases e
      · cases e
        exact .inr (.inl rfl)
    · cases e
      exact .inl rfl
  · unfold dueR at h
    split at h
    · split at h
      · split at h
        · cases h
        · cases h
          exact .inr (.inr (.inr rfl))
      · cases h
    · cases h
      exact .inr (.inr (.inl rfl))
end
def partNames : List Str := ["to", "size", "leave", "modulus", "rest"]
theorem part_shaped : ∀ z ∈ partNames, SeqAt.shaped (.tuple [.str "part", .str z]) = true := by decide +kernel
end Fz

set_option Elab.async false
set_option linter.all false
set_option maxRecDepth 100000
set_option maxHeartbeats 2000000
/-! Own layer, ninth part: == and != of an instance by its class's own __eq__; str of an instance by its own __str__. -/
namespace Fz
open PySem PySem.Spec PyProof.Rows L2
section
variable {prog : Program} {w : World} {A : Around} {E : Value → Shared → Prop} {s : Shared} {K : PySem.W.Frag} {x C f : Addr} {ox : Obj} {od : Option Obj} {b tb : Value}
theorem bound_ne {M : Model} {args : List Value} {Q : Option Value → Shared → Prop} (X : K.In s.heap) (J : PySem.W.InstAt s.heap x ox C od) (slot : PySem.W.findIn K (.ref C) "__ne__" = some (some (.builtin "object.__ne__")))
    (called : wpAny M A (call (.builtin "object.__ne__") (.ref x :: args)) (fun v => Q (some v)) E s) : wpAny M A (callSpecialIfBound? (.ref x) "__ne__" args) Q E s := by
  simp only [callSpecialIfBound?, bindSpecialIfBound?]
  refine wpAny_holding <| wpAny_bind <| wpAny_bind <| wpAny_bind <| J.type.here <| (PySem.W.looks_findIn X slot).here ?_
  refine wpAny_bind <| wpAny_askSetting <| wpAny_ite ?_
  have end_ : wpAny M A (call (.builtin "object.__ne__") ([.ref x] ++ args) >>= fun v => pure (some v)) Q E s := wpAny_bind (wpAny_mono called (fun _ _ z => wpAny_pure z) fun _ _ z => z)
  split
  · exact wpAny_bind (wpAny_of_eq (F.cmp_object.ne.bind _) <| wpAny_pure (by exact end_))
  · exact wpAny_tryCatch (wpAny_bind (wpAny_of_eq (F.cmp_object.ne.bind _) <| wpAny_pure (by exact end_)))
theorem body_ne {Q : Fin → Shared → Prop} (room : A.units < cLine) (X : K.In s.heap) (J : PySem.W.InstAt s.heap x ox C od) (own : PySem.W.findIn K (.ref C) "__eq__" = some (some (.ref f))) (isF : PySem.W.isFn K (.ref f) = true)
    (called : wpAny (model prog w) A (call (.ref f) [.ref x, b]) (fun v s' => ∃ c, v = .bool c ∧ Q (.done (.ret (.bool (!c)))) s') E s) : wpAny (model prog w) A (Builtin.«object.__ne__» ⟨[.ref x, b], []⟩) Q E s := by
  unfold Builtin.«object.__ne__»
  repeat (first
    | with_reducible refine wpAny_cRoomFor room ?_
    | (refine wpAny_bind (m := callSpecialIfBound? (.ref x) (Str.ofString "__eq__") [b]) (PySem.W.ifBound_K X J own isF (wpAny_mono called (fun r s' z => by
          obtain ⟨c, rfl, q⟩ := z
          repeat (first | exact q | exact wpAny_pure q | exact wpAny_truthy_bool q | (refine wpAny_bind (m := truthy (.bool _)) (wpAny_truthy_bool ?_)) | wp_step)) fun _ _ z => z)))
    | wp_step)
theorem ne_own {Q : Value → Shared → Prop} (room : A.units + 1 < cLine) (X : K.In s.heap) (J : PySem.W.InstAt s.heap x ox C od) (isTb : PySem.W.Looks (model prog w) s.heap (typeOf b) tb) (first_ : PySem.W.notFirst K C tb = true)
    (slot : PySem.W.findIn K (.ref C) "__ne__" = some (some (.builtin "object.__ne__"))) (hm : PySem.W.mroIn K C (.type "object") = some true) (own : PySem.W.findIn K (.ref C) "__eq__" = some (some (.ref f))) (isF : PySem.W.isFn K (.ref f) = true)
    (called : wpAny (model prog w) A.in1 (call (.ref f) [.ref x, b]) (fun v s' => ∃ c, v = .bool c ∧ Q (.bool (!c)) s') E s) : wpAny (model prog w) A (richCompare .NotEq (.ref x) b) Q E s := by
  have one : wpAny (model prog w) A (tryCompare (.ref x) "__ne__" b) (fun r s' => ∃ v, r = some v ∧ Q v s') E s := by
    unfold tryCompare
    refine wpAny_bind <| bound_ne X J slot ?_
    refine wpAny_call <| codeAny_call_builtin F.cmp_object.ne.plain F.cmpEntry_ne <| PySem.W.check_slot F.cmpKind_ne F.cmpSplit_ne (J.type.andThen (PySem.W.looks_mroIn X hm)) (F.cmpArgs_ne _ _) ?_
    refine body_ne (A := A.in1) room X J own isF <| wpAny_mono called (fun v s' z => ?_) fun _ _ z => z
    obtain ⟨c, rfl, q⟩ := z
    exact ⟨c, rfl, wpAny_pure ⟨_, rfl, q⟩⟩
  unfold richCompare
  simp only [oneThing_ref]
  refine wpAny_holding <| wpAny_bind <| wpAny_cRoomFor (Nat.lt_of_succ_lt room) ?_
  rw [cmpInfo_NotEq]
  refine wpAny_bind <| J.type.here <| wpAny_bind <| isTb.here ?_
  split
  · rename_i q
    have below : PySem.W.subIn K tb (.ref C) = some false := by
      rcases Bool.or_eq_true_iff.mp first_ with z | z
      · rw [beq_iff_eq.mp z] at q
        simp at q
      · exact beq_iff_eq.mp z
    refine wpAny_bind <| (PySem.W.looks_subIn X below).here ?_
    simp only [Bool.false_eq_true, if_false]
    refine wpAny_bind <| wpAny_mono one (fun r s' z => ?_) fun _ _ z => z
    obtain ⟨v, rfl, q⟩ := z
    exact wpAny_pure q
  · refine wpAny_bind <| wpAny_pure ?_
    simp only [Bool.false_eq_true, if_false]
    refine wpAny_bind <| wpAny_mono one (fun r s' z => ?_) fun _ _ z => z
    obtain ⟨v, rfl, q⟩ := z
    exact wpAny_pure q
end
section
variable {X : Cx} {C f : Addr} {fd : FuncData} {ps : List Str} {sp : Sp} {k : Nat}
/-- x == y, x an instance of the class at C, whose def at f compares by sp -/
def rEqO (K : PySem.W.Frag) (C : Addr) (sp : Sp) : R2 := fun x y H Q => ∃ (a dx : Addr) (fs : List (Str × V)) (t : Value), x = .ref a ∧ H a = some (.ins C dx fs) ∧ TyX K H y t ∧ PySem.W.notFirst K C t = true ∧ sp [x, y] H Q E0
theorem op_eqO (own : PySem.W.findIn X.K (.ref C) "__eq__" = some (some (.ref f))) (isF : PySem.W.isFn X.K (.ref f) = true) (F : FnOk X.prog X.w X.K X.mg X.base CX0 k f fd ps sp) (binds : L2.Binds X.K fd ps []) (room : Room k X.A) : OpR X (compareOp .Eq) (rEqO X.K C sp) := by
  intro pins s σ H x y v u Q I rx ry h
  obtain ⟨a, dx, fs, t, rfl, ha, ty, nf, q⟩ := h
  cases (show v = Value.ref a from rx)
  obtain ⟨mA, O, _⟩ := ins_get I.hok ha
  obtain ⟨od, J, _⟩ := O.look
  obtain ⟨P, Z, p, _⟩ := kit_of I ry ty
  obtain ⟨m, hF⟩ := I.fr
  show wpAny _ _ (richCompare .Eq (.ref a) u) _ _ _
  refine PySem.W.cmp_K (op := .Eq) (tb := t) room.units0 hF I.ok.mod.kin J (Z.ty _ _ I.kIn p) nf own isF ?_
  refine wpAny_mono (run_fn (us := [.ref a, u]) (vs := [.ref a, y]) F room binds .nil pass0 I (.cons rfl (.cons ry .nil)) q) (fun w s' z => ?_) fun _ _ z => z
  obtain ⟨z', H', I', rz, qz⟩ := z
  exact SlX.cmpback rz ⟨z', H', I', rz, qz⟩
/-- x != y of the same -/
def rNeO (K : PySem.W.Frag) (C : Addr) (sp : Sp) : R2 := fun x y H Q => ∃ (a dx : Addr) (fs : List (Str × V)) (t : Value), x = .ref a ∧ H a = some (.ins C dx fs) ∧ TyX K H y t ∧ PySem.W.notFirst K C t = true ∧ sp [x, y] H (fun z H' => ∃ c, z = .bl c ∧ Q (.bl (!c)) H') E0
theorem op_neO (own : PySem.W.findIn X.K (.ref C) "__eq__" = some (some (.ref f))) (isF : PySem.W.isFn X.K (.ref f) = true) (slot : PySem.W.findIn X.K (.ref C) "__ne__" = some (some (.builtin "object.__ne__"))) (hm : PySem.W.mroIn X.K C (.type "object") = some true)
    (F : FnOk X.prog X.w X.K X.mg X.base CX0 k f fd ps sp) (binds : L2.Binds X.K fd ps []) (room : Room (k + 1) X.A) : OpR X (compareOp .NotEq) (rNeO X.K C sp) := by
  intro pins s σ H x y v u Q I rx ry h
  obtain ⟨a, dx, fs, t, rfl, ha, ty, nf, q⟩ := h
  cases (show v = Value.ref a from rx)
  obtain ⟨mA, O, _⟩ := ins_get I.hok ha
  obtain ⟨od, J, _⟩ := O.look
  obtain ⟨P, Z, p, _⟩ := kit_of I ry ty
  show wpAny _ _ (richCompare .NotEq (.ref a) u) _ _ _
  have r2 : Vals [V.ref a, y] [Value.ref a, u] := .cons rfl (.cons ry .nil)
  have many : ([Value.ref a, u] ++ ([] : List Value)).length = ps.length := r2.length.symm.trans (F.len _ _ _ _ q)
  refine ne_own (tb := t) (by have := room.units; omega) I.kIn J (Z.ty _ _ I.kIn p) nf slot hm own isF ?_
  refine wpAny_call (codeAny_mono (F.run X.A.in1 X.stack s H ⟨[.ref a, u], []⟩ ([.ref a, u] ++ []) [.ref a, y] _ E0 room.in1 I.env0.in1 (binds s [.ref a, u] I.kIn many) r2 q) fun res s' got => ?_)
  match res, got with
  | .error e, got => exact got.elim
  | .ok (.ret z), got =>
    obtain ⟨z', H', I', rz, c, rfl, qz⟩ := I.after got
    cases (show z = Value.bool c from rz)
    exact ⟨c, rfl, .bl (!c), H', I', rfl, qz⟩
  | .ok .next, got => exact got.elim
  | .ok .brk, got => exact got.elim
  | .ok .cont, got => exact got.elim
/-- str(x) of an instance -/
def rStrO (C : Addr) (sp : Sp) : List V → Hp → VK → Prop := fun vs H Q => ∃ (a dx : Addr) (fs : List (Str × V)), vs = [.ref a] ∧ H a = some (.ins C dx fs) ∧ sp [.ref a] H (fun z H' => ∃ t, z = .str t ∧ Q (.str t) H') E0
theorem call_strO (own : PySem.W.findIn X.K (.ref C) "__str__" = some (some (.ref f))) (isF : PySem.W.isFn X.K (.ref f) = true) (F : FnOk X.prog X.w X.K X.mg X.base CX0 k f fd ps sp) (binds : L2.Binds X.K fd ps []) (room : Room (k + 2) X.A) : CallR X (.type "str") (rStrO C sp) := by
  intro pins s σ H vs us Q I rvs h
  obtain ⟨a, dx, fs, rfl, ha, q⟩ := h
  obtain ⟨u, rfl, ru⟩ := vals1 rvs
  cases ru
  obtain ⟨mA, O, _⟩ := ins_get I.hok ha
  obtain ⟨od, J, _⟩ := O.look
  have r2 : Vals [V.ref a] [Value.ref a] := .cons rfl .nil
  have many : ([Value.ref a] ++ ([] : List Value)).length = ps.length := r2.length.symm.trans (F.len _ _ _ _ q)
  have room2 : Room k X.A.in1.in1 := (show Room (k + 1) X.A.in1 from Room.in1 room).in1
  refine PySem.W.kso_call (by have := room2.units; omega) I.kIn J own isF ?_
  refine wpAny_call (codeAny_mono (F.run X.A.in1.in1 X.stack s H ⟨[.ref a], []⟩ ([.ref a] ++ []) [.ref a] _ E0 room2 I.env0.in1.in1 (binds s [.ref a] I.kIn many) r2 q) fun res s' got => ?_)
  match res, got with
  | .error e, got => exact got.elim
  | .ok (.ret z), got =>
    obtain ⟨z', H', I', rz, t, rfl, qz⟩ := I.after got
    obtain ⟨tk, e⟩ := (show ∃ tk, z = Value.str t tk from rz)
    cases e
    exact ⟨.str t, H', I', ⟨tk, rfl⟩, qz⟩
  | .ok .next, got => exact got.elim
  | .ok .brk, got => exact got.elim
  | .ok .cont, got => exact got.elim
end
end Fz

set_option Elab.async false
set_option linter.all false
set_option maxRecDepth 100000
set_option maxHeartbeats 2000000
/-! Own layer, tenth part: rules as data. -/
namespace Fz
open PySem PySem.Spec PyProof.Rows L2
/-- a rule's numbers: size, rest, modulus, leave; or to, rest, modulus -/
inductive RD where
  | fixed (s r m l : Int)
  | down (t r m : Int)
deriving DecidableEq
def RD.isF : RD → Bool
  | .fixed _ _ _ _ => true
  | .down _ _ _ => false
def RD.num : RD → Int
  | .fixed s _ _ _ => s
  | .down t _ _ => t
def RD.rest : RD → Int
  | .fixed _ r _ _ => r
  | .down _ r _ => r
def RD.mod : RD → Int
  | .fixed _ _ m _ => m
  | .down _ _ m => m
def RD.leave : RD → Int
  | .fixed _ _ _ l => l
  | .down _ _ _ => 0
def RD.start : RD → Int
  | .fixed s _ _ l => s + l
  | .down t _ _ => t + 1
def RD.kind (d : RD) : Str := if d.isF = true then "fixed" else "down"
/-- its numbers are those of a rule -/
structure RD.Wf (d : RD) : Prop where
  n0 : (if d.isF = true then 1 else 0) ≤ d.num
  n1 : d.num ≤ 400
  r0 : 0 ≤ d.rest
  r1 : d.rest ≤ d.mod - 1
  m0 : 1 ≤ d.mod
  m1 : d.mod ≤ 6
  l0 : 0 ≤ d.leave
  l1 : d.leave ≤ 400
def RD.rank : RD → Int
  | .fixed s r m l => rankI 0 s m r l
  | .down t r m => rankI 1 t m r 0
def RD.fs : RD → List (Str × V)
  | .fixed s r m l => ffs s r m l (rankI 0 s m r l)
  | .down t r m => dfs t r m (rankI 1 t m r 0)
/-- a law's tuple of it -/
def RD.tup (d : RD) : List V := [.str d.kind, .int d.num, .int d.rest, .int d.mod, .int d.leave]
def RD.cls (CF CD : Addr) (d : RD) : Addr := if d.isF = true then CF else CD
/-- the rule stands at x -/
def RuleAt (CF CD : Addr) (H : Hp) (x : Addr) (d : RD) : Prop := ∃ dx, H x = some (.ins (d.cls CF CD) dx d.fs)
theorem RuleAt.same {CF CD : Addr} {H H' : Hp} {x : Addr} {d : RD} (h : RuleAt CF CD H x d) (s : Same H H') : RuleAt CF CD H' x d := h.imp fun _ z => s _ _ z
theorem RuleAt.mv {CF CD : Addr} {H H' : Hp} {p x : Addr} {d : RD} {n : Nat} {q : Addr} (h : RuleAt CF CD H x d) (pen : PenAt n H p q) (s : Mv p H H') : RuleAt CF CD H' x d := by
  obtain ⟨dx, z⟩ := h
  obtain ⟨xs, hp⟩ := pen.lst
  exact ⟨dx, s _ _ (fun e => by rw [e, hp] at z; cases z) z⟩
theorem RuleAt.ext {CF CD : Addr} {H H' : Hp} {x : Addr} {d : RD} (h : RuleAt CF CD H x d) (s : LamX.ExtN H H') : RuleAt CF CD H' x d := h.imp fun _ z => s _ _ z (fun _ z => nomatch z)
theorem rank_inj {d e : RD} (hd : d.Wf) (he : e.Wf) (same : d.isF = e.isF) (h : d.rank = e.rank) : d = e := by
  cases d with
  | fixed s r m l =>
    cases e with
    | fixed s' r' m' l' =>
      have a := hd.n0; have b := hd.n1; have c := hd.r0; have d1 := hd.r1; have e1 := hd.m0; have f := hd.m1; have g := hd.l0; have i := hd.l1
      have a' := he.n0; have b' := he.n1; have c' := he.r0; have d' := he.r1; have e' := he.m0; have f' := he.m1; have g' := he.l0; have i' := he.l1
      simp only [RD.isF, RD.num, RD.rest, RD.mod, RD.leave, if_true] at a b c d1 e1 f g i a' b' c' d' e' f' g' i'
      have h2 : (((0 * 401 + s) * 401 + m) * 401 + r) * 401 + l = (((0 * 401 + s') * 401 + m') * 401 + r') * 401 + l' := h
      have q1 : s = s' := by omega
      have q2 : m = m' := by omega
      have q3 : r = r' := by omega
      have q4 : l = l' := by omega
      rw [q1, q2, q3, q4]
    | down _ _ _ => cases same
  | down t r m =>
    cases e with
    | fixed _ _ _ _ => cases same
    | down t' r' m' =>
      have a := hd.n0; have b := hd.n1; have c := hd.r0; have d1 := hd.r1; have e1 := hd.m0; have f := hd.m1
      have a' := he.n0; have b' := he.n1; have c' := he.r0; have d' := he.r1; have e' := he.m0; have f' := he.m1
      simp only [RD.isF, RD.num, RD.rest, RD.mod, Bool.false_eq_true, if_false] at a b c d1 e1 f a' b' c' d' e' f'
      have h2 : (((1 * 401 + t) * 401 + m) * 401 + r) * 401 + 0 = (((1 * 401 + t') * 401 + m') * 401 + r') * 401 + 0 := h
      have q1 : t = t' := by omega
      have q2 : m = m' := by omega
      have q3 : r = r' := by omega
      rw [q1, q2, q3]
theorem rank_ne {d e : RD} (hd : d.Wf) (he : e.Wf) : (d.isF = e.isF ∧ d.rank = e.rank) ↔ d = e := ⟨fun h => rank_inj hd he h.1 h.2, fun h => by rw [h]; exact ⟨rfl, rfl⟩⟩
theorem fs_rank (d : RD) : d.fs.lookup ("rank" : Str) = some (V.int d.rank) := by cases d <;> rfl
theorem fs_start (d : RD) : d.fs.lookup ("start" : Str) = some (V.int d.start) := by cases d <;> rfl
theorem fs_rest (d : RD) : d.fs.lookup ("rest" : Str) = some (V.int d.rest) := by cases d <;> rfl
theorem fs_modulus (d : RD) : d.fs.lookup ("modulus" : Str) = some (V.int d.mod) := by cases d <;> rfl
section
variable {CF CD CB : Addr} {H : Hp} {Q : VK} {x dx : Addr} {E : XK}
theorem down_rule {t r m : Int} (wf : (RD.down t r m).Wf) (hx : H x = none) (hd : H dx = none) (hQ : ∀ H', Same H H' → RuleAt CF CD H' x (.down t r m) → Q (.ref x) H') :
    spDown CB CD [.ref x, .int t, .int r, .int m] (upd (upd H dx (.own x)) x (.ins CD dx [])) (fun v H' => v = .non ∧ Q (.ref x) H') E := by
  have a := wf.n0; have b := wf.n1; have c := wf.r0; have d := wf.r1; have e := wf.m0; have f := wf.m1
  have none_ : dueD (.int t) (.int r) (.int m) = none := dueD_of a b c d e f
  refine ⟨x, dx, _, _, _, rfl, upd_same, True.intro, True.intro, True.intro, fun z hz => ?_, fun ti ri mi H' e1 e2 e3 hz mv at_ => ⟨rfl, ?_⟩⟩
  · rw [none_] at hz
    cases hz
  · cases e1
    cases e2
    cases e3
    exact hQ H' (made_same hx hd mv) ⟨dx, at_⟩
theorem fixed_rule {s r m l : Int} (wf : (RD.fixed s r m l).Wf) (hx : H x = none) (hd : H dx = none) (hQ : ∀ H', Same H H' → RuleAt CF CD H' x (.fixed s r m l) → Q (.ref x) H') :
    spFixed CB CF [.ref x, .int s, .int r, .int m, .int l] (upd (upd H dx (.own x)) x (.ins CF dx [])) (fun v H' => v = .non ∧ Q (.ref x) H') E := by
  have a := wf.n0; have b := wf.n1; have c := wf.r0; have d := wf.r1; have e := wf.m0; have f := wf.m1; have g := wf.l0; have i := wf.l1
  have none_ : dueF (.int s) (.int r) (.int m) (.int l) = none := dueF_of a b c d e f g i
  refine ⟨x, dx, _, _, _, _, rfl, upd_same, True.intro, True.intro, True.intro, True.intro, fun z _ hz => ?_, fun si ri mi li H' e1 e2 e3 e4 hz mv at_ => ⟨rfl, ?_⟩⟩
  · rw [none_] at hz
    cases hz
  · cases e1
    cases e2
    cases e3
    cases e4
    exact hQ H' (made_same hx hd mv) ⟨dx, at_⟩
end
theorem isDown_down : decide ((V.str "down") = V.str "down") = true := by decide +kernel
theorem isDown_fixed : decide ((V.str "fixed") = V.str "down") = false := by decide +kernel
theorem isFixed_fixed : decide ((V.str "fixed") = V.str "fixed") = true := by decide +kernel
theorem isFixed_down : decide ((V.str "down") = V.str "fixed") = false := by decide +kernel
/-- == of rules of the class at C -/
def spEqR (K : PySem.W.Frag) (C : Addr) : Sp := fun vs H Q _ => ∃ (a dx : Addr) (fs : List (Str × V)) (k : Int) (y : V), vs = [.ref a, y] ∧ H a = some (.ins C dx fs) ∧ fs.lookup ("rank" : Str) = some (V.int k) ∧
  ((∃ (b dy : Addr) (gs : List (Str × V)) (j : Int), y = .ref b ∧ H b = some (.ins C dy gs) ∧ gs.lookup ("rank" : Str) = some (V.int j) ∧ Q (.bl (decide (k = j))) H) ∨ (∃ t, TyX K H y t ∧ PySem.W.kitOne K t (.ref C) = some false ∧ Q (.bl false) H))
def spParts : Sp := fun vs H Q _ => ∃ (n : Nat) (p q : Addr) (most : Int), vs = [.ref p, .int most] ∧ PenAt n H p q ∧ n < 99000 ∧ 1 ≤ most ∧ most ≤ 400 ∧
  ∀ H' tp d, PenAt (n + 6) H' p q → Mv p H H' → H tp = none → H' tp = some (.tup (RD.tup d)) → d.Wf → (d.isF = true → d.num ≤ most ∧ d.leave ≤ (if most ≤ 2 then 2 else most - 1)) → (d.isF = false → d.num < most) → Q (.ref tp) H'
def spRule (CF CD : Addr) : Sp := fun vs H Q _ => ∃ (tp : Addr) (d : RD), vs = [.ref tp] ∧ H tp = some (.tup d.tup) ∧ d.Wf ∧ ∀ H' x, Same H H' → H x = none → RuleAt CF CD H' x d → Q (.ref x) H'
theorem nf_ty {K : PySem.W.Frag} {C : Addr} {n : String} {l : List Value} (e : fastBuiltinMro n = some l) (h : l.contains (.ref C) = false) : PySem.W.notFirst K C (.type n) = true := by
  have z : PySem.W.subIn K (.type n) (.ref C) = some false := by
    show (fastBuiltinMro n).map (·.contains (.ref C)) = some false
    rw [e]
    exact congrArg some h
  unfold PySem.W.notFirst
  rw [z]
  simp
end Fz

set_option Elab.async false
set_option linter.all false
set_option maxRecDepth 100000
set_option maxHeartbeats 2000000
/-! Own layer, eleventh part: rules compared; methods called by keywords; two rules for one expression. -/
namespace Fz
open PySem PySem.Spec PyProof.Rows L2
section
variable {X : Cx} {e : Expr} {t t' : TE}
def tEither (t t' : TE) : TE := fun σ H Q => t σ H Q ∨ t' σ H Q
theorem pe_or (h : PE X e t) (h' : PE X e t') : PE X e (tEither t t') := ⟨fun pins s σ H Q I z => z.elim (h.run pins s σ H Q I) (h'.run pins s σ H Q I)⟩
def rEither (r r' : R2) : R2 := fun x y H Q => r x y H Q ∨ r' x y H Q
end
section
variable {X : Cx} {CX : CXT} {k : Nat} {C f : Addr} {fd : FuncData} {ps ks : List Str} {sp : Sp} {E : XK} {m : Str} {pos apos : Pos} {o : Expr} {kws : List Keyword} {ta : TE} {tk : TA} {g : List Value → List Value → List Value} {gV : List V → List V → List V}
/-- o.m(k = v, ..) -/
def tMethK (C : Addr) (m : Str) (n : Nat) (sp : Sp) (gV : List V → List V → List V) (E : XK) (ta : TE) (tk : TA) : TE := fun σ H Q => ta σ H fun x H1 => ∃ (a dx : Addr) (fs : List (Str × V)), x = .ref a ∧ H1 a = some (.ins C dx fs) ∧ fs.lookup m = none ∧
  tk σ H1 fun zs H2 => zs.length = n ∧ sp (gV [.ref a] zs) H2 Q E
theorem pe_methK0 {pl : Sem Bool} (he : PE X o ta) (c : Cls X.K C) (hm : Meth X.K C m f) (F : FnOk X.prog X.w X.K X.mg X.base CX k f fd ps sp) (room : Room k X.A) (binds : KBn X.K fd ps 1 ks g gV) (pass : Passes CX X E) (hkw : PK X kws tk)
    (named : (backToKw pos (keywordEach kws X.env)).all (·.1.isSome) = true := by rfl) (names : (backToKw pos (keywordEach kws X.env)).filterMap (·.1) = ks := by rfl)
    (plain : ((backTo pos (starEach [] X.env)).any (·.1) || (backToKw pos (keywordEach kws X.env)).any (·.1.isNone)) = false := by rfl)
    (tree : eval (.Call (.Attribute o m apos) [] kws pos) X.env = (do
      let ov ← eval o X.env
      standAt apos.atName
      let (f, first) ← holding [ov] (getMethod ov m pl)
      callWith pos f first (backTo pos (starEach [] X.env)) (backToKw pos (keywordEach kws X.env))) := by rfl) :
    PE X (.Call (.Attribute o m apos) [] kws pos) (tMethK C m ks.length sp gV E ta tk) := by
  refine ⟨fun pins s σ H Q I h => PySem.W.methodCall_KW (pl := pl) (thn (he.run pins s σ H _ I h) fun u s1 ⟨x, H1, I1, rx, a, dx, fs, ex, ea, l, q⟩ => ?_) tree⟩
  subst ex
  obtain rfl : u = Value.ref a := rx
  refine getmeth_ok I1 ea c hm l ?_
  refine PySem.W.callWith_KW0 (first := [.ref a]) (h₀ := X.base) I1.ok.mod.kin hm.kp named ?_ plain
  refine thn (hkw.run pos pins s1 σ H1 _ I1 q) fun ws s2 ⟨zs, H2, I2, rz, len, q2⟩ => ⟨I2.kIn, ?_⟩
  rw [names]
  refine wpAny_call (codeAny_mono (F.run X.A X.stack s2 H2 ⟨[.ref a], ks.zip ws⟩ (g [.ref a] ws) (gV [.ref a] zs) Q E room I2.env0 (binds.to s2 [.ref a] ws I2.kIn rfl (rz.length.symm.trans len)) (binds.rel (.cons rfl .nil) rz) q2) fun res s' got => ?_)
  match res, got with
  | .error err, got => exact pass pins σ H2 s2 err s' I2 got
  | .ok (.ret u), got => exact I2.after got
  | .ok .next, got => exact got.elim
  | .ok .brk, got => exact got.elim
  | .ok .cont, got => exact got.elim
end
/-- what the comparing of rules asks -/
structure PrgQ (K : PySem.W.Frag) (CF CD : Addr) : Prop where
  icF : InsC K CF
  icD : InsC K CD
  tyF : TyC K CF
  tyD : TyC K CD
  nFD : PySem.W.notFirst K CF (.ref CD) = true
  nDF : PySem.W.notFirst K CD (.ref CF) = true
  kFF : PySem.W.kitOne K (.ref CF) (.ref CF) = some true
  kFD : PySem.W.kitOne K (.ref CF) (.ref CD) = some false
  kDF : PySem.W.kitOne K (.ref CD) (.ref CF) = some false
  kDD : PySem.W.kitOne K (.ref CD) (.ref CD) = some true
  tF : PySem.W.typeIn K (.ref CF) = some (.type "type")
  tD : PySem.W.typeIn K (.ref CD) = some (.type "type")
/-- a value of a built-in type -/
def OtherV (K : PySem.W.Frag) (H : Hp) (y : V) : Prop := ∃ (n : String) (l : List Value), TyX K H y (.type n) ∧ fastBuiltinMro n = some l ∧ ∀ C, l.contains (.ref C) = false
theorem nf_self {K : PySem.W.Frag} {C : Addr} : PySem.W.notFirst K C (.ref C) = true := by
  unfold PySem.W.notFirst
  simp
theorem kit_other {K : PySem.W.Frag} {C : Addr} {n : String} {l : List Value} (hd : PySem.W.hasDictIn K C = true) (tC : PySem.W.typeIn K (.ref C) = some (.type "type")) (e : fastBuiltinMro n = some l) (h : l.contains (.ref C) = false) : PySem.W.kitOne K (.type n) (.ref C) = some false := by
  obtain ⟨cd, hc, _⟩ := PySem.W.any_some hd
  have z : PySem.W.subIn K (.type n) (.ref C) = some false := by
    show (fastBuiltinMro n).map (·.contains (.ref C)) = some false
    rw [e]
    exact congrArg some h
  have ne : (Value.type n == Value.ref C) = false := by simp
  have ok : ((PySem.W.clsIn K C).isSome && PySem.W.typeIn K (.ref C) == some (.type "type")) = true := by rw [hc, tC] <;> rfl
  unfold PySem.W.kitOne
  rw [ne, if_neg Bool.false_ne_true]
  show (if _ then PySem.W.subIn K (.type n) (.ref C) else none) = some false
  rw [if_pos ok]
  exact z
theorem other_non {K : PySem.W.Frag} {H : Hp} : OtherV K H .non := ⟨"NoneType", _, .base .non, rfl, fun C => rfl⟩
theorem other_bl {K : PySem.W.Frag} {H : Hp} (b : Bool) : OtherV K H (.bl b) := ⟨"bool", _, .base (.bl b), rfl, fun C => rfl⟩
theorem other_int {K : PySem.W.Frag} {H : Hp} (i : Int) : OtherV K H (.int i) := ⟨"int", _, .base (.int i), rfl, fun C => rfl⟩
theorem other_str {K : PySem.W.Frag} {H : Hp} (z : Str) : OtherV K H (.str z) := ⟨"str", _, .base (.str z), rfl, fun C => rfl⟩
theorem other_lst {K : PySem.W.Frag} {H : Hp} {a : Addr} {xs : List V} (h : H a = some (.lst xs)) : OtherV K H (.ref a) := ⟨"list", _, .base (.lst h), rfl, fun C => rfl⟩
theorem other_tup {K : PySem.W.Frag} {H : Hp} {a : Addr} {xs : List V} (h : H a = some (.tup xs)) : OtherV K H (.ref a) := ⟨"tuple", _, .base (.tup h), rfl, fun C => rfl⟩
theorem other_dK {K : PySem.W.Frag} {H : Hp} {a : Addr} {kvs : List (Key × V)} (h : H a = some (.dK kvs)) : OtherV K H (.ref a) := ⟨"dict", _, .base (.dK h), rfl, fun C => rfl⟩
theorem OtherV.same {K : PySem.W.Frag} {H H' : Hp} {y : V} (k : Kd H y) (s : Same H H') : OtherV K H' y := by
  cases y with
  | non => exact other_non
  | bl b => exact other_bl b
  | int i => exact other_int i
  | str z => exact other_str z
  | ref a =>
    rcases k with ⟨xs, h⟩ | ⟨xs, h⟩ | ⟨kvs, h⟩
    · exact other_tup (s _ _ h)
    · exact other_lst (s _ _ h)
    · exact other_dK (s _ _ h)
  | flt _ => exact k.elim
  | byt _ => exact k.elim
  | ty _ => exact k.elim
section
variable {K : PySem.W.Frag} {CF CD x y : Addr} {H : Hp} {Q : VK} {d e : RD}
theorem PrgQ.sp_rules (P : PrgQ K CF CD) {C : Addr} {dx dy : Addr} {fs gs : List (Str × V)} {k j : Int} (hx : H x = some (.ins C dx fs)) (rk : fs.lookup ("rank" : Str) = some (V.int k)) (hy : H y = some (.ins C dy gs)) (rj : gs.lookup ("rank" : Str) = some (V.int j)) (fin : Q (.bl (decide (k = j))) H) :
    spEqR K C [.ref x, .ref y] H Q E0 := ⟨x, dx, fs, k, _, rfl, hx, rk, .inl ⟨y, dy, gs, j, rfl, hy, rj, fin⟩⟩
theorem dec_rank (hd : d.Wf) (he : e.Wf) (same : d.isF = e.isF) : decide (d.rank = e.rank) = decide (d = e) := by
  by_cases z : d = e
  · rw [z, decide_eq_true rfl, decide_eq_true rfl]
  · rw [decide_eq_false z, decide_eq_false fun h => z (rank_inj hd he same h)]
theorem eq_rules (P : PrgQ K CF CD) (hx : RuleAt CF CD H x d) (hy : RuleAt CF CD H y e) (wd : d.Wf) (we : e.Wf) (fin : Q (.bl (decide (d = e))) H) : rEither (rEqO K CF (spEqR K CF)) (rEqO K CD (spEqR K CD)) (.ref x) (.ref y) H Q := by
  obtain ⟨dx, ax⟩ := hx
  obtain ⟨dy, ay⟩ := hy
  cases d with
  | fixed s r m l =>
    refine .inl ⟨x, dx, (RD.fixed s r m l).fs, ?_⟩
    cases e with
    | fixed s' r' m' l' =>
      refine ⟨_, rfl, ax, P.tyF.ty P.icF.cl ay, nf_self, P.sp_rules ax (fs_rank (.fixed s r m l)) ay (fs_rank (.fixed s' r' m' l')) ?_⟩
      rw [dec_rank wd we rfl]
      exact fin
    | down t' r' m' =>
      refine ⟨_, rfl, ax, P.tyD.ty P.icD.cl ay, P.nFD, x, dx, _, _, _, rfl, ax, fs_rank (.fixed s r m l), .inr ⟨_, P.tyD.ty P.icD.cl ay, P.kDF, ?_⟩⟩
      rw [decide_eq_false (fun z => nomatch z)] at fin
      exact fin
  | down t r m =>
    refine .inr ⟨x, dx, (RD.down t r m).fs, ?_⟩
    cases e with
    | down t' r' m' =>
      refine ⟨_, rfl, ax, P.tyD.ty P.icD.cl ay, nf_self, P.sp_rules ax (fs_rank (.down t r m)) ay (fs_rank (.down t' r' m')) ?_⟩
      rw [dec_rank wd we rfl]
      exact fin
    | fixed s' r' m' l' =>
      refine ⟨_, rfl, ax, P.tyF.ty P.icF.cl ay, P.nDF, x, dx, _, _, _, rfl, ax, fs_rank (.down t r m), .inr ⟨_, P.tyF.ty P.icF.cl ay, P.kFD, ?_⟩⟩
      rw [decide_eq_false (fun z => nomatch z)] at fin
      exact fin
theorem ne_rules (P : PrgQ K CF CD) (hx : RuleAt CF CD H x d) (hy : RuleAt CF CD H y e) (wd : d.Wf) (we : e.Wf) (fin : Q (.bl (!decide (d = e))) H) : rEither (rNeO K CF (spEqR K CF)) (rNeO K CD (spEqR K CD)) (.ref x) (.ref y) H Q := by
  rcases eq_rules (Q := fun z H' => ∃ c, z = .bl c ∧ Q (.bl (!c)) H') P hx hy wd we ⟨_, rfl, fin⟩ with h | h
  · exact .inl h
  · exact .inr h
theorem eq_other {z : V} (P : PrgQ K CF CD) (hx : RuleAt CF CD H x d) (o : OtherV K H z) (fin : Q (.bl false) H) : rEither (rEqO K CF (spEqR K CF)) (rEqO K CD (spEqR K CD)) (.ref x) z H Q := by
  obtain ⟨dx, ax⟩ := hx
  obtain ⟨n, l, ty, e, no⟩ := o
  cases d with
  | fixed s r m l => exact .inl ⟨x, dx, _, _, rfl, ax, ty, nf_ty e (no CF), x, dx, _, _, _, rfl, ax, fs_rank (.fixed s r m l), .inr ⟨_, ty, kit_other P.icF.cl.hd P.tF e (no CF), fin⟩⟩
  | down t r m => exact .inr ⟨x, dx, _, _, rfl, ax, ty, nf_ty e (no CD), x, dx, _, _, _, rfl, ax, fs_rank (.down t r m), .inr ⟨_, ty, kit_other P.icD.cl.hd P.tD e (no CD), fin⟩⟩
end
section
variable {X : Cx} {CF CD fF fD : Addr} {fdF fdD : FuncData} {ps : List Str}
/-- the == of rules as an operator -/
theorem op_eqR (oF : PySem.W.findIn X.K (.ref CF) "__eq__" = some (some (.ref fF))) (iF : PySem.W.isFn X.K (.ref fF) = true) (F : FnOk X.prog X.w X.K X.mg X.base CX0 1 fF fdF ps (spEqR X.K CF)) (bF : L2.Binds X.K fdF ps [])
    (oD : PySem.W.findIn X.K (.ref CD) "__eq__" = some (some (.ref fD))) (iD : PySem.W.isFn X.K (.ref fD) = true) (D : FnOk X.prog X.w X.K X.mg X.base CX0 1 fD fdD ps (spEqR X.K CD)) (bD : L2.Binds X.K fdD ps []) (room : Room 1 X.A) :
    OpR X (compareOp .Eq) (rEither (rEqO X.K CF (spEqR X.K CF)) (rEqO X.K CD (spEqR X.K CD))) := (op_eqO oF iF F bF room).or (op_eqO oD iD D bD room)
theorem op_neR (oF : PySem.W.findIn X.K (.ref CF) "__eq__" = some (some (.ref fF))) (iF : PySem.W.isFn X.K (.ref fF) = true) (sF : PySem.W.findIn X.K (.ref CF) "__ne__" = some (some (.builtin "object.__ne__"))) (mF : PySem.W.mroIn X.K CF (.type "object") = some true)
    (F : FnOk X.prog X.w X.K X.mg X.base CX0 1 fF fdF ps (spEqR X.K CF)) (bF : L2.Binds X.K fdF ps [])
    (oD : PySem.W.findIn X.K (.ref CD) "__eq__" = some (some (.ref fD))) (iD : PySem.W.isFn X.K (.ref fD) = true) (sD : PySem.W.findIn X.K (.ref CD) "__ne__" = some (some (.builtin "object.__ne__"))) (mD : PySem.W.mroIn X.K CD (.type "object") = some true)
    (D : FnOk X.prog X.w X.K X.mg X.base CX0 1 fD fdD ps (spEqR X.K CD)) (bD : L2.Binds X.K fdD ps []) (room : Room 2 X.A) :
    OpR X (compareOp .NotEq) (rEither (rNeO X.K CF (spEqR X.K CF)) (rNeO X.K CD (spEqR X.K CD))) := (op_neO oF iF sF mF F bF room).or (op_neO oD iD sD mD D bD room)
end
/-! ### the texts of rules -/
def restT (r m : Int) : Str := if m = 1 then "" else (((Str.empty ++ (" rest " : Str)) ++ (toString r : Str)) ++ (" of " : Str)) ++ (toString m : Str)
def leaveT (l : Int) : Str := if l = 0 then "" else (Str.empty ++ (" leave " : Str)) ++ (toString l : Str)
def RD.text : RD → Str
  | .fixed s r m l => (((Str.empty ++ ("fixed " : Str)) ++ (toString s : Str)) ++ restT r m) ++ leaveT l
  | .down t r m => ((Str.empty ++ ("down " : Str)) ++ (toString t : Str)) ++ restT r m
theorem num_short {n : Int} (h0 : 0 ≤ n) (h1 : n ≤ 400) : (toString n : Str).length ≤ 10 := toString_length_le h0 (by decide) (by omega)
theorem restT_short {r m : Int} (r0 : 0 ≤ r) (r1 : r ≤ 400) (m0 : 0 ≤ m) (m1 : m ≤ 400) : (restT r m).length ≤ 40 := by
  unfold restT
  split
  · show (Str.ofString "").length ≤ 40
    decide +kernel
  · have a := num_short r0 r1
    have b := num_short m0 m1
    have c : (Str.empty ++ (" rest " : Str)).length = 6 := by decide +kernel
    have d : (" of " : Str).length = 4 := by decide +kernel
    rw [strLen_append, strLen_append, strLen_append, c, d]
    omega
theorem leaveT_short {l : Int} (l0 : 0 ≤ l) (l1 : l ≤ 400) : (leaveT l).length ≤ 40 := by
  unfold leaveT
  split
  · show (Str.ofString "").length ≤ 40
    decide +kernel
  · have a := num_short l0 l1
    have c : (Str.empty ++ (" leave " : Str)).length = 7 := by decide +kernel
    rw [strLen_append, c]
    omega
theorem num_log {n : Int} (h0 : 0 ≤ n) (h1 : n ≤ 400) : n.natAbs.log2 < 1920 := by
  by_cases e : n.natAbs = 0
  · rw [e]
    decide +kernel
  · exact (Nat.log2_lt e).mpr (Nat.lt_of_le_of_lt (show n.natAbs ≤ 400 by omega) (by decide +kernel))
/-- rest_text(rule), leave_text(rule), str(rule) -/
def spRestT (C : Addr) : Sp := fun vs H Q _ => ∃ (x dx : Addr) (fs : List (Str × V)) (r m : Int), vs = [.ref x] ∧ H x = some (.ins C dx fs) ∧ fs.lookup ("rest" : Str) = some (V.int r) ∧ fs.lookup ("modulus" : Str) = some (V.int m) ∧ 0 ≤ r ∧ r ≤ 400 ∧ 0 ≤ m ∧ m ≤ 400 ∧ Q (.str (restT r m)) H
def spLeaveT (C : Addr) : Sp := fun vs H Q _ => ∃ (x dx : Addr) (fs : List (Str × V)) (l : Int), vs = [.ref x] ∧ H x = some (.ins C dx fs) ∧ fs.lookup ("leave" : Str) = some (V.int l) ∧ 0 ≤ l ∧ l ≤ 400 ∧ Q (.str (leaveT l)) H
def spStrF (CF CD : Addr) : Sp := fun vs H Q _ => ∃ (x : Addr) (s r m l : Int), vs = [.ref x] ∧ RuleAt CF CD H x (.fixed s r m l) ∧ (RD.fixed s r m l).Wf ∧ Q (.str (RD.fixed s r m l).text) H
def spStrD (CF CD : Addr) : Sp := fun vs H Q _ => ∃ (x : Addr) (t r m : Int), vs = [.ref x] ∧ RuleAt CF CD H x (.down t r m) ∧ (RD.down t r m).Wf ∧ Q (.str (RD.down t r m).text) H
/-- rule.leaving(v) -/
def spLeaving (CB CF CD : Addr) : Sp := fun vs H Q E => ∃ (x : Addr) (s r m l : Int) (v : V), vs = [.ref x, v] ∧ RuleAt CF CD H x (.fixed s r m l) ∧ (RD.fixed s r m l).Wf ∧ Kd H v ∧ (∀ z H', dueF (.int s) (.int r) (.int m) v = some z → Same H H' → Bad CB E H' z) ∧
  (∀ H' x', dueF (.int s) (.int r) (.int m) v = none → Same H H' → RuleAt CF CD H' x' (.fixed s r m (toI v)) → Q (.ref x') H')
end Fz

set_option Elab.async false
set_option linter.all false
set_option maxRecDepth 100000
set_option maxHeartbeats 2000000
/-! Own layer, twelfth part: what stays but for the pen and the tables; texts of truths; tuples of rules compared. -/
namespace Fz
open PySem PySem.Spec PyProof.Rows L2
/-- all but the pen at p and the tables of code objects is as it was -/
def MvN (p : Addr) (H H' : Hp) : Prop := ∀ b o, b ≠ p → H b = some o → (∀ ps, o ≠ .tbl ps) → H' b = some o
theorem MvN.refl (p : Addr) (H : Hp) : MvN p H H := fun _ _ _ z _ => z
theorem MvN.trans {p : Addr} {H H1 H2 : Hp} (a : MvN p H H1) (b : MvN p H1 H2) : MvN p H H2 := fun c o n z t => b c o n (a c o n z t) t
theorem Mv.toN {p : Addr} {H H' : Hp} (m : Mv p H H') : MvN p H H' := fun b o n z _ => m b o n z
theorem ext_mvN {p : Addr} {H H' : Hp} (m : LamX.ExtN H H') : MvN p H H' := fun b o _ z t => m b o z t
theorem Same.toN {p : Addr} {H H' : Hp} (m : Same H H') : MvN p H H' := fun b o _ z _ => m b o z
theorem RuleAt.mvN {CF CD : Addr} {H H' : Hp} {p x : Addr} {d : RD} {n : Nat} {q : Addr} (h : RuleAt CF CD H x d) (pen : PenAt n H p q) (s : MvN p H H') : RuleAt CF CD H' x d := by
  obtain ⟨dx, z⟩ := h
  obtain ⟨xs, hp⟩ := pen.lst
  exact ⟨dx, s _ _ (fun e => by rw [e, hp] at z; cases z) z (fun _ z => nomatch z)⟩
theorem tup_mvN {H H' : Hp} {p t : Addr} {xs : List V} {n : Nat} {q : Addr} (h : H t = some (.tup xs)) (pen : PenAt n H p q) (s : MvN p H H') : H' t = some (.tup xs) := by
  obtain ⟨ys, hp⟩ := pen.lst
  exact s _ _ (fun e => by rw [e, hp] at h; cases h) h (fun _ z => nomatch z)
theorem un_mv {H H' : Hp} {p l : Addr} (m : Mv p H H') (n : l ≠ p) (h : H' l = none) : H l = none := by
  cases e : H l with
  | none => rfl
  | some o => rw [m l o n e] at h; cases h
/-! ### truths -/
theorem dp_bools {K : PySem.W.Frag} {H : Hp} : ∀ bs : List Bool, DpAll K H (bs.map V.bl) (bs.map PyData.bool)
  | [] => .nil
  | b :: bs => .cons (.bl b) (dp_bools bs)
theorem shownAll_bools : ∀ bs : List Bool, PyData.shownAll (bs.map PyData.bool) = bs.map fun b => PyData.shown (.bool b)
  | [] => by simp only [List.map_nil, PyData.shownAll]
  | b :: bs => by
    have ih := shownAll_bools bs
    simp only [List.map_cons, PyData.shownAll, ih]
theorem showable_bools : ∀ bs : List Bool, PyData.showableAll (bs.map PyData.bool) = true
  | [] => by simp only [List.map_nil, PyData.showableAll]
  | b :: bs => by
    have ih := showable_bools bs
    simp only [List.map_cons, PyData.showableAll, PyData.showable, ih, Bool.and_self]
theorem noDict_bools : ∀ bs : List Bool, PyData.hasDictAll (bs.map PyData.bool) = false
  | [] => by simp only [List.map_nil, PyData.hasDictAll]
  | b :: bs => by
    have ih := noDict_bools bs
    simp only [List.map_cons, PyData.hasDictAll, PyData.hasDict, ih, Bool.or_self]
theorem depth_bools : ∀ bs : List Bool, PyData.depthAll (bs.map PyData.bool) ≤ 1
  | [] => by simp only [List.map_nil, PyData.depthAll]; omega
  | b :: bs => by
    have ih := depth_bools bs
    simp only [List.map_cons, PyData.depthAll, PyData.depth]
    omega
theorem lay_bools : ∀ bs : List Bool, PyData.canLayAll0 (bs.map PyData.bool) = true
  | [] => by simp only [List.map_nil, PyData.canLayAll0]
  | b :: bs => by
    have ih := lay_bools bs
    simp only [List.map_cons, PyData.canLayAll0, PyData.canLay0, ih, Bool.and_self]
theorem shaped_bools (bs : List Bool) : SeqAt.shaped (.list (bs.map PyData.bool)) = true := by
  have h1 := depth_bools bs
  have h2 : PyData.depth (.list (bs.map PyData.bool)) ≤ 64 := by
    simp only [PyData.depth]
    omega
  show (PyData.canLay0 (.list (bs.map PyData.bool)) && decide (PyData.depth (.list (bs.map PyData.bool)) ≤ 64)) = true
  rw [Bool.and_eq_true]
  exact ⟨by simp only [PyData.canLay0]; exact lay_bools bs, decide_eq_true h2⟩
theorem text_from {ts : List Str} {m : Nat} (h : ∀ t ∈ ts, t.length ≤ m) (few : ts.length * (m + 2) ≤ 1000000) : (listText ts).length ≤ sizeLine := by
  have z := textFrom_most m ts 0 "[" h
  have z1 : (Str.ofString "[").length = 1 := by decide +kernel
  have z2 : (Str.ofString "]").length = 1 := by decide +kernel
  have z3 : (textFrom 0 "[" ts).length ≤ 1 + ts.length * (m + 2) := by
    rw [← z1]
    exact z
  show (textFrom 0 "[" ts ++ Str.ofString "]").length ≤ sizeLine
  rw [strLen_append]
  show _ ≤ 16777216
  omega
theorem rep_bools {K : PySem.W.Frag} {H : Hp} {Q : VK} {l : Addr} {bs : List Bool} (hl : H l = some (.lst (bs.map V.bl))) (few : bs.length ≤ 1000) (fin : Q (.str (PyData.shown (.list (bs.map PyData.bool)))) H) : rRepD K [.ref l] H Q := by
  refine ⟨⟨l, _, rfl, Dp.lst (SqL.of hl) (dp_bools bs), ?_, ?_, ?_, ?_, fin⟩⟩
  · rw [PyData.showable]
    exact showable_bools bs
  · rw [PyData.hasDict]
    exact noDict_bools bs
  · have z := depth_bools bs
    rw [PyData.depth]
    omega
  · rw [PyData.shown, shownAll_bools]
    refine text_from (m := 5) (fun t ht => ?_) (by rw [List.length_map]; omega)
    obtain ⟨b, _, rfl⟩ := List.mem_map.mp ht
    cases b
    · show (Str.ofString "False").length ≤ 5
      decide +kernel
    · show (Str.ofString "True").length ≤ 5
      decide +kernel
/-! ### a law's tuples of rules -/
def RD.dat (d : RD) : PyData := .tuple [.str d.kind, .int d.num, .int d.rest, .int d.mod, .int d.leave]
theorem dp_rd {K : PySem.W.Frag} {H : Hp} {a : Addr} {d : RD} (h : H a = some (.tup d.tup)) : Dp K H (.ref a) d.dat := Dp.tup (SqT.of h) (.cons (.str _) (.cons (.int _) (.cons (.int _) (.cons (.int _) (.cons (.int _) .nil)))))
theorem shaped_rd (d : RD) : SeqAt.shaped d.dat = true := by
  have k : PyData.strOk d.kind = true := by
    cases d
    · show PyData.strOk ("fixed" : Str) = true
      decide +kernel
    · show PyData.strOk ("down" : Str) = true
      decide +kernel
  show (PyData.canLay0 d.dat && decide (PyData.depth d.dat ≤ 64)) = true
  have l : PyData.canLay0 d.dat = true := by
    show PyData.canLay0 (.tuple [.str d.kind, .int d.num, .int d.rest, .int d.mod, .int d.leave]) = true
    simp only [PyData.canLay0, PyData.canLayAll0, k, Bool.and_self]
  have p : PyData.depth d.dat ≤ 64 := by
    show PyData.depth (.tuple [.str d.kind, .int d.num, .int d.rest, .int d.mod, .int d.leave]) ≤ 64
    simp only [PyData.depth, PyData.depthAll]
    decide
  rw [l, decide_eq_true p]
  rfl
theorem eqv_rd (d e : RD) : PyData.eqv d.dat e.dat = decide (d = e) := by
  have key : PyData.eqv d.dat e.dat = ((d.kind == e.kind) && ((d.num == e.num) && ((d.rest == e.rest) && ((d.mod == e.mod) && ((d.leave == e.leave) && true))))) := by
    show PyData.eqv (.tuple [.str d.kind, .int d.num, .int d.rest, .int d.mod, .int d.leave]) (.tuple [.str e.kind, .int e.num, .int e.rest, .int e.mod, .int e.leave]) = _
    simp only [PyData.eqv, PyData.eqvAll]
  rw [key]
  have kf : (("fixed" : Str) == ("down" : Str)) = false := by decide +kernel
  have kf2 : (("down" : Str) == ("fixed" : Str)) = false := by decide +kernel
  cases d with
  | fixed s r m l =>
    cases e with
    | fixed s' r' m' l' =>
      have k : ((RD.fixed s r m l).kind == (RD.fixed s' r' m' l').kind) = true := by
        show (("fixed" : Str) == ("fixed" : Str)) = true
        decide +kernel
      rw [k]
      simp only [RD.num, RD.rest, RD.mod, RD.leave, Bool.true_and, Bool.and_true]
      by_cases h : RD.fixed s r m l = RD.fixed s' r' m' l'
      · cases h
        simp
      · rw [decide_eq_false h]
        refine Bool.eq_false_iff.mpr fun z => h ?_
        simp only [Bool.and_eq_true, beq_iff_eq] at z
        obtain ⟨z1, z2, z3, z4⟩ := z
        rw [z1, z2, z3, z4]
    | down t' r' m' =>
      have k : ((RD.fixed s r m l).kind == (RD.down t' r' m').kind) = false := kf
      rw [k, decide_eq_false (fun z => nomatch z)]
      rfl
  | down t r m =>
    cases e with
    | fixed s' r' m' l' =>
      have k : ((RD.down t r m).kind == (RD.fixed s' r' m' l').kind) = false := kf2
      rw [k, decide_eq_false (fun z => nomatch z)]
      rfl
    | down t' r' m' =>
      have k : ((RD.down t r m).kind == (RD.down t' r' m').kind) = true := by
        show (("down" : Str) == ("down" : Str)) = true
        decide +kernel
      rw [k]
      simp only [RD.num, RD.rest, RD.mod, RD.leave, Bool.true_and, Bool.and_true, beq_self_eq_true]
      by_cases h : RD.down t r m = RD.down t' r' m'
      · cases h
        simp
      · rw [decide_eq_false h]
        refine Bool.eq_false_iff.mpr fun z => h ?_
        simp only [Bool.and_eq_true, beq_iff_eq] at z
        obtain ⟨z1, z2, z3⟩ := z
        rw [z1, z2, z3]
/-- what is heard of rule.leaving(v) -/
theorem leaving_heard {CF CD CB x : Addr} {H : Hp} {Q : VK} {s r m l : Int} {v : V} (hx : RuleAt CF CD H x (.fixed s r m l)) (wf : (RD.fixed s r m l).Wf) (kv : Kd H v)
    (hQ : ∀ H' v', Same H H' → Ans CF (dueF (.int s) (.int r) (.int m) v) (fun _ => (RD.fixed s r m (toI v)).fs) H' v' → Q v' H') : spLeaving CB CF CD [.ref x, v] H (heardNx Q) (heardEx CB Q) :=
  ⟨x, s, r, m, l, v, rfl, hx, wf, kv, fun z H' hz same d hd => ⟨rfl, d, .str z, rfl, upd_same, fun H'' a s2 at_ => hQ H'' _ (fun b o e => s2 b o (by rw [upd_ne (ne_of_none (same b o e) hd)]; exact same b o e)) (.inl ⟨z, a, hz, rfl, at_⟩)⟩,
    fun H' x' hz same hr H'' a s2 at2 => let ⟨dx, at_⟩ := hr; hQ H'' _ (fun b o e => s2 b o (same b o e)) (.inr ⟨a, x', dx, 0, hz, rfl, at2, s2 _ _ at_⟩)⟩
end Fz

set_option Elab.async false
set_option linter.all false
set_option maxRecDepth 100000
set_option maxHeartbeats 2000000
/-! Own layer: numbers as words, the words of rules, the first wrong word (pure). -/
namespace Fz
open PySem PySem.Spec PyProof.Rows L2 TL
/-! ### numbers as words -/
def nT (n : Nat) : Str := (toString ((n : Nat) : Int) : Str)
theorem num_facts : ∀ n : Nat, n < 401 → Txt.isascii (nT n) = true ∧ Txt.isdigit (nT n) = true ∧ (nT n).length = (if n < 10 then 1 else if n < 100 then 2 else 3) := by decide +kernel
theorem nT_reads {n : Nat} (h : n < 401) : PySem.intText? (nT n) = some (n : Int) := PySem.W.KIN.num_reads (by omega) (by omega)
theorem nT_inj {m n : Nat} (h : nT m = nT n) : m = n := by
  have e := congrArg tl h
  unfold nT at e
  rw [tl_num, tl_num] at e
  exact numL_inj e
theorem digit_ascii : ∀ c : Nat, c < 128 → Unicode.isDigit c = true → 48 ≤ c ∧ c ≤ 57 := by decide +kernel
theorem short_val : ∀ cs : List Nat, cs.length ≤ 3 → NumText.AllDigits cs → NumText.digitsVal cs ≤ 999
  | [], _, _ => by decide
  | [a], _, h => by
    have z := h a (by simp)
    show 0 * 10 + (a - 48) ≤ 999
    omega
  | [a, b], _, h => by
    have z := h a (by simp)
    have y := h b (by simp)
    show (0 * 10 + (a - 48)) * 10 + (b - 48) ≤ 999
    omega
  | [a, b, c], _, h => by
    have z := h a (by simp)
    have y := h b (by simp)
    have x := h c (by simp)
    show ((0 * 10 + (a - 48)) * 10 + (b - 48)) * 10 + (c - 48) ≤ 999
    omega
  | _ :: _ :: _ :: _ :: _, l, _ => by simp at l
theorem short_reads {z : Str} (l : z.length ≤ 3) (a : Txt.isascii z = true) (d : Txt.isdigit z = true) : ∃ n : Nat, PySem.intText? z = some (n : Int) ∧ n ≤ 999 := by
  have hl : z.cps.toList.length = z.length := Array.length_toList
  unfold Txt.isdigit at d
  rw [Bool.and_eq_true] at d
  have all : NumText.AllDigits z.cps.toList := fun c hc => by
    have a1 : c < 128 := by
      have q := (Array.all_eq_true_iff_forall_mem.mp a) c (by simpa using hc)
      exact of_decide_eq_true q
    exact digit_ascii c a1 ((Array.all_eq_true_iff_forall_mem.mp d.2) c (by simpa using hc))
  have ne : z.cps.toList ≠ [] := fun e => by
    have q : 0 < z.length := of_decide_eq_true d.1
    rw [e] at hl
    simp at hl
    omega
  exact ⟨_, intText_digits all ne (by omega), short_val _ (by omega) all⟩
/-- the number from lo to hi (at most 400) that a word is -/
def numOf (z : Str) (lo hi : Int) : Option Int := match (List.range 401).find? fun n => decide (nT n = z) with
  | some n => if lo ≤ (n : Int) ∧ (n : Int) ≤ hi then some (n : Int) else none
  | none => none
theorem find_nT {n : Nat} (h : n < 401) : ((List.range 401).find? fun k => decide (nT k = nT n)) = some n := by
  cases e : (List.range 401).find? fun k => decide (nT k = nT n) with
  | none =>
    have q := List.find?_eq_none.mp e n (List.mem_range.mpr h)
    simp at q
  | some m =>
    have q := List.find?_some e
    rw [nT_inj (of_decide_eq_true q)]
theorem numOf_nT {n : Nat} {lo hi : Int} (h : n < 401) : numOf (nT n) lo hi = if lo ≤ (n : Int) ∧ (n : Int) ≤ hi then some (n : Int) else none := by
  unfold numOf
  rw [find_nT h]
theorem numOf_some {z : Str} {lo hi i : Int} (h : numOf z lo hi = some i) : ∃ n : Nat, n < 401 ∧ i = n ∧ z = nT n ∧ lo ≤ i ∧ i ≤ hi := by
  unfold numOf at h
  cases e : (List.range 401).find? fun k => decide (nT k = z) with
  | none => rw [e] at h; cases h
  | some n =>
    rw [e] at h
    dsimp only at h
    have q : nT n = z := of_decide_eq_true (List.find?_some (p := fun k => decide (nT k = z)) e)
    have m := List.mem_range.mp (List.mem_of_find?_eq_some e)
    by_cases c : lo ≤ (n : Int) ∧ (n : Int) ≤ hi
    · rw [if_pos c] at h
      cases h
      exact ⟨n, m, rfl, q.symm, c.1, c.2⟩
    · rw [if_neg c] at h
      cases h
theorem numOf_none {z : Str} {lo hi : Int} (h : ∀ n : Nat, n < 401 → z = nT n → ¬ (lo ≤ (n : Int) ∧ (n : Int) ≤ hi)) : numOf z lo hi = none := by
  cases e : numOf z lo hi with
  | none => rfl
  | some i =>
    obtain ⟨n, hn, rfl, hz, a, b⟩ := numOf_some e
    exact absurd ⟨a, b⟩ (h n hn hz)
def iT (i : Int) : Str := (toString i : Str)
theorem iT_nat (n : Nat) : iT (n : Int) = nT n := rfl
theorem numOf_iT {i lo hi : Int} (h0 : 0 ≤ i) (h1 : i ≤ 400) (a : lo ≤ i) (b : i ≤ hi) : numOf (iT i) lo hi = some i := by
  obtain ⟨n, rfl⟩ := Int.eq_ofNat_of_zero_le h0
  rw [iT_nat, numOf_nT (by omega), if_pos ⟨a, b⟩]
theorem numOf_is {z : Str} {lo hi i : Int} (h : numOf z lo hi = some i) : z = iT i := by
  obtain ⟨n, _, rfl, hz, _⟩ := numOf_some h
  exact hz
/-- the law's look: the word is one of these -/
theorem numOf_mem {z : Str} {lo hi : Int} (h0 : 0 ≤ lo) (h1 : hi ≤ 400) : (numOf z lo hi).isSome = true ↔ ∃ i : Int, lo ≤ i ∧ i ≤ hi ∧ z = iT i := by
  constructor
  · intro h
    obtain ⟨i, e⟩ := Option.isSome_iff_exists.mp h
    obtain ⟨n, _, rfl, hz, a, b⟩ := numOf_some e
    exact ⟨_, a, b, hz⟩
  · rintro ⟨i, a, b, rfl⟩
    rw [numOf_iT (by omega) (by omega) a b]
    rfl
/-! ### words -/
def wFixed : Str := "fixed"
def wDown : Str := "down"
def wRest : Str := "rest"
def wOf : Str := "of"
def wLeave : Str := "leave"
inductive WSlot where
  | one (l : List Str)
  | num (lo hi : Int)
def fitsB (z : Str) : WSlot → Bool
  | .one l => decide (z ∈ l)
  | .num lo hi => (numOf z lo hi).isSome
def goW : List Str → List WSlot → Nat → Option Nat
  | [], [], _ => none
  | [], _ :: _, k => some k
  | _ :: _, [], k => some k
  | z :: zs, s :: sl, k => if fitsB z s = true then goW zs sl (k + 1) else some k
def lowN (z : Str) : Int := if z = wFixed then 1 else 0
/-- the least modulus behind a rest -/
def leastM (ws : List Str) : Int := match ws[3]? with
  | some z => match numOf z 0 5 with
    | some r => if r + 1 > 2 then r + 1 else 2
    | none => 2
  | none => 2
def headIs (ws : List Str) (z : Str) : Bool := decide (ws.take 1 = [z])
def tailSl (fixed : Bool) (t : List Str) : List WSlot := if fixed = true ∧ headIs t wLeave = true then [.one [wLeave], .num 1 400] else []
def slots1 (ws : List Str) : List WSlot := [.one [wFixed, wDown], .num (lowN (ws.headD Str.empty)) 400]
def slots2 (ws : List Str) : List WSlot := if headIs (ws.drop 2) wRest = true then slots1 ws ++ [.one [wRest], .num 0 5, .one [wOf], .num (leastM ws) 6] else slots1 ws
def slotsW (ws : List Str) : List WSlot := slots2 ws ++ tailSl (decide (ws.headD Str.empty = wFixed)) (ws.drop (slots2 ws).length)
def wrongW (ws : List Str) : Option Nat := goW ws (slotsW ws) 0
/-- the law's -/
def tailL (fixed : Bool) (t : List Str) (k : Nat) : Option Nat :=
  if fixed = true ∧ headIs t wLeave = true then (match t[1]? with
    | some z => if (numOf z 1 400).isSome = true then (if t.length > 2 then some (k + 2) else none) else some (k + 1)
    | none => some (k + 1))
  else if t.length > 0 then some k else none
def restL (fixed : Bool) (t : List Str) : Option Nat :=
  match t[1]? with
  | none => some 3
  | some z3 => match numOf z3 0 5 with
    | none => some 3
    | some r => if headIs (t.drop 2) wOf = true then (match t[3]? with
        | none => some 5
        | some z5 => if (numOf z5 (if r + 1 > 2 then r + 1 else 2) 6).isSome = true then tailL fixed (t.drop 4) 6 else some 5)
      else some 4
def wrongL (ws : List Str) : Option Nat :=
  match ws with
  | [] => some 0
  | z0 :: t => if z0 ∈ [wFixed, wDown] then (match t with
      | [] => some 1
      | z1 :: t1 => if (numOf z1 (lowN z0) 400).isSome = true then (if headIs t1 wRest = true then restL (decide (z0 = wFixed)) t1 else tailL (decide (z0 = wFixed)) t1 2) else some 1)
    else some 0
theorem headIs_cons {z y : Str} {t : List Str} : headIs (z :: t) y = decide (z = y) := by
  unfold headIs
  simp
theorem headIs_nil {y : Str} : headIs [] y = false := by
  unfold headIs
  simp
theorem tail_go (fixed : Bool) (t : List Str) (k : Nat) : goW t (tailSl fixed t) k = tailL fixed t k := by
  unfold tailSl tailL
  by_cases h : fixed = true ∧ headIs t wLeave = true
  · rw [if_pos h, if_pos h]
    match t with
    | [] => rw [headIs_nil] at h; exact absurd h.2 (by simp)
    | [z] =>
      rw [headIs_cons] at h
      simp [goW, fitsB, of_decide_eq_true h.2]
    | z :: y :: r =>
      rw [headIs_cons] at h
      have e : fitsB z (.one [wLeave]) = true := by simp [fitsB, of_decide_eq_true h.2]
      simp only [goW, e, if_true, List.getElem?_cons_succ, List.getElem?_cons_zero, List.length_cons]
      by_cases q : (numOf y 1 400).isSome = true
      · rw [if_pos (show fitsB y (.num 1 400) = true from q), if_pos q]
        cases r with
        | nil => rfl
        | cons c r => simp [goW]
      · rw [if_neg (show ¬ fitsB y (.num 1 400) = true from q), if_neg q]
  · rw [if_neg h, if_neg h]
    cases t with
    | nil => rfl
    | cons c r => simp [goW]
theorem wrong_eq {ws : List Str} (ne : ws ≠ []) : wrongW ws = wrongL ws := by
  match ws, ne with
  | [z0], _ =>
    by_cases h : z0 ∈ [wFixed, wDown]
    · simp [wrongW, slotsW, slots2, slots1, tailSl, headIs_nil, goW, fitsB, wrongL, h]
    · have h2 : fitsB z0 (.one [wFixed, wDown]) = false := decide_eq_false h
      have e : ∃ r, slotsW [z0] = .one [wFixed, wDown] :: r := by
        unfold slotsW slots2 slots1
        split <;> exact ⟨_, rfl⟩
      obtain ⟨r, e⟩ := e
      unfold wrongW wrongL
      dsimp only
      rw [e, if_neg h]
      simp [goW, h2]
  | z0 :: z1 :: t1, _ =>
    have low : lowN ((z0 :: z1 :: t1).headD Str.empty) = lowN z0 := rfl
    have hd : (z0 :: z1 :: t1).headD Str.empty = z0 := rfl
    by_cases h : z0 ∈ [wFixed, wDown]
    · have h2 : fitsB z0 (.one [wFixed, wDown]) = true := decide_eq_true h
      by_cases rr : headIs t1 wRest = true
      · have e2 : slots2 (z0 :: z1 :: t1) = [.one [wFixed, wDown], .num (lowN z0) 400, .one [wRest], .num 0 5, .one [wOf], .num (leastM (z0 :: z1 :: t1)) 6] := by
          unfold slots2
          rw [if_pos (show headIs ((z0 :: z1 :: t1).drop 2) wRest = true from rr)]
          rfl
        unfold wrongW slotsW wrongL
        dsimp only
        rw [e2, if_pos h]
        simp only [List.cons_append, List.nil_append, goW, h2, if_true, hd]
        by_cases n1 : (numOf z1 (lowN z0) 400).isSome = true
        · rw [if_pos (show fitsB z1 (.num (lowN z0) 400) = true from n1), if_pos n1, if_pos rr]
          match t1, rr with
          | [], rr => rw [headIs_nil] at rr; cases rr
          | [y2], rr =>
            rw [headIs_cons] at rr
            have e : fitsB y2 (.one [wRest]) = true := by simp [fitsB, of_decide_eq_true rr]
            simp [goW, e, restL]
          | y2 :: y3 :: t3, rr =>
            rw [headIs_cons] at rr
            have e : fitsB y2 (.one [wRest]) = true := by simp [fitsB, of_decide_eq_true rr]
            have lm : leastM (z0 :: z1 :: y2 :: y3 :: t3) = (match numOf y3 0 5 with
              | some r => if r + 1 > 2 then r + 1 else 2
              | none => 2) := rfl
            simp only [goW, e, if_true, restL, List.getElem?_cons_succ, List.getElem?_cons_zero, lm, List.drop_succ_cons, List.drop_zero]
            cases n3 : numOf y3 0 5 with
            | none =>
              have e3 : fitsB y3 (.num 0 5) = false := by show (numOf y3 0 5).isSome = _; rw [n3]; rfl
              simp [e3]
            | some r =>
              have e3 : fitsB y3 (.num 0 5) = true := by show (numOf y3 0 5).isSome = _; rw [n3]; rfl
              simp only [e3, if_true]
              match t3 with
              | [] => simp [goW, headIs_nil]
              | [y4] =>
                by_cases h4 : y4 = wOf
                · have e4 : fitsB y4 (.one [wOf]) = true := by simp [fitsB, h4]
                  simp [goW, e4, headIs_cons, h4, fitsB]
                · have e4 : fitsB y4 (.one [wOf]) = false := by simp [fitsB, h4]
                  simp [goW, e4, headIs_cons, h4, fitsB]
              | y4 :: y5 :: t5 =>
                by_cases h4 : y4 = wOf
                · have e4 : fitsB y4 (.one [wOf]) = true := by simp [fitsB, h4]
                  simp only [goW, e4, if_true, headIs_cons, h4, decide_true, List.getElem?_cons_succ, List.getElem?_cons_zero]
                  cases n5 : (numOf y5 (if r + 1 > 2 then r + 1 else 2) 6).isSome with
                  | false =>
                    have e5 : fitsB y5 (.num (if r + 1 > 2 then r + 1 else 2) 6) = false := n5
                    rw [e5]
                    rfl
                  | true =>
                    have e5 : fitsB y5 (.num (if r + 1 > 2 then r + 1 else 2) 6) = true := n5
                    rw [e5]
                    simp only [if_true]
                    exact tail_go _ _ _
                · have e4 : fitsB y4 (.one [wOf]) = false := by simp [fitsB, h4]
                  simp [goW, e4, headIs_cons, h4, fitsB]
        · rw [if_neg (show ¬ fitsB z1 (.num (lowN z0) 400) = true from n1), if_neg n1]
      · have e2 : slots2 (z0 :: z1 :: t1) = [.one [wFixed, wDown], .num (lowN z0) 400] := by
          unfold slots2
          rw [if_neg (show ¬ headIs ((z0 :: z1 :: t1).drop 2) wRest = true from rr)]
          rfl
        unfold wrongW slotsW wrongL
        dsimp only
        rw [e2, if_pos h]
        simp only [List.cons_append, List.nil_append, goW, h2, if_true, hd]
        by_cases n1 : (numOf z1 (lowN z0) 400).isSome = true
        · rw [if_pos (show fitsB z1 (.num (lowN z0) 400) = true from n1), if_pos n1, if_neg rr]
          exact tail_go _ _ _
        · rw [if_neg (show ¬ fitsB z1 (.num (lowN z0) 400) = true from n1), if_neg n1]
    · have h2 : fitsB z0 (.one [wFixed, wDown]) = false := decide_eq_false h
      have e : ∃ r, slotsW (z0 :: z1 :: t1) = .one [wFixed, wDown] :: r := by
        unfold slotsW slots2 slots1
        split <;> exact ⟨_, rfl⟩
      obtain ⟨r, e⟩ := e
      unfold wrongW wrongL
      dsimp only
      rw [e, if_neg h]
      simp [goW, h2]
/-! ### the words of a rule -/
def restW (r m : Int) : List Str := if m = 1 then [] else [wRest, iT r, wOf, iT m]
def leaveW (l : Int) : List Str := if l = 0 then [] else [wLeave, iT l]
def wordsOf : RD → List Str
  | .fixed s r m l => wFixed :: iT s :: (restW r m ++ leaveW l)
  | .down t r m => wDown :: iT t :: restW r m
theorem low_fixed : lowN wFixed = 1 := rfl
theorem low_down : lowN wDown = 0 := by decide +kernel
theorem fixed_ne : decide (wDown = wFixed) = false := by decide +kernel
theorem leave_rest : decide (wLeave = wRest) = false := by decide +kernel
theorem tail_leave {l : Int} (l0 : 0 ≤ l) (l1 : l ≤ 400) (k : Nat) : tailL true (leaveW l) k = none := by
  unfold leaveW tailL
  by_cases e : l = 0
  · rw [if_pos e, headIs_nil]
    rfl
  · rw [if_neg e, headIs_cons, decide_eq_true rfl]
    simp only [and_self, if_true, List.getElem?_cons_succ, List.getElem?_cons_zero]
    rw [numOf_iT l0 l1 (by omega) l1]
    rfl
theorem tail_down (k : Nat) : tailL false [] k = none := rfl
theorem rest_words {fixed : Bool} {r m : Int} {t : List Str} (r0 : 0 ≤ r) (r1 : r ≤ m - 1) (m0 : 1 ≤ m) (m1 : m ≤ 6) (ne : ¬ m = 1) : restL fixed (wRest :: iT r :: wOf :: iT m :: t) = tailL fixed t 6 := by
  unfold restL
  simp only [List.getElem?_cons_succ, List.getElem?_cons_zero, List.drop_succ_cons, List.drop_zero]
  rw [numOf_iT r0 (by omega) r0 (by omega)]
  simp only [headIs_cons, decide_true, if_true]
  rw [numOf_iT (by omega) (by omega) (by split <;> omega) m1]
  rfl
theorem wrong_words {d : RD} (wf : d.Wf) : wrongL (wordsOf d) = none := by
  have a := wf.n0; have b := wf.n1; have r0 := wf.r0; have r1 := wf.r1; have m0 := wf.m0; have m1 := wf.m1; have l0 := wf.l0; have l1 := wf.l1
  cases d with
  | fixed s r m l =>
    simp only [RD.isF, RD.num, RD.rest, RD.mod, RD.leave, if_true] at a b r0 r1 m0 m1 l0 l1
    unfold wrongL wordsOf
    simp only [List.mem_cons, true_or, if_true, low_fixed, decide_true]
    rw [numOf_iT (by omega) b a b]
    simp only [Option.isSome_some, if_true]
    unfold restW
    by_cases e : m = 1
    · rw [if_pos e, List.nil_append]
      have h : headIs (leaveW l) wRest = false := by
        unfold leaveW
        by_cases z : l = 0
        · rw [if_pos z, headIs_nil]
        · rw [if_neg z, headIs_cons, leave_rest]
      rw [h]
      exact tail_leave l0 l1 2
    · rw [if_neg e]
      simp only [List.cons_append, List.nil_append, headIs_cons, decide_true, if_true]
      rw [rest_words r0 r1 m0 m1 e]
      exact tail_leave l0 l1 6
  | down t r m =>
    simp only [RD.isF, RD.num, RD.rest, RD.mod, RD.leave, Bool.false_eq_true, if_false] at a b r0 r1 m0 m1 l0 l1
    unfold wrongL wordsOf
    simp only [List.mem_cons, true_or, or_true, if_true, low_down, fixed_ne]
    rw [numOf_iT (by omega) b a b]
    simp only [Option.isSome_some, if_true]
    unfold restW
    by_cases e : m = 1
    · rw [if_pos e, headIs_nil]
      rfl
    · rw [if_neg e]
      simp only [headIs_cons, decide_true, if_true]
      rw [rest_words r0 r1 m0 m1 e]
      rfl
theorem some_of {o : Option Int} (h : o.isSome = true) : ∃ i, o = some i := Option.isSome_iff_exists.mp h
/-- what is right is the words of a rule -/
theorem tail_is {fixed : Bool} {t : List Str} {k : Nat} (h : tailL fixed t k = none) : (t = [] ∨ (fixed = true ∧ ∃ l : Int, 1 ≤ l ∧ l ≤ 400 ∧ t = [wLeave, iT l])) := by
  unfold tailL at h
  by_cases c : fixed = true ∧ headIs t wLeave = true
  · rw [if_pos c] at h
    match t, c, h with
    | [], c, _ => rw [headIs_nil] at c; exact absurd c.2 (by simp)
    | [z], _, h => cases h
    | z :: y :: r, c, h =>
      rw [headIs_cons] at c
      simp only [List.getElem?_cons_succ, List.getElem?_cons_zero] at h
      cases e : numOf y 1 400 with
      | none => rw [e] at h; cases h
      | some l =>
        rw [e] at h
        simp only [Option.isSome_some, if_true] at h
        cases r with
        | cons c2 r => simp at h
        | nil =>
          obtain ⟨n, _, _, _, a, b⟩ := numOf_some e
          exact .inr ⟨c.1, l, a, b, by rw [of_decide_eq_true c.2, numOf_is e]⟩
  · rw [if_neg c] at h
    cases t with
    | nil => exact .inl rfl
    | cons z r => simp at h
theorem rest_is {fixed : Bool} {t : List Str} (h : restL fixed t = none) (hd : headIs t wRest = true) : ∃ (r m : Int) (t4 : List Str), 0 ≤ r ∧ r ≤ m - 1 ∧ 2 ≤ m ∧ m ≤ 6 ∧ t = wRest :: iT r :: wOf :: iT m :: t4 ∧ tailL fixed t4 6 = none := by
  unfold restL at h
  match t, hd, h with
  | [], hd, _ => rw [headIs_nil] at hd; cases hd
  | [z], _, h => cases h
  | z2 :: z3 :: t3, hd, h =>
    rw [headIs_cons] at hd
    simp only [List.getElem?_cons_succ, List.getElem?_cons_zero, List.drop_succ_cons, List.drop_zero] at h
    cases e3 : numOf z3 0 5 with
    | none => rw [e3] at h; cases h
    | some r =>
      rw [e3] at h
      simp only at h
      obtain ⟨_, _, _, _, ra, rb⟩ := numOf_some e3
      match t3, h with
      | [], h => rw [headIs_nil] at h; cases h
      | [z4], h =>
        rw [headIs_cons] at h
        by_cases h4 : z4 = wOf
        · rw [decide_eq_true h4] at h; cases h
        · rw [decide_eq_false h4] at h; cases h
      | z4 :: z5 :: t5, h =>
        rw [headIs_cons] at h
        by_cases h4 : z4 = wOf
        · rw [decide_eq_true h4] at h
          simp only [if_true, List.getElem?_cons_succ, List.getElem?_cons_zero] at h
          cases e5 : numOf z5 (if r + 1 > 2 then r + 1 else 2) 6 with
          | none => rw [e5] at h; cases h
          | some m =>
            rw [e5] at h
            simp only [Option.isSome_some, if_true] at h
            obtain ⟨_, _, _, _, ma, mb⟩ := numOf_some e5
            exact ⟨r, m, t5, ra, by split at ma <;> omega, by split at ma <;> omega, mb, by rw [of_decide_eq_true hd, h4, numOf_is e3, numOf_is e5], h⟩
        · rw [decide_eq_false h4] at h; cases h
theorem wrong_is {ws : List Str} (h : wrongL ws = none) : ∃ d : RD, d.Wf ∧ ws = wordsOf d := by
  unfold wrongL at h
  match ws, h with
  | [], h => cases h
  | z0 :: t, h =>
    by_cases h0 : z0 ∈ [wFixed, wDown]
    · simp only [if_pos h0] at h
      match t, h with
      | [], h => cases h
      | z1 :: t1, h =>
        cases e1 : numOf z1 (lowN z0) 400 with
        | none => simp only [e1] at h; cases h
        | some s =>
          simp only [e1, Option.isSome_some, if_true] at h
          obtain ⟨n, _, sn, _, sa, sb⟩ := numOf_some e1
          have s0 : 0 ≤ s := by omega
          rw [List.mem_cons, List.mem_singleton] at h0
          rcases h0 with rfl | rfl
          · rw [low_fixed] at sa
            simp only [decide_true] at h
            by_cases hr : headIs t1 wRest = true
            · rw [if_pos hr] at h
              obtain ⟨r, m, t4, r0, r1, m0, m1, rfl, tl4⟩ := rest_is h hr
              have em : ¬ m = 1 := by omega
              rcases tail_is tl4 with rfl | ⟨_, l, l0, l1, rfl⟩
              · exact ⟨.fixed s r m 0, ⟨sa, sb, r0, r1, by show 1 ≤ m; omega, m1, by show (0 : Int) ≤ 0; decide, by show (0 : Int) ≤ 400; decide⟩, by
                  unfold wordsOf restW leaveW
                  dsimp only
                  rw [if_neg em, if_pos rfl, numOf_is e1]
                  rfl⟩
              · exact ⟨.fixed s r m l, ⟨sa, sb, r0, r1, by show 1 ≤ m; omega, m1, by show 0 ≤ l; omega, l1⟩, by
                  unfold wordsOf restW leaveW
                  dsimp only
                  rw [if_neg em, if_neg (by omega), numOf_is e1]
                  rfl⟩
            · rw [if_neg hr] at h
              rcases tail_is h with rfl | ⟨_, l, l0, l1, rfl⟩
              · exact ⟨.fixed s 0 1 0, ⟨sa, sb, by show (0 : Int) ≤ 0; decide, by show (0 : Int) ≤ 1 - 1; decide, by show (1 : Int) ≤ 1; decide, by show (1 : Int) ≤ 6; decide, by show (0 : Int) ≤ 0; decide, by show (0 : Int) ≤ 400; decide⟩, by
                  unfold wordsOf restW leaveW
                  dsimp only
                  rw [if_pos rfl, if_pos rfl, numOf_is e1]
                  rfl⟩
              · exact ⟨.fixed s 0 1 l, ⟨sa, sb, by show (0 : Int) ≤ 0; decide, by show (0 : Int) ≤ 1 - 1; decide, by show (1 : Int) ≤ 1; decide, by show (1 : Int) ≤ 6; decide, by show 0 ≤ l; omega, l1⟩, by
                  unfold wordsOf restW leaveW
                  dsimp only
                  rw [if_pos rfl, if_neg (by omega), numOf_is e1]
                  rfl⟩
          · rw [low_down] at sa
            rw [fixed_ne] at h
            by_cases hr : headIs t1 wRest = true
            · rw [if_pos hr] at h
              obtain ⟨r, m, t4, r0, r1, m0, m1, rfl, tl4⟩ := rest_is h hr
              have em : ¬ m = 1 := by omega
              rcases tail_is tl4 with rfl | ⟨f, _⟩
              · exact ⟨.down s r m, ⟨sa, sb, r0, r1, by show 1 ≤ m; omega, m1, by show (0 : Int) ≤ 0; decide, by show (0 : Int) ≤ 400; decide⟩, by
                  unfold wordsOf restW
                  dsimp only
                  rw [if_neg em, numOf_is e1]⟩
              · cases f
            · rw [if_neg hr] at h
              rcases tail_is h with rfl | ⟨f, _⟩
              · exact ⟨.down s 0 1, ⟨sa, sb, by show (0 : Int) ≤ 0; decide, by show (0 : Int) ≤ 1 - 1; decide, by show (1 : Int) ≤ 1; decide, by show (1 : Int) ≤ 6; decide, by show (0 : Int) ≤ 0; decide, by show (0 : Int) ≤ 400; decide⟩, by
                  unfold wordsOf restW
                  dsimp only
                  rw [if_pos rfl, numOf_is e1]⟩
              · cases f
    · simp only [if_neg h0] at h
      cases h
/-! ### texts and their words -/
def sp1 : Str := " "
theorem tl_sp : tl sp1 = 32 :: [] := by decide +kernel
theorem sp_small : sp1.cps.all (· < 256) = true := by decide +kernel
theorem iT_tl {i : Int} (h0 : 0 ≤ i) : ∃ n : Nat, tl (iT i) = numL n := by
  obtain ⟨n, rfl⟩ := Int.eq_ofNat_of_zero_le h0
  exact ⟨n, tl_num n⟩
theorem iT_free {i : Int} (h0 : 0 ≤ i) : 32 ∉ tl (iT i) := by
  obtain ⟨n, e⟩ := iT_tl h0
  rw [e]
  exact numL_free (by omega)
theorem words_free {d : RD} (wf : d.Wf) : ∀ p ∈ wordsOf d, 32 ∉ tl p := by
  have a := wf.n0; have r0 := wf.r0; have m0 := wf.m0; have l0 := wf.l0
  have k0 : 32 ∉ tl wFixed := by decide +kernel
  have k1 : 32 ∉ tl wDown := by decide +kernel
  have k2 : 32 ∉ tl wRest := by decide +kernel
  have k3 : 32 ∉ tl wOf := by decide +kernel
  have k4 : 32 ∉ tl wLeave := by decide +kernel
  intro p hp
  cases d with
  | fixed s r m l =>
    simp only [RD.isF, RD.num, RD.rest, RD.mod, RD.leave, if_true] at a r0 m0 l0
    unfold wordsOf restW leaveW at hp
    simp only [List.mem_cons, List.mem_append] at hp
    rcases hp with rfl | rfl | hp | hp
    · exact k0
    · exact iT_free (by omega)
    · split at hp
      · cases hp
      · simp only [List.mem_cons, List.not_mem_nil, or_false] at hp
        rcases hp with rfl | rfl | rfl | rfl
        · exact k2
        · exact iT_free r0
        · exact k3
        · exact iT_free (by omega)
    · split at hp
      · cases hp
      · simp only [List.mem_cons, List.not_mem_nil, or_false] at hp
        rcases hp with rfl | rfl
        · exact k4
        · exact iT_free l0
  | down t r m =>
    simp only [RD.isF, RD.num, RD.rest, RD.mod, RD.leave, Bool.false_eq_true, if_false] at a r0 m0 l0
    unfold wordsOf restW at hp
    simp only [List.mem_cons] at hp
    rcases hp with rfl | rfl | hp
    · exact k1
    · exact iT_free (by omega)
    · split at hp
      · cases hp
      · simp only [List.mem_cons, List.not_mem_nil, or_false] at hp
        rcases hp with rfl | rfl | rfl | rfl
        · exact k2
        · exact iT_free r0
        · exact k3
        · exact iT_free (by omega)
theorem words_ne (d : RD) : wordsOf d ≠ [] := by
  cases d <;> exact List.cons_ne_nil _ _
theorem tl_rest1 : tl (Str.empty ++ (" rest " : Str)) = 32 :: (tl wRest ++ [32]) := by decide +kernel
theorem tl_of1 : tl (" of " : Str) = 32 :: (tl wOf ++ [32]) := by decide +kernel
theorem tl_leave1 : tl (Str.empty ++ (" leave " : Str)) = 32 :: (tl wLeave ++ [32]) := by decide +kernel
theorem tl_fixed1 : tl (Str.empty ++ ("fixed " : Str)) = tl wFixed ++ [32] := by decide +kernel
theorem tl_down1 : tl (Str.empty ++ ("down " : Str)) = tl wDown ++ [32] := by decide +kernel
theorem tl_none : tl ("" : Str) = [] := by decide +kernel
theorem tl_restT (r m : Int) : tl (restT r m) = (restW r m).flatMap fun p => 32 :: tl p := by
  unfold restT restW
  split
  · exact tl_none
  · rw [tl_append, tl_append, tl_append, tl_rest1, tl_of1]
    simp [iT]
theorem tl_leaveT (l : Int) : tl (leaveT l) = (leaveW l).flatMap fun p => 32 :: tl p := by
  unfold leaveT leaveW
  split
  · exact tl_none
  · rw [tl_append, tl_leave1]
    simp [iT]
theorem joinL_cons : ∀ (p : List Nat) (r : List Str), joinL [32] (p :: r.map tl) = p ++ r.flatMap fun q => 32 :: tl q
  | p, [] => by simp [joinL]
  | p, q :: r => by
    show p ++ ([32] ++ joinL [32] (tl q :: r.map tl)) = _
    rw [joinL_cons (tl q) r]
    simp
theorem join_words (d : RD) : Str.join sp1 (wordsOf d) = d.text := by
  apply ext_tl
  rw [tl_join, tl_sp]
  cases d with
  | fixed s r m l =>
    show joinL [32] (tl wFixed :: (iT s :: (restW r m ++ leaveW l)).map tl) = tl ((((Str.empty ++ ("fixed " : Str)) ++ (toString s : Str)) ++ restT r m) ++ leaveT l)
    rw [joinL_cons, tl_append, tl_append, tl_append, tl_fixed1, tl_restT, tl_leaveT]
    simp [iT, List.flatMap_append]
  | down t r m =>
    show joinL [32] (tl wDown :: (iT t :: restW r m).map tl) = tl (((Str.empty ++ ("down " : Str)) ++ (toString t : Str)) ++ restT r m)
    rw [joinL_cons, tl_append, tl_append, tl_down1, tl_restT]
    simp [iT]
theorem split_text {d : RD} (wf : d.Wf) : Txt.split d.text sp1 = wordsOf d := by
  rw [← join_words d, ← join_eq]
  exact split_join tl_sp sp_small (words_ne d) (words_free wf)
theorem text_of_split {z : Str} {d : RD} (h : Txt.split z sp1 = wordsOf d) : z = d.text := by
  rw [← join_words d, ← h]
  exact (StrLaws.join_split z sp1).symm
end Fz

set_option Elab.async false
set_option linter.all false
set_option maxRecDepth 100000
set_option maxHeartbeats 2000000
/-! Own layer, thirteenth part: a value of a built-in type == an instance: its own __eq__ answers. -/
namespace Fz
open PySem PySem.Spec PyProof.Rows L2
open PySem.AutoSeq1 (wpAny_loadPart')
open PySem.MeetsSeq PySem.SeqAt
section
variable {c : Value} {dd : Option Addr} {sl : Array (Option Value)}
theorem dec_bool (b : Bool) (l : Addr) (c : Value) (dd : Option Addr) (sl : Array (Option Value)) :
    Meets (Builtin.«int.__eq__» ⟨[.bool b, .ref l], []⟩) (fun _ R s => s.heap.get? l = some { cls := c, dict := dd, data := .plain, slots := sl } ∧ R (.ok (.ret .notImplemented)) s) := .of_wp fun prog w A R s h => by
  obtain ⟨hp, g, d, tk, os⟩ := s
  obtain ⟨hl, h⟩ := h
  wp_walk using wpAny_loadPart' hl, wpAny_load hl
  exact ⟨_, rfl, h⟩
theorem dec_int (b : Int) (u : Tok) (l : Addr) (c : Value) (dd : Option Addr) (sl : Array (Option Value)) :
    Meets (Builtin.«int.__eq__» ⟨[.int b u, .ref l], []⟩) (fun _ R s => s.heap.get? l = some { cls := c, dict := dd, data := .plain, slots := sl } ∧ R (.ok (.ret .notImplemented)) s) := .of_wp fun prog w A R s h => by
  obtain ⟨hp, g, d, tk, os⟩ := s
  obtain ⟨hl, h⟩ := h
  wp_walk using wpAny_loadPart' hl, wpAny_load hl
  exact ⟨_, rfl, h⟩
theorem dec_str (b : Str) (u : Tok) (l : Addr) (c : Value) (dd : Option Addr) (sl : Array (Option Value)) :
    Meets (Builtin.«str.__eq__» ⟨[.str b u, .ref l], []⟩) (fun _ R s => s.heap.get? l = some { cls := c, dict := dd, data := .plain, slots := sl } ∧ R (.ok (.ret .notImplemented)) s) := .of_wp fun prog w A R s h => by
  obtain ⟨hp, g, d, tk, os⟩ := s
  obtain ⟨hl, h⟩ := h
  wp_walk using wpAny_loadPart' hl, wpAny_load hl
  exact ⟨_, rfl, h⟩
end
section
variable {prog : Program} {w : World} {A : Around} {s : Shared} {K : PySem.W.Frag} {x C l : Addr} {ox : Obj} {od : Option Obj} {R : Result → Shared → Prop}
theorem not_inst {M : Model} {E : Value → Shared → Prop} {T : String} {Q : Bool → Shared → Prop} (X : K.In s.heap) (J : PySem.W.InstAt s.heap x ox C od) (sub : PySem.W.subIn K (.ref C) (.type T) = some false) (h : Q false s) : wpAny M A (isInstance (.ref x) (.type T)) Q E s := by
  unfold isInstance
  exact wpAny_bind (J.type.here ((PySem.W.looks_subIn X sub).here h))
theorem dec_list (X : K.In s.heap) (J : PySem.W.InstAt s.heap x ox C od) (sub : PySem.W.subIn K (.ref C) (.type "list") = some false) {items : Array Value} {n : Nat} (hl : s.heap.get? l = some { cls := .type "list", data := .seq items n }) (h : R (.ok (.ret .notImplemented)) s) :
    wpAny (model prog w) A.in1 (Builtin.«list.__eq__» ⟨[.ref l, .ref x], []⟩) (GQ.FinOf prog w A R) (fun e s' => R (.error e) s') s := by
  have no : ∀ {Q : Bool → Shared → Prop} {E : Value → Shared → Prop}, Q false s → wpAny (model prog w) A.in1 (isInstance (.ref x) (.type "list")) Q E s := fun q => not_inst X J sub q
  obtain ⟨hp, g, d, tk, os⟩ := s
  wp_walk using no
  exact h
theorem dec_tuple (X : K.In s.heap) (J : PySem.W.InstAt s.heap x ox C od) (sub : PySem.W.subIn K (.ref C) (.type "tuple") = some false) (h : R (.ok (.ret .notImplemented)) s) :
    wpAny (model prog w) A.in1 (Builtin.«tuple.__eq__» ⟨[.ref l, .ref x], []⟩) (GQ.FinOf prog w A R) (fun e s' => R (.error e) s') s := by
  have no : ∀ {Q : Bool → Shared → Prop} {E : Value → Shared → Prop}, Q false s → wpAny (model prog w) A.in1 (isInstance (.ref x) (.type "tuple")) Q E s := fun q => not_inst X J sub q
  obtain ⟨hp, g, d, tk, os⟩ := s
  wp_walk using no
  exact h
theorem dec_dict (X : K.In s.heap) (J : PySem.W.InstAt s.heap x ox C od) (sub : PySem.W.subIn K (.ref C) (.type "dict") = some false) (h : R (.ok (.ret .notImplemented)) s) :
    wpAny (model prog w) A.in1 (Builtin.«dict.__eq__» ⟨[.ref l, .ref x], []⟩) (GQ.FinOf prog w A R) (fun e s' => R (.error e) s') s := by
  have no : ∀ {Q : Bool → Shared → Prop} {E : Value → Shared → Prop}, Q false s → wpAny (model prog w) A.in1 (isInstance (.ref x) (.type "dict")) Q E s := fun q => not_inst X J sub q
  obtain ⟨hp, g, d, tk, os⟩ := s
  wp_walk using no
  exact h
end
/-! ### the reflected == -/
section
variable {prog : Program} {w : World} {A : Around} {E : Value → Shared → Prop} {s : Shared} {K : PySem.W.Frag} {x C f : Addr} {ox : Obj} {od : Option Obj} {u : Value} {T id : String}
theorem eq_back {Q : Value → Shared → Prop} (room : A.units < cLine) (X : K.In s.heap) (J : PySem.W.InstAt s.heap x ox C od) (hT : s.TypeIs u T) (sub : PySem.W.subIn K (.ref C) (.type T) = some false) (S : Slot T "__eq__" id)
    (dec : ∀ Q' : Value → Shared → Prop, Q' .notImplemented s → wpAny (model prog w) A (call (.builtin id) [u, .ref x]) Q' E s) (own : PySem.W.findIn K (.ref C) "__eq__" = some (some (.ref f))) (isF : PySem.W.isFn K (.ref f) = true)
    (called : wpAny (model prog w) A (call (.ref f) [.ref x, u]) (PySem.W.CmpBack Q) E s) : wpAny (model prog w) A (richCompare .Eq u (.ref x)) Q E s := by
  have one : wpAny (model prog w) A (tryCompare (.ref x) "__eq__" u) (fun r s' => ∃ v, r = some v ∧ Q v s') E s := by
    unfold tryCompare
    refine wpAny_bind (PySem.W.ifBound_K X J own isF (wpAny_mono called (fun v s' z => ?_) fun _ _ z => z))
    cases v <;> first
      | exact z.elim
      | exact wpAny_pure ⟨_, rfl, z⟩
  simp only [richCompare, cmpInfo_Eq, hT.oneThing_none]
  refine wpAny_holding <| wpAny_bind <| wpAny_cRoomFor room ?_
  refine wpAny_bind <| wpAny_typeOf hT <| wpAny_bind <| J.type.here ?_
  split
  · refine wpAny_bind <| (PySem.W.looks_subIn X sub).here ?_
    simp only [Bool.false_eq_true, if_false, Bool.not_false, if_true]
    refine wpAny_bind (m := tryCompare u _ (.ref x)) <| wpAny_tryCompare_declines hT S <| dec _ ⟨rfl, ?_⟩
    refine wpAny_bind (m := tryCompare (.ref x) _ u) <| wpAny_mono one (fun r s' z => ?_) fun _ _ z => z
    obtain ⟨v, rfl, q⟩ := z
    exact wpAny_pure q
  · rename_i q
    exact absurd (by simp) q
end
/-- the class at C is below no built-in type of these -/
structure NotB (K : PySem.W.Frag) (C : Addr) : Prop where
  non : PySem.W.subIn K (.ref C) (.type "NoneType") = some false
  bl : PySem.W.subIn K (.ref C) (.type "bool") = some false
  int : PySem.W.subIn K (.ref C) (.type "int") = some false
  str : PySem.W.subIn K (.ref C) (.type "str") = some false
  lst : PySem.W.subIn K (.ref C) (.type "list") = some false
  tup : PySem.W.subIn K (.ref C) (.type "tuple") = some false
  dct : PySem.W.subIn K (.ref C) (.type "dict") = some false
section
variable {X : Cx} {C f : Addr} {fd : FuncData} {ps : List Str} {sp : Sp} {k : Nat}
/-- v == x, x an instance of the class at C, v a value of a built-in type -/
def rEqBack (C : Addr) (sp : Sp) : R2 := fun v x H Q => ∃ (a dx : Addr) (fs : List (Str × V)), x = .ref a ∧ H a = some (.ins C dx fs) ∧ Kd H v ∧ sp [x, v] H Q E0
theorem op_eqBack (own : PySem.W.findIn X.K (.ref C) "__eq__" = some (some (.ref f))) (isF : PySem.W.isFn X.K (.ref f) = true) (nb : NotB X.K C) (Fd : FnOk X.prog X.w X.K X.mg X.base CX0 k f fd ps sp) (binds : L2.Binds X.K fd ps []) (room : Room k X.A) : OpR X (compareOp .Eq) (rEqBack C sp) := by
  intro pins s σ H v x uv ux Q I rv rx h
  obtain ⟨a, dx, fs, rfl, ha, kd, q⟩ := h
  cases (show ux = Value.ref a from rx)
  obtain ⟨mA, O, _⟩ := ins_get I.hok ha
  obtain ⟨od, J, _⟩ := O.look
  have plain : s.heap.get? a = some { cls := .ref C, dict := some dx, data := .plain } := O.obj
  show wpAny _ _ (richCompare .Eq uv (.ref a)) _ _ _
  have called : wpAny (model X.prog X.w) X.A (call (.ref f) [.ref a, uv]) (PySem.W.CmpBack (EP X pins σ Q)) X.xe s :=
    wpAny_mono (run_fn (us := [.ref a, uv]) (vs := [.ref a, v]) Fd room binds .nil pass0 I (.cons rfl (.cons rv .nil)) q) (fun w s' ⟨z', H', I', rz, qz⟩ => SlX.cmpback rz ⟨z', H', I', rz, qz⟩) fun _ _ z => z
  cases v with
  | non =>
    cases (show uv = Value.none from rv)
    exact eq_back (T := "NoneType") room.units0 I.kIn J rfl nb.non PySem.F.slot_NoneType_eq (fun Q' q' => call_gives PySem.F.slot_NoneType_eq rfl PySem.F.entry_NoneType_eq (PySem.F.args_NoneType_eq_2 _ _) (NoneType___eq___none_ref_0 a) q') own isF called
  | bl b =>
    cases (show uv = Value.bool b from rv)
    exact eq_back (T := "bool") room.units0 I.kIn J rfl nb.bl PySem.F.slot_bool_eq (fun Q' q' => call_meets PySem.F.slot_bool_eq rfl PySem.F.entry_int_eq (PySem.F.args_int_eq_2 _ _) (dec_bool b a _ _ _) ⟨plain, q'⟩) own isF called
  | int i =>
    obtain ⟨t, e⟩ := (show ∃ t, uv = Value.int i t from rv)
    cases e
    exact eq_back (T := "int") room.units0 I.kIn J (typeIs_int s i t) nb.int PySem.F.slot_int_eq (fun Q' q' => call_meets PySem.F.slot_int_eq (typeIs_int s i t) PySem.F.entry_int_eq (PySem.F.args_int_eq_2 _ _) (dec_int i t a _ _ _) ⟨plain, q'⟩) own isF called
  | str z =>
    obtain ⟨t, e⟩ := (show ∃ t, uv = Value.str z t from rv)
    cases e
    exact eq_back (T := "str") room.units0 I.kIn J (typeIs_str s z t) nb.str PySem.F.slot_str_eq (fun Q' q' => call_meets PySem.F.slot_str_eq (typeIs_str s z t) PySem.F.entry_str_eq (PySem.F.args_str_eq_2 _ _) (dec_str z t a _ _ _) ⟨plain, q'⟩) own isF called
  | ref l =>
    cases (show uv = Value.ref l from rv)
    rcases kd with ⟨xs, h⟩ | ⟨xs, h⟩ | ⟨kvs, h⟩
    · obtain ⟨_, _, _, o, h1, h2, _⟩ := (show ObjOk X.prog X.w H s.heap l (.tup xs) from I.hok l _ h)
      exact eq_back (T := "tuple") room.units0 I.kIn J ⟨o, h1, h2⟩ nb.tup PySem.F.slot_tuple_eq (fun Q' q' => GQ.call_here PySem.F.slot_tuple_eq ⟨o, h1, h2⟩ PySem.F.entry_tuple_eq (PySem.F.args_tuple_eq_2 _ _) (dec_tuple I.kIn J nb.tup q')) own isF called
    · obtain ⟨_, _, n, _, h1⟩ := (show ObjOk X.prog X.w H s.heap l (.lst xs) from I.hok l _ h)
      exact eq_back (T := "list") room.units0 I.kIn J ⟨_, h1, rfl⟩ nb.lst PySem.F.slot_list_eq (fun Q' q' => GQ.call_here PySem.F.slot_list_eq ⟨_, h1, rfl⟩ PySem.F.entry_list_eq (PySem.F.args_list_eq_2 _ _) (dec_list I.kIn J nb.lst h1 q')) own isF called
    · obtain ⟨_, _, vs, _, o, es, ep, h1, h2, _⟩ := (show ObjOk X.prog X.w H s.heap l (.dK kvs) from I.hok l _ h)
      exact eq_back (T := "dict") room.units0 I.kIn J ⟨o, h1, h2.1⟩ nb.dct PySem.F.slot_dict_eq (fun Q' q' => GQ.call_here PySem.F.slot_dict_eq ⟨o, h1, h2.1⟩ PySem.F.entry_dict_eq (PySem.F.args_dict_eq_2 _ _) (dec_dict I.kIn J nb.dct q')) own isF called
  | flt _ => exact kd.elim
  | byt _ => exact kd.elim
  | ty _ => exact kd.elim
end
/-! ### repr of any value of a built-in kind -/
/-- the data of a value: as Dp says, or the empty dict -/
def RepData (K : PySem.W.Frag) (H : Hp) (v : V) (d : PyData) : Prop := (Dp K H v d ∧ d.hasDict = false) ∨ ∃ a, v = .ref a ∧ H a = some (.dK []) ∧ d = .dict []
theorem RepData.same {K : PySem.W.Frag} {H H' : Hp} {v : V} {d : PyData} (h : RepData K H v d) (k : Dp K H v d → Dp K H' v d) (s : Same H H') : RepData K H' v d := by
  rcases h with ⟨h, n⟩ | ⟨a, e, h, z⟩
  · exact .inl ⟨k h, n⟩
  · exact .inr ⟨a, e, s _ _ h, z⟩
structure rRepA (K : PySem.W.Frag) (vs : List V) (H : Hp) (Q : VK) : Prop where
  ex : ∃ (v : V) (d : PyData), vs = [v] ∧ RepData K H v d ∧ d.showable = true ∧ d.depth ≤ 60 ∧ d.shown.length ≤ sizeLine ∧ Q (.str d.shown) H
theorem call_repA {X : Cx} (clear : X.A.guards = some []) (room : X.A.units + 64 < cLine) : CallR X (.builtin "repr") (rRepA X.K) := by
  intro pins s σ H vs us Q I rvs hyp
  obtain ⟨v, d, rfl, data, hshow, hdeep, hfit, fin⟩ := hyp.ex
  obtain ⟨u, rfl, ru⟩ := vals1 rvs
  rcases data with ⟨dp, no⟩ | ⟨a, rfl, ha, rfl⟩
  · cases dp with
    | non =>
      cases (show u = Value.none from ru)
      rw [PyData.shown] at fin
      exact PySem.P.repr_of_none ⟨.str _, H, I.tok _, ⟨_, rfl⟩, fin⟩
    | bl b =>
      cases (show u = Value.bool b from ru)
      rw [PyData.shown] at fin
      exact PySem.P.repr_of_bool ⟨.str _, H, I.tok _, ⟨_, by cases b <;> rfl⟩, fin⟩
    | int i =>
      obtain ⟨t, e⟩ := (show ∃ t, u = Value.int i t from ru)
      cases e
      rw [PyData.shown] at fin
      rw [PyData.showable] at hshow
      exact PySem.P.repr_of_int (of_decide_eq_true hshow) ⟨.str _, H, I.tok _, ⟨_, rfl⟩, fin⟩
    | str z =>
      obtain ⟨t, e⟩ := (show ∃ t, u = Value.str z t from ru)
      cases e
      rw [PyData.shown] at fin hfit
      exact PySem.P.repr_of_str ⟨.str _, H, I.tok _, ⟨_, rfl⟩, fin⟩ hfit
    | @lst a xs ds hs hall => exact call_repD clear room pins s σ H [.ref a] [u] Q I (.cons ru .nil) ⟨⟨a, _, rfl, Dp.lst hs hall, hshow, no, hdeep, hfit, fin⟩⟩
    | @tup a xs ds hs hall => exact call_repD clear room pins s σ H [.ref a] [u] Q I (.cons ru .nil) ⟨⟨a, _, rfl, Dp.tup hs hall, hshow, no, hdeep, hfit, fin⟩⟩
  · cases (show u = Value.ref a from ru)
    obtain ⟨_, sys, vs', kv, o, es, ep, h1, h2, h3, _, pairs, _⟩ := (show ObjOk X.prog X.w H s.heap a (.dK []) from I.hok a _ ha)
    cases kv
    have none_ : es.toList = [] := by cases h : es.toList with
      | nil => rfl
      | cons e r => rw [h] at pairs; cases pairs
    have reads : Reads s.heap (.ref a) (.dict []) (a :: [] ++ []) := Reads.dict h1 h2.1 h3 (by rw [none_]; exact .nil) (by rw [none_]; exact .nil)
    refine repr_of_reads' reads hshow (fun _ => ?_) clear (by omega) (fun _ _ same => same) (fun heap' tok toks kept => ⟨.str _, H, I.kept kept, ⟨_, rfl⟩, fin⟩) hfit
    intro m
    simp at m
    rw [← m] at sys
    simp at sys
end Fz

set_option Elab.async false
set_option linter.all false
set_option maxRecDepth 100000
set_option maxHeartbeats 2000000
/-! Own layer, fourteenth part: where rules stand; errors of one field; what is heard of a rule asked at a heap. -/
namespace Fz
open PySem PySem.Spec PyProof.Rows L2
/-! ### errors of one field -/
def spErrI (C : Addr) (f : Str) : Sp := fun vs H Q _ => ∃ (a : Addr) (v : V), vs = [.ref a, v] ∧ H a = some (exo a C none) ∧ ∀ d, H d = none → d ≠ a → Q .non (upd (upd H d (exd d [(f, v)])) a (exo a C (some d)))
def BadE (C : Addr) (f : Str) (v : V) (E : XK) (H : Hp) : Prop := ∀ d, H d = none → E (.ref C) (some d) (upd H d (.xd [(f, v)]))
theorem bade_made {C : Addr} {f : Str} {v : V} {E : XK} {W : WX} {σ : L2.St} {i : Nat} {H : Hp} (at_ : σ[i]? = some (some v)) (h : BadE C f v E H) (hW : ∀ cls d H', E cls d H' → W cls d σ H') : tMkO C (spErrI C f) [] (tCons (tVar i) tNil) σ H (fun cls d H' => W cls d σ H') := by
  refine ⟨v, at_, (show 1 ≤ 1000 by decide), fun a ha => ⟨a, v, rfl, upd_same, fun d hd ne => ⟨rfl, d, _, upd_same, by rw [upd_ne ne, upd_same], by rw [upd_ne ne] at hd; exact hd, ?_⟩⟩⟩
  have hd0 : H d = none := by rw [upd_ne ne] at hd; exact hd
  have e : upd (del (upd (upd (upd H a (exo a C none)) d (exd d [(f, v)])) a (exo a C (some d))) a) d (.xd [(f, v)]) = upd H d (.xd [(f, v)]) := by
    funext b
    by_cases hb : b = d
    · subst hb
      rw [upd_same, upd_same]
    · rw [upd_ne hb, upd_ne hb]
      by_cases hba : b = a
      · subst hba
        rw [del_same, ha]
      · rw [del_ne hba, upd_ne hba, upd_ne hb, upd_ne hba]
  show W (.ref C) (some d) σ (upd (del (upd (upd (upd H a (exo a C none)) d (exd d [(f, v)])) a (exo a C (some d))) a) d (.xd [(f, v)]))
  rw [e]
  exact hW _ _ _ (h d hd0)
/-- an error class of one field -/
structure PrgF (K : PySem.W.Frag) (mg : Str → Option Value) (x f : Str) (C g : Addr) : Prop where
  g_ : mg x = some (.ref C)
  oB : OexC K C
  nF : PySem.W.findIn K (.ref C) f = some none
  iB : PySem.W.findIn K (.ref C) "__init__" = some (some (.ref g))
  tB : PySem.W.typeIn K (.ref g) = some (.type "function")
/-! ### values and heaps -/
def great : Int := 1000000000000000000000000000000
/-- a value of a built-in kind, or a rule -/
def AnyV (CF CD : Addr) (H : Hp) (v : V) : Prop := Kd H v ∨ ∃ x d, v = .ref x ∧ RuleAt CF CD H x d
theorem AnyV.same {CF CD : Addr} {H H' : Hp} {v : V} (h : AnyV CF CD H v) (s : Same H H') : AnyV CF CD H' v := h.imp (fun k => k.same s) fun ⟨x, d, e, r⟩ => ⟨x, d, e, r.same s⟩
theorem AnyV.ext {CF CD : Addr} {H H' : Hp} {v : V} (h : AnyV CF CD H v) (s : LamX.ExtN H H') : AnyV CF CD H' v := h.imp (fun k => k.ext s) fun ⟨x, d, e, r⟩ => ⟨x, d, e, r.ext s⟩
/-- neither class of rules is below int or bool -/
structure NoInt (K : PySem.W.Frag) (CF CD : Addr) : Prop where
  fi : PySem.W.kitOne K (.ref CF) (.type "int") = some false
  fb : PySem.W.kitOne K (.ref CF) (.type "bool") = some false
  di : PySem.W.kitOne K (.ref CD) (.type "int") = some false
  db : PySem.W.kitOne K (.ref CD) (.type "bool") = some false
def IntTy (K : PySem.W.Frag) (H : Hp) (x : V) : Prop := ∃ t, TyX K H x t ∧ PySem.W.kitOne K t (.type "int") = some (isIntV x) ∧ PySem.W.kitOne K t (.type "bool") = some (isBlV x)
theorem AnyV.int {K : PySem.W.Frag} {CF CD : Addr} {H : Hp} {v : V} (P : PrgQ K CF CD) (N : NoInt K CF CD) (h : AnyV CF CD H v) : IntTy K H v := by
  rcases h with k | ⟨x, d, rfl, dx, r⟩
  · exact k.isInt
  · cases d with
    | fixed _ _ _ _ => exact ⟨_, P.tyF.ty P.icF.cl r, N.fi, N.fb⟩
    | down _ _ _ => exact ⟨_, P.tyD.ty P.icD.cl r, N.di, N.db⟩
def spNumX (K : PySem.W.Frag) : Sp := fun vs H Q _ => ∃ (x : V) (lo hi : Int), vs = [x, .int lo, .int hi] ∧ IntTy K H x ∧ Q (.bl (numV lo hi x)) H
def standsB (d : RD) (n : Int) : Bool := decide (d.start ≤ n) && decide (n % d.mod = d.rest)
def leftI : RD → Int → Int
  | .fixed s _ _ _, n => n - s
  | .down t _ _, _ => t
def takenI : RD → Int → Int
  | .fixed s _ _ _, _ => s
  | .down t _ _, n => n - t
/-- what a rule answers: a refusal of the heap, of the take, or a value -/
inductive Out where
  | size (v : V)
  | take (v : V)
  | val (u : V)
def Out.Then (CZ CN : Addr) (E : XK) (Q : VK) (H : Hp) : Out → Prop
  | .size v => BadE CZ "value" v E H
  | .take v => BadE CN "number" v E H
  | .val u => Q u H
def outSize (v : V) : Out := if numV 0 great v = true then .val .non else .size v
def outStands (d : RD) (v : V) : Out := match v with
  | .int n => if numV 0 great v = true then .val (.bl (standsB d n)) else .size v
  | v => .size v
def outIf (f : Int → Int) (d : RD) (v : V) : Out := match v with
  | .int n => if numV 0 great v = true then (if standsB d n = true then .val (.int (f n)) else .take v) else .size v
  | v => .size v
def outCheck (d : RD) (v : V) : Out := match v with
  | .int n => if numV 0 great v = true then (if standsB d n = true then .val .non else .take v) else .size v
  | v => .size v
def outLeft (d : RD) : V → Out := outIf (leftI d) d
def outTaken (d : RD) : V → Out := outIf (takenI d) d
def spAt (CZ CN CF CD : Addr) (b : Bool) (g : RD → V → Out) : Sp := fun vs H Q E => ∃ (x : Addr) (d : RD) (v : V), vs = [.ref x, v] ∧ RuleAt CF CD H x d ∧ d.Wf ∧ d.isF = b ∧ AnyV CF CD H v ∧ (g d v).Then CZ CN E Q H
def spSize (CZ CN CF CD : Addr) : Sp := fun vs H Q E => ∃ v : V, vs = [v] ∧ AnyV CF CD H v ∧ (outSize v).Then CZ CN E Q H
def spStands (CF CD : Addr) : Sp := fun vs H Q _ => ∃ (x : Addr) (d : RD) (n : Int), vs = [.ref x, .int n] ∧ RuleAt CF CD H x d ∧ d.Wf ∧ Q (.bl (standsB d n)) H
def spCheck (CZ CN CF CD : Addr) : Sp := fun vs H Q E => ∃ (x : Addr) (d : RD) (v : V), vs = [.ref x, v] ∧ RuleAt CF CD H x d ∧ d.Wf ∧ AnyV CF CD H v ∧ (outCheck d v).Then CZ CN E Q H
def spLeftFrom (CF CD : Addr) : Sp := fun vs H Q _ => ∃ (x : Addr) (s r m l n : Int), vs = [.ref x, .int n] ∧ RuleAt CF CD H x (.fixed s r m l) ∧ Q (.int (n - s)) H
/-! ### what is heard -/
abbrev heardEx2 (CZ CN : Addr) (Q : VK) : XK := fun cls d H' => (cls = .ref CZ ∧ ∃ (dd : Addr) (v : V), d = some dd ∧ H' dd = some (.xd [("value", v)]) ∧ ∀ H'' t, Same H' H'' → H'' t = some (.tup [.str "size", v]) → Q (.ref t) H'') ∨
  (cls = .ref CN ∧ ∃ (dd : Addr) (v : V), d = some dd ∧ H' dd = some (.xd [("number", v)]) ∧ ∀ H'' t, Same H' H'' → H'' t = some (.tup [.str "take", v]) → Q (.ref t) H'')
def TTs (CZ CN : Addr) : (XK → Hp → VK → Prop) → Hp → VK → Prop := fun tl H Q => ∀ H1, Same H H1 → tl (heardEx2 CZ CN Q) H1 (heardNx Q)
def Out.Ans (H : Hp) (y : V) : Out → Prop
  | .size v => ∃ a, y = .ref a ∧ H a = some (.tup [.str "size", v])
  | .take v => ∃ a, y = .ref a ∧ H a = some (.tup [.str "take", v])
  | .val u => ∃ a, y = .ref a ∧ H a = some (.lst [u])
theorem Out.Ans.ext {H H' : Hp} {y : V} {o : Out} (h : o.Ans H y) (s : LamX.ExtN H H') : o.Ans H' y := by
  cases o with
  | size v => exact h.imp fun _ ⟨e, z⟩ => ⟨e, s _ _ z (fun _ z => nomatch z)⟩
  | take v => exact h.imp fun _ ⟨e, z⟩ => ⟨e, s _ _ z (fun _ z => nomatch z)⟩
  | val v => exact h.imp fun _ ⟨e, z⟩ => ⟨e, s _ _ z (fun _ z => nomatch z)⟩
theorem heard_out {CZ CN : Addr} {H : Hp} {Q : VK} (o : Out) (hQ : ∀ H' y, Same H H' → o.Ans H' y → Q y H') : o.Then CZ CN (heardEx2 CZ CN Q) (heardNx Q) H := by
  have kept : ∀ {d : Addr} {u : HO} {H'' : Hp}, H d = none → Same (upd H d u) H'' → Same H H'' := fun hd s b o e => s b o (by rw [upd_ne (ne_of_none e hd)]; exact e)
  cases o with
  | size v => exact fun d hd => .inl ⟨rfl, d, v, rfl, upd_same, fun H'' t s at_ => hQ H'' _ (kept hd s) ⟨t, rfl, at_⟩⟩
  | take v => exact fun d hd => .inr ⟨rfl, d, v, rfl, upd_same, fun H'' t s at_ => hQ H'' _ (kept hd s) ⟨t, rfl, at_⟩⟩
  | val u => exact fun H'' l s at_ => hQ H'' _ s ⟨l, rfl, at_⟩
end Fz

set_option Elab.async false
set_option linter.all false
set_option maxRecDepth 100000
set_option maxHeartbeats 2000000
/-! Own layer, fifteenth part: short data and its text; a rule's methods of one heap, of either class. -/
namespace Fz
open PySem PySem.Spec PyProof.Rows L2
/-! ### short data -/
structure Small (d : PyData) : Prop where
  sh : d.showable = true
  nd : d.hasDict = false
  dp : d.depth ≤ 5
  ln : d.shown.length ≤ 1000
theorem great_log {n : Int} (h0 : 0 ≤ n) (h1 : n ≤ great) : n.natAbs.log2 < 1920 := by
  by_cases e : n.natAbs = 0
  · rw [e]
    decide +kernel
  · exact (Nat.log2_lt e).mpr (Nat.lt_of_le_of_lt (show n.natAbs ≤ 1000000000000000000000000000000 by unfold great at h1; omega) (by decide +kernel))
theorem great_len {n : Int} (h0 : 0 ≤ n) (h1 : n ≤ great) : (toString n : Str).length ≤ 31 := toString_length_le h0 (by decide) (show n < 10 ^ 31 by unfold great at h1; omega)
theorem small_int {n : Int} (h0 : 0 ≤ n) (h1 : n ≤ great) : Small (.int n) where
  sh := by rw [PyData.showable]; exact decide_eq_true (great_log h0 h1)
  nd := by rw [PyData.hasDict]
  dp := by rw [PyData.depth]; omega
  ln := by
    rw [PyData.shown]
    exact Nat.le_trans (great_len h0 h1) (by decide)
theorem small_len {d : PyData} (h : d.leavesShort 100 = true) (b : d.bulk ≤ 8) : d.shown.length ≤ 1000 := by
  have z := PyData.shown_le_bulk 100 (by decide) d h
  have z2 : 102 * d.bulk ≤ 102 * 8 := Nat.mul_le_mul_left _ b
  omega
theorem short_int {n : Int} (h0 : 0 ≤ n) (h1 : n ≤ great) : PyData.leavesShort 100 (.int n) = true := by
  rw [PyData.leavesShort]
  refine decide_eq_true ?_
  rw [PyData.shown]
  exact Nat.le_trans (great_len h0 h1) (by decide)
theorem small_one {n : Int} (h0 : 0 ≤ n) (h1 : n ≤ great) : Small (.list [.int n]) where
  sh := by simp only [PyData.showable, PyData.showableAll, decide_eq_true (great_log h0 h1), Bool.and_self]
  nd := by simp only [PyData.hasDict, PyData.hasDictAll, Bool.or_self]
  dp := by simp only [PyData.depth, PyData.depthAll]; decide
  ln := small_len (by simp only [PyData.leavesShort, PyData.leavesShortAll]; have z := short_int h0 h1; rw [PyData.leavesShort] at z; rw [z]; rfl) (by simp only [PyData.bulk, PyData.bulkAll]; decide)
theorem small_take {n : Int} (h0 : 0 ≤ n) (h1 : n ≤ great) : Small (.tuple [.str "take", .int n]) where
  sh := by simp only [PyData.showable, PyData.showableAll, decide_eq_true (great_log h0 h1), Bool.and_self]
  nd := by simp only [PyData.hasDict, PyData.hasDictAll, Bool.or_self]
  dp := by simp only [PyData.depth, PyData.depthAll]; decide
  ln := small_len (by
    have z := short_int h0 h1
    have y : PyData.leavesShort 100 (.str "take") = true := by decide +kernel
    simp only [PyData.leavesShort] at z y
    simp only [PyData.leavesShort, PyData.leavesShortAll]
    rw [z, y]
    rfl) (by simp only [PyData.bulk, PyData.bulkAll]; decide +kernel)
theorem smalls {ds : List PyData} (h : ∀ d ∈ ds, Small d) : PyData.showableAll ds = true ∧ PyData.hasDictAll ds = false ∧ PyData.depthAll ds ≤ 6 ∧ ∀ t ∈ PyData.shownAll ds, t.length ≤ 1000 := by
  induction ds with
  | nil =>
    simp only [PyData.showableAll, PyData.hasDictAll, PyData.depthAll, PyData.shownAll]
    exact ⟨trivial, trivial, by omega, fun t ht => nomatch ht⟩
  | cons d ds ih =>
    obtain ⟨a, b, c, e⟩ := ih fun x hx => h x (List.mem_cons_of_mem _ hx)
    have k := h d List.mem_cons_self
    have k3 := k.dp
    simp only [PyData.showableAll, PyData.hasDictAll, PyData.depthAll, PyData.shownAll, a, b, k.sh, k.nd, Bool.and_self, Bool.or_self]
    refine ⟨trivial, trivial, by omega, fun t ht => ?_⟩
    rcases List.mem_cons.mp ht with rfl | ht
    · exact k.ln
    · exact e t ht
theorem shownAll_len : ∀ ds : List PyData, (PyData.shownAll ds).length = ds.length
  | [] => by simp only [PyData.shownAll, List.length_nil]
  | d :: ds => by
    have ih := shownAll_len ds
    simp only [PyData.shownAll, List.length_cons, ih]
theorem rep_small {K : PySem.W.Frag} {H : Hp} {Q : VK} {l : Addr} {xs : List V} {ds : List PyData} (hl : H l = some (.lst xs)) (dp : DpAll K H xs ds) (h : ∀ d ∈ ds, Small d) (few : ds.length ≤ 900) (fin : Q (.str (PyData.shown (.list ds))) H) : rRepD K [.ref l] H Q := by
  obtain ⟨a, b, c, e⟩ := smalls h
  refine ⟨⟨l, _, rfl, Dp.lst (SqL.of hl) dp, ?_, ?_, ?_, ?_, fin⟩⟩
  · rw [PyData.showable]
    exact a
  · rw [PyData.hasDict]
    exact b
  · rw [PyData.depth]
    omega
  · rw [PyData.shown]
    refine text_from (m := 1000) e ?_
    rw [shownAll_len]
    omega
/-! ### a method of one heap -/
section
variable {P : Program} {w : World} {K : PySem.W.Frag} {mg : Str → Option Value} {base : Heap}
structure AtM (P : Program) (w : World) (K : PySem.W.Frag) (mg : Str → Option Value) (base : Heap) (CZ CN CF CD C : Addr) (b : Bool) (m : Str) (k : Nat) (g : RD → V → Out) (f : Addr) (fd : FuncData) : Prop where
  M : Meth K C m f
  G : FnOk P w K mg base (L2.CX P w) k f fd ["self", "n"] (spAt CZ CN CF CD b g)
  B : L2.Binds K fd ["self", "n"] []
  BK : KBn K fd ["self", "n"] 1 ["n"] (fun us ws => us ++ ws) (fun vs zs => vs ++ zs)
end
def tAt (CZ CN CF CD : Addr) (m : Str) (g : RD → V → Out) (i j : Nat) (E : XK) : TE := tEither (tMeth CF m (spAt CZ CN CF CD true g) [] E (tVar i) (tCons (tVar j) tNil)) (tMeth CD m (spAt CZ CN CF CD false g) [] E (tVar i) (tCons (tVar j) tNil))
def tAtK (CZ CN CF CD : Addr) (m : Str) (g : RD → V → Out) (i j : Nat) (E : XK) : TE := tEither (tMethK CF m (["n"] : List Str).length (spAt CZ CN CF CD true g) (fun vs zs => vs ++ zs) E (tVar i) (tCons (tVar j) tNil)) (tMethK CD m (["n"] : List Str).length (spAt CZ CN CF CD false g) (fun vs zs => vs ++ zs) E (tVar i) (tCons (tVar j) tNil))
section
variable {CZ CN CF CD x : Addr} {m : Str} {g : RD → V → Out} {i j : Nat} {E : XK} {σ : L2.St} {H : Hp} {Q : VK} {d : RD} {v : V} {TL : List (Addr × Str)}
theorem at_ok (no : ∀ d : RD, d.fs.lookup m = none) (vi : σ[i]? = some (some (.ref x))) (vj : σ[j]? = some (some v)) (hx : RuleAt CF CD H x d) (wf : d.Wf) (any : AnyV CF CD H v) (fin : (g d v).Then CZ CN E Q H) : tAt CZ CN CF CD m g i j E σ H Q := by
  obtain ⟨dx, ax⟩ := id hx
  have n := no d
  cases d with
  | fixed z r m l => exact .inl ⟨_, vi, x, dx, _, rfl, ax, n, _, vj, x, _, v, rfl, hx, wf, rfl, any, fin⟩
  | down t r m => exact .inr ⟨_, vi, x, dx, _, rfl, ax, n, _, vj, x, _, v, rfl, hx, wf, rfl, any, fin⟩
theorem atK_ok (no : ∀ d : RD, d.fs.lookup m = none) (vi : σ[i]? = some (some (.ref x))) (vj : σ[j]? = some (some v)) (hx : RuleAt CF CD H x d) (wf : d.Wf) (any : AnyV CF CD H v) (fin : (g d v).Then CZ CN E Q H) : tAtK CZ CN CF CD m g i j E σ H Q := by
  obtain ⟨dx, ax⟩ := id hx
  have n := no d
  cases d with
  | fixed z r m l => exact .inl ⟨_, vi, x, dx, _, rfl, ax, n, _, vj, rfl, x, _, v, rfl, hx, wf, rfl, any, fin⟩
  | down t r m => exact .inr ⟨_, vi, x, dx, _, rfl, ax, n, _, vj, rfl, x, _, v, rfl, hx, wf, rfl, any, fin⟩
theorem heard_at (no : ∀ d : RD, d.fs.lookup m = none) (tabs : LamX.Tabs TL H) (vi : σ[i]? = some (some (.ref x))) (vj : σ[j]? = some (some v)) (hx : RuleAt CF CD H x d) (wf : d.Wf) (any : AnyV CF CD H v) (hQ : ∀ H' y, LamX.ExtN H H' → LamX.Tabs TL H' → (g d v).Ans H' y → Q y H') : Box (LamX.tLam TL (TTs CZ CN) (tAt CZ CN CF CD m g i j)) σ H Q := by
  refine ⟨tabs, fun H3 e3 tabs3 H4 s4 => ?_⟩
  have ext4 := extN_same e3 s4
  exact at_ok no vi vj (hx.ext ext4) wf (any.ext ext4) (heard_out _ fun H5 y s5 ans => hQ H5 y (extN_same ext4 s5) (tabs3.ext fun b o e => s5 b o (s4 b o e)) ans)
theorem heard_atK (no : ∀ d : RD, d.fs.lookup m = none) (tabs : LamX.Tabs TL H) (vi : σ[i]? = some (some (.ref x))) (vj : σ[j]? = some (some v)) (hx : RuleAt CF CD H x d) (wf : d.Wf) (any : AnyV CF CD H v) (hQ : ∀ H' y, LamX.ExtN H H' → LamX.Tabs TL H' → (g d v).Ans H' y → Q y H') : Box (LamX.tLam TL (TTs CZ CN) (tAtK CZ CN CF CD m g i j)) σ H Q := by
  refine ⟨tabs, fun H3 e3 tabs3 H4 s4 => ?_⟩
  have ext4 := extN_same e3 s4
  exact atK_ok no vi vj (hx.ext ext4) wf (any.ext ext4) (heard_out _ fun H5 y s5 ans => hQ H5 y (extN_same ext4 s5) (tabs3.ext fun b o e => s5 b o (s4 b o e)) ans)
end
theorem noStandsAt (d : RD) : d.fs.lookup ("stands_at" : Str) = none := by cases d <;> rfl
theorem noLeftAt (d : RD) : d.fs.lookup ("left_at" : Str) = none := by cases d <;> rfl
theorem noTakenAt (d : RD) : d.fs.lookup ("taken_at" : Str) = none := by cases d <;> rfl
/-! ### answers gathered in a list -/
def Out.dat : Out → PyData
  | .take (.int n) => .tuple [.str "take", .int n]
  | .val (.int k) => .list [.int k]
  | _ => .none
def Out.Num : Out → Prop
  | .take (.int n) => 0 ≤ n ∧ n ≤ great
  | .val (.int k) => 0 ≤ k ∧ k ≤ great
  | _ => False
theorem Out.Num.small {o : Out} (h : o.Num) : Small o.dat := by
  cases o with
  | size v => exact h.elim
  | take v => cases v <;> first | exact h.elim | exact small_take h.1 h.2
  | val v => cases v <;> first | exact h.elim | exact small_one h.1 h.2
theorem Out.Num.dp {o : Out} (h : o.Num) {K : PySem.W.Frag} {H : Hp} {y : V} (a : o.Ans H y) : Dp K H y o.dat := by
  cases o with
  | size v => exact h.elim
  | take v =>
    obtain ⟨a, rfl, z⟩ := a
    cases v <;> first | exact h.elim | exact Dp.tup (SqT.of z) (.cons (.str _) (.cons (.int _) .nil))
  | val v =>
    obtain ⟨a, rfl, z⟩ := a
    cases v <;> first | exact h.elim | exact Dp.lst (SqL.of z) (.cons (.int _) .nil)
theorem Out.Ans.ref {H : Hp} {y : V} {o : Out} (h : o.Ans H y) : ∃ a, y = .ref a := by
  cases o <;> exact h.imp fun _ z => z.1
theorem Out.Ans.put {H : Hp} {y : V} {o : Out} (h : o.Ans H y) (n : ∀ u, o = .val u → ∀ b, u ≠ .ref b) {t b : Addr} {xs : List V} {u : HO} (ht : H t = some (.lst (.ref b :: xs))) : o.Ans (upd H t u) y := by
  cases o with
  | size v => exact h.imp fun a ⟨e, z⟩ => ⟨e, by rw [upd_ne (fun q => by rw [q, ht] at z; cases z)]; exact z⟩
  | take v => exact h.imp fun a ⟨e, z⟩ => ⟨e, by rw [upd_ne (fun q => by rw [q, ht] at z; cases z)]; exact z⟩
  | val v => exact h.imp fun a ⟨e, z⟩ => ⟨e, by
      rw [upd_ne (fun q => by
        rw [q, ht] at z
        exact n v rfl b (List.cons.inj (HO.lst.inj (Option.some.inj z))).1.symm)]
      exact z⟩
def Out.Plain (o : Out) : Prop := ∀ u, o = .val u → ∀ b, u ≠ .ref b
theorem Out.Num.plain {o : Out} (h : o.Num) : o.Plain := fun u e b q => by
  rw [e, q] at h
  exact h
inductive AnsAll (H : Hp) : List V → List Out → Prop
  | nil : AnsAll H [] []
  | cons {y ys o os} : o.Ans H y → AnsAll H ys os → AnsAll H (y :: ys) (o :: os)
theorem AnsAll.ext {H H' : Hp} {ys : List V} {os : List Out} (h : AnsAll H ys os) (s : LamX.ExtN H H') : AnsAll H' ys os := by
  induction h with
  | nil => exact .nil
  | cons a _ ih => exact .cons (a.ext s) ih
theorem AnsAll.put {H : Hp} {ys : List V} {os : List Out} (h : AnsAll H ys os) (n : ∀ o ∈ os, ∀ u, o = .val u → ∀ b, u ≠ .ref b) {t b : Addr} {xs : List V} {u : HO} (ht : H t = some (.lst (.ref b :: xs))) : AnsAll (upd H t u) ys os := by
  induction h with
  | nil => exact .nil
  | cons a _ ih => exact .cons (a.put (n _ List.mem_cons_self) ht) (ih fun o ho => n o (List.mem_cons_of_mem _ ho))
theorem AnsAll.app {H : Hp} {ys : List V} {os : List Out} {y : V} {o : Out} (h : AnsAll H ys os) (a : o.Ans H y) : AnsAll H (ys ++ [y]) (os ++ [o]) := by
  induction h with
  | nil => exact .cons a .nil
  | cons b _ ih => exact .cons b ih
theorem AnsAll.len {H : Hp} {ys : List V} {os : List Out} (h : AnsAll H ys os) : ys.length = os.length := by
  induction h with
  | nil => rfl
  | cons _ _ ih => exact congrArg Nat.succ ih
theorem AnsAll.dp {K : PySem.W.Frag} {H : Hp} {ys : List V} {os : List Out} (h : AnsAll H ys os) (n : ∀ o ∈ os, o.Num) : DpAll K H ys (os.map Out.dat) := by
  induction h with
  | nil => exact .nil
  | cons a _ ih => exact .cons ((n _ List.mem_cons_self).dp a) (ih fun o ho => n o (List.mem_cons_of_mem _ ho))
theorem AnsAll.all {H : Hp} {ys : List V} {os : List Out} {o : Out} (h : AnsAll H ys os) (n : ∀ u ∈ os, u = o) {y : V} (hy : y ∈ ys) : o.Ans H y := by
  induction h with
  | nil => cases hy
  | cons a _ ih =>
    rcases List.mem_cons.mp hy with rfl | hy
    · rw [n _ List.mem_cons_self] at a
      exact a
    · exact ih (fun u hu => n u (List.mem_cons_of_mem _ hu)) hy
/-- a list of answers at td, made behind H0 -/
structure ToldAt (TL : List (Addr × Str)) (H0 : Hp) (td : Addr) (os : List Out) (H : Hp) : Prop where
  ext : LamX.ExtN H0 H
  tabs : LamX.Tabs TL H
  new : ∀ b o, H0 b = some o → (∀ ps, o ≠ .tbl ps) → b ≠ td
  ys : ∃ (a : Addr) (ys : List V), H td = some (.lst (.ref a :: ys)) ∧ AnsAll H (.ref a :: ys) os
theorem ToldAt.first {TL : List (Addr × Str)} {H0 H : Hp} {td : Addr} {o : Out} {y : V} (e : LamX.ExtN H0 H) (t : LamX.Tabs TL H) (a : o.Ans H y) (un : H td = none) : ToldAt TL H0 td [o] (upd H td (.lst [y])) := by
  obtain ⟨b, rfl⟩ := a.ref
  have s := Same.new (o := .lst [V.ref b]) un
  exact ⟨extN_same e s, t.ext s, fun c o h n => ne_of_none (e c o h n) un, b, [], upd_same, .cons (a.ext (.of s)) .nil⟩
theorem ToldAt.app {TL : List (Addr × Str)} {H0 H H' : Hp} {td : Addr} {os : List Out} {o : Out} {y : V} (h : ToldAt TL H0 td os H) (n : ∀ o ∈ os, o.Plain) (k : o.Plain) (e : LamX.ExtN H H') (t : LamX.Tabs TL H') (a : o.Ans H' y) :
    ∃ ys, H' td = some (.lst ys) ∧ ys.length = os.length ∧ ToldAt TL H0 td (os ++ [o]) (upd H' td (.lst (ys ++ [y]))) := by
  obtain ⟨b, ys, ht, all⟩ := h.ys
  have ht' := e _ _ ht (fun _ z => nomatch z)
  have all' := all.ext e
  refine ⟨_, ht', all'.len, fun c u hc nt => ?_, tabs_mv ht' Mv.here t, h.new, b, ys ++ [y], upd_same, ?_⟩
  · rw [upd_ne (h.new c u hc nt)]
    exact e _ _ (h.ext _ _ hc nt) nt
  · exact (all'.put n ht').app (a.put k ht')
/-! ### values that are no heaps -/
def OddV (x : Addr) (H : Hp) (v : V) : Prop := v = .non ∨ v = .bl true ∨ v = .bl false ∨ v = .int (-1) ∨ v = .int (10 ^ 30 + 1) ∨ v = .int (10 ^ 39) ∨ v = .str "1" ∨ (∃ a, v = .ref a ∧ H a = some (.tup [.int 1])) ∨ (∃ a, v = .ref a ∧ H a = some (.lst [.int 0])) ∨ (∃ a, v = .ref a ∧ H a = some (.dK [])) ∨ v = .ref x
section
variable {K : PySem.W.Frag} {CF CD x : Addr} {H H' : Hp} {v : V} {d : RD}
theorem OddV.ext (h : OddV x H v) (s : LamX.ExtN H H') : OddV x H' v := by
  rcases h with h | h | h | h | h | h | h | ⟨a, e, z⟩ | ⟨a, e, z⟩ | ⟨a, e, z⟩ | h
  · exact .inl h
  · exact .inr (.inl h)
  · exact .inr (.inr (.inl h))
  · exact .inr (.inr (.inr (.inl h)))
  · exact .inr (.inr (.inr (.inr (.inl h))))
  · exact .inr (.inr (.inr (.inr (.inr (.inl h)))))
  · exact .inr (.inr (.inr (.inr (.inr (.inr (.inl h))))))
  · exact .inr (.inr (.inr (.inr (.inr (.inr (.inr (.inl ⟨a, e, s _ _ z (fun _ z => nomatch z)⟩)))))))
  · exact .inr (.inr (.inr (.inr (.inr (.inr (.inr (.inr (.inl ⟨a, e, s _ _ z (fun _ z => nomatch z)⟩))))))))
  · exact .inr (.inr (.inr (.inr (.inr (.inr (.inr (.inr (.inr (.inl ⟨a, e, s _ _ z (fun _ z => nomatch z)⟩)))))))))
  · exact .inr (.inr (.inr (.inr (.inr (.inr (.inr (.inr (.inr (.inr h)))))))))
/-- it is the rule itself, or a value of a built-in kind with a short text -/
theorem OddV.how (h : OddV x H v) : v = .ref x ∨ (Kd H v ∧ ∃ dat, RepData K H v dat ∧ dat.showable = true ∧ dat.depth ≤ 60 ∧ dat.shown.length ≤ sizeLine) := by
  rcases h with rfl | rfl | rfl | rfl | rfl | rfl | rfl | ⟨a, rfl, z⟩ | ⟨a, rfl, z⟩ | ⟨a, rfl, z⟩ | rfl
  · exact .inr ⟨True.intro, .none, .inl ⟨.non, by decide +kernel⟩, by decide +kernel, by decide +kernel, by decide +kernel⟩
  · exact .inr ⟨True.intro, .bool true, .inl ⟨.bl _, by decide +kernel⟩, by decide +kernel, by decide +kernel, by decide +kernel⟩
  · exact .inr ⟨True.intro, .bool false, .inl ⟨.bl _, by decide +kernel⟩, by decide +kernel, by decide +kernel, by decide +kernel⟩
  · exact .inr ⟨True.intro, .int (-1), .inl ⟨.int _, by decide +kernel⟩, by decide +kernel, by decide +kernel, by decide +kernel⟩
  · exact .inr ⟨True.intro, .int (10 ^ 30 + 1), .inl ⟨.int _, by decide +kernel⟩, by decide +kernel, by decide +kernel, by decide +kernel⟩
  · exact .inr ⟨True.intro, .int (10 ^ 39), .inl ⟨.int _, by decide +kernel⟩, by decide +kernel, by decide +kernel, by decide +kernel⟩
  · exact .inr ⟨True.intro, .str "1", .inl ⟨.str _, by decide +kernel⟩, by decide +kernel, by decide +kernel, by decide +kernel⟩
  · exact .inr ⟨.inl ⟨_, z⟩, .tuple [.int 1], .inl ⟨Dp.tup (SqT.of z) (.cons (.int _) .nil), by decide +kernel⟩, by decide +kernel, by decide +kernel, by decide +kernel⟩
  · exact .inr ⟨.inr (.inl ⟨_, z⟩), .list [.int 0], .inl ⟨Dp.lst (SqL.of z) (.cons (.int _) .nil), by decide +kernel⟩, by decide +kernel, by decide +kernel, by decide +kernel⟩
  · exact .inr ⟨.inr (.inr ⟨_, z⟩), .dict [], .inr ⟨a, rfl, z, rfl⟩, by decide +kernel, by decide +kernel, by decide +kernel⟩
  · exact .inl rfl
theorem OddV.any (h : OddV x H v) (hx : RuleAt CF CD H x d) : AnyV CF CD H v := by
  rcases h with rfl | rfl | rfl | rfl | rfl | rfl | rfl | ⟨a, rfl, z⟩ | ⟨a, rfl, z⟩ | ⟨a, rfl, z⟩ | rfl
  · exact .inl True.intro
  · exact .inl True.intro
  · exact .inl True.intro
  · exact .inl True.intro
  · exact .inl True.intro
  · exact .inl True.intro
  · exact .inl True.intro
  · exact .inl (.inl ⟨_, z⟩)
  · exact .inl (.inr (.inl ⟨_, z⟩))
  · exact .inl (.inr (.inr ⟨_, z⟩))
  · exact .inr ⟨_, d, rfl, hx⟩
theorem OddV.out (h : OddV x H v) (d : RD) : outStands d v = .size v ∧ outLeft d v = .size v ∧ outTaken d v = .size v := by
  rcases h with rfl | rfl | rfl | rfl | rfl | rfl | rfl | ⟨a, rfl, z⟩ | ⟨a, rfl, z⟩ | ⟨a, rfl, z⟩ | rfl <;> exact ⟨rfl, rfl, rfl⟩
theorem eqb_other {Q : VK} (P : PrgQ K CF CD) (hx : RuleAt CF CD H x d) (kd : Kd H v) (fin : Q (.bl false) H) : rEither (rEqBack CF (spEqR K CF)) (rEqBack CD (spEqR K CD)) v (.ref x) H Q := by
  obtain ⟨dx, ax⟩ := hx
  obtain ⟨n, l, ty, e, no⟩ := OtherV.same (K := K) kd (fun _ _ z => z)
  cases d with
  | fixed s r m l => exact .inl ⟨x, dx, _, rfl, ax, kd, x, dx, _, _, _, rfl, ax, fs_rank (.fixed s r m l), .inr ⟨_, ty, kit_other P.icF.cl.hd P.tF e (no CF), fin⟩⟩
  | down t r m => exact .inr ⟨x, dx, _, rfl, ax, kd, x, dx, _, _, _, rfl, ax, fs_rank (.down t r m), .inr ⟨_, ty, kit_other P.icD.cl.hd P.tD e (no CD), fin⟩⟩
end
/-! ### a test that is a conditional expression -/
section
variable {X : Cx} {a b c : Expr} {tA tB tC : L2.TT} {pos : Pos}
def tIfT (tA tB tC : L2.TT) : L2.TT := fun σ H Q => tA σ H fun d H1 => if d = true then tB σ H1 Q else tC σ H1 Q
theorem pt_ifT (hc : PT X c tA) (ha : PT X a tB) (hb : PT X b tC) : PT X (.IfExp c a b pos) (tIfT tA tB tC) := by
  refine ⟨fun pins s σ H Q I h => isTrue_IfExp (wpAny_mono (hc.run pins s σ H _ I h) (fun d s1 z => ?_) fun _ _ z => z)⟩
  obtain ⟨H1, I1, q1⟩ := z
  cases d with
  | true => exact ha.run pins s1 σ H1 Q I1 q1
  | false => exact hb.run pins s1 σ H1 Q I1 q1
end
end Fz

set_option Elab.async false
set_option linter.all false
set_option maxRecDepth 100000
set_option maxHeartbeats 2000000
/-! Own layer: a classmethod called by keywords; texts and their parts; an error of two fields; what reading promises. -/
namespace Fz
open PySem PySem.Spec PyProof.Rows L2 TL
section
variable {X : Cx} {CX : CXT} {k : Nat} {C p g : Addr} {mc : Value} {fd : FuncData} {ps ks : List Str} {sp : Sp} {E : XK} {o : Expr} {kws : List Keyword} {m : Str} {pos apos : Pos} {ta : TE} {tk : TA} {gg : List Value → List Value → List Value} {gV : List V → List V → List V}
/-- C.m(k = v, ..), m a classmethod -/
def tCMethK (C : Addr) (n : Nat) (sp : Sp) (gV : List V → List V → List V) (E : XK) (ta : TE) (tk : TA) : TE := fun σ H Q => ta σ H fun x H1 => x = .ref C ∧ tk σ H1 fun zs H2 => zs.length = n ∧ sp (gV [.ref C] zs) H2 Q E
theorem pe_cmethK0 {pl : Sem Bool} (he : PE X o ta) (r : ClX.CRead X.K C mc) (c : ClX.CMet X.K C mc m p g) (F : FnOk X.prog X.w X.K X.mg X.base CX k g fd ps sp) (room : Room k X.A) (binds : KBn X.K fd ps 1 ks gg gV) (pass : Passes CX X E) (hkw : PK X kws tk)
    (named : (backToKw pos (keywordEach kws X.env)).all (·.1.isSome) = true := by rfl) (names : (backToKw pos (keywordEach kws X.env)).filterMap (·.1) = ks := by rfl)
    (plain : ((backTo pos (starEach [] X.env)).any (·.1) || (backToKw pos (keywordEach kws X.env)).any (·.1.isNone)) = false := by rfl)
    (tree : eval (.Call (.Attribute o m apos) [] kws pos) X.env = (do
      let ov ← eval o X.env
      standAt apos.atName
      let (f, first) ← holding [ov] (getMethod ov m pl)
      callWith pos f first (backTo pos (starEach [] X.env)) (backToKw pos (keywordEach kws X.env))) := by rfl) :
    PE X (.Call (.Attribute o m apos) [] kws pos) (tCMethK C ks.length sp gV E ta tk) := by
  refine ⟨fun pins s σ H Q I h => PySem.W.methodCall_KW (pl := pl) (thn (he.run pins s σ H _ I h) fun u s1 ⟨x, H1, I1, rx, ex, q⟩ => ?_) tree⟩
  subst ex
  obtain rfl : u = Value.ref C := rx
  refine ClX.getmethcm_ok I1 r c fun s2 I2 => ?_
  refine PySem.W.callWith_of (P := PySem.W.MethP X.K s1.heap.objs.size g (.ref C)) plain (PySem.W.keeps_M c.fi) (evalArgs_kw2_nil named ?_)
  refine thn (hkw.run pos _ s2 σ H1 _ I2 q) fun ws s3 ⟨zs, H2, I3, rz, len, q2⟩ => ⟨⟨ClX.pin_at I3, I3.kIn⟩, ?_⟩
  rw [names]
  have z : wpAny (model X.prog X.w) X.A (call (.ref s1.heap.objs.size) ([] ++ []) (ks.zip ws)) (EP X ((s1.heap.objs.size, PySem.W.methodObj (.ref g) (.ref C)) :: pins) σ Q) X.xe s3 := by
    refine wpAny_call (PySem.W.method_call (ClX.pin_at I3) ?_)
    refine codeAny_mono (F.run X.A X.stack s3 H2 ⟨[.ref C], ks.zip ws⟩ (gg [.ref C] ws) (gV [.ref C] zs) Q E room I3.env0 (binds.to s3 [.ref C] ws I3.kIn rfl (rz.length.symm.trans len)) (binds.rel (.cons rfl .nil) rz) q2) fun res s' got => ?_
    match res, got with
    | .error err, got => exact pass _ σ H2 s3 err s' I3 got
    | .ok (.ret u), got => exact I3.after got
    | .ok .next, got => exact got.elim
    | .ok .brk, got => exact got.elim
    | .ok .cont, got => exact got.elim
  exact thn z fun _ _ y => ClX.unpinE y
end
/-! ### texts and their parts -/
theorem spl_ne (S : List Nat) : ∀ (l acc : List Nat) (k : Nat), spl S k acc l ≠ []
  | [], acc, k => by rw [spl_nil]; simp
  | c :: r, acc, 0 => by
    show (if pre S (c :: r) = true then acc :: spl S (S.length - 1) [] r else spl S 0 (acc ++ [c]) r) ≠ []
    split
    · simp
    · exact spl_ne S r _ 0
  | c :: r, acc, k + 1 => spl_ne S r acc k
theorem split_ne (z : Str) : Txt.split z sp1 ≠ [] := fun e => by
  have q := split_spl z sp1 (by rw [tl_sp]; simp) (kind_ok sp_small)
  rw [e] at q
  exact spl_ne _ _ _ _ q.symm
theorem joinL_mem (S : List Nat) : ∀ (ps : List (List Nat)), (∀ p ∈ ps, p.length ≤ (joinL S ps).length ∧ ∀ c ∈ p, c ∈ joinL S ps)
  | [], p, h => by cases h
  | [q], p, h => by
    rw [List.mem_singleton.mp h]
    exact ⟨Nat.le_refl _, fun _ z => z⟩
  | q :: r :: t, p, h => by
    show p.length ≤ (q ++ (S ++ joinL S (r :: t))).length ∧ ∀ c ∈ p, c ∈ q ++ (S ++ joinL S (r :: t))
    rw [List.length_append, List.length_append]
    rcases List.mem_cons.mp h with rfl | h
    · exact ⟨by omega, fun c hc => List.mem_append_left _ hc⟩
    · obtain ⟨a, b⟩ := joinL_mem S (r :: t) p h
      exact ⟨by omega, fun c hc => List.mem_append_right _ (List.mem_append_right _ (b c hc))⟩
/-- a short text of plain signs -/
structure Plain (n : Nat) (z : Str) : Prop where
  len : z.length ≤ n
  asc : ∀ c ∈ tl z, c < 128
theorem Plain.ok {n : Nat} {z : Str} (h : Plain n z) : PySem.PyData.strOk z = true := by
  unfold PySem.PyData.strOk
  rw [← Array.all_toList, List.all_eq_true]
  intro c hc
  have q := h.asc c hc
  exact decide_eq_true (by omega)
theorem Plain.part {n : Nat} {z : Str} (h : Plain n z) {p : Str} (hp : p ∈ Txt.split z sp1) : Plain n p := by
  have j := StrLaws.join_split z sp1
  have e := tl_join sp1 (Txt.split z sp1)
  rw [j] at e
  obtain ⟨a, b⟩ := joinL_mem (tl sp1) ((Txt.split z sp1).map tl) (tl p) (List.mem_map_of_mem hp)
  rw [← e] at a b
  have l1 := len_tl p
  have l2 := len_tl z
  exact ⟨by have := h.len; omega, fun c hc => h.asc c (b c hc)⟩
theorem Plain.parts {n : Nat} {z : Str} (h : Plain n z) : (Txt.split z sp1).length ≤ n + 2 := by
  have a := PyProof.Rows.split_le z sp1
  have b := h.len
  omega
/-- words of a list: each short and plain, not too many -/
structure WsOk (ws : List Str) : Prop where
  each : ∀ z ∈ ws, Plain 5000 z
  few : ws.length ≤ 6000
theorem Plain.ws {z : Str} (h : Plain 5000 z) : WsOk (Txt.split z sp1) := ⟨fun _ hp => h.part hp, by have := h.parts; omega⟩
/-- what the joined words are -/
theorem joinL_len (S : List Nat) (m : Nat) : ∀ (ps : List (List Nat)), (∀ p ∈ ps, p.length ≤ m) → (joinL S ps).length ≤ ps.length * (m + S.length)
  | [], _ => by simp [joinL]
  | [q], h => by
    have a := h q (by simp)
    show q.length ≤ 1 * (m + S.length)
    omega
  | q :: r :: t, h => by
    have a := h q (by simp)
    have b := joinL_len S m (r :: t) fun p hp => h p (List.mem_cons_of_mem _ hp)
    show (q ++ (S ++ joinL S (r :: t))).length ≤ (t.length + 1 + 1) * (m + S.length)
    rw [List.length_append, List.length_append]
    rw [List.length_cons] at b
    rw [Nat.add_mul (t.length + 1) 1]
    omega
theorem joinL_in (S : List Nat) : ∀ (ps : List (List Nat)) (c : Nat), c ∈ joinL S ps → c ∈ S ∨ ∃ p ∈ ps, c ∈ p
  | [], c, h => by cases h
  | [q], c, h => .inr ⟨q, by simp, h⟩
  | q :: r :: t, c, h => by
    rcases List.mem_append.mp (show c ∈ q ++ (S ++ joinL S (r :: t)) from h) with h | h
    · exact .inr ⟨q, by simp, h⟩
    · rcases List.mem_append.mp h with h | h
      · exact .inl h
      · rcases joinL_in S (r :: t) c h with h | ⟨p, hp, h⟩
        · exact .inl h
        · exact .inr ⟨p, List.mem_cons_of_mem _ hp, h⟩
theorem plain_join {ws : List Str} {n m : Nat} (h : ∀ z ∈ ws, Plain n z) (few : ws.length ≤ m) : Plain (m * (n + 1)) (Str.join sp1 ws) := by
  have e := tl_join sp1 ws
  have l := len_tl (Str.join sp1 ws)
  rw [tl_sp] at e
  refine ⟨?_, fun c hc => ?_⟩
  · have a := joinL_len [32] n (ws.map tl) fun p hp => by
      obtain ⟨z, hz, rfl⟩ := List.mem_map.mp hp
      have l1 := len_tl z
      have l2 := (h z hz).len
      omega
    rw [← e, List.length_map] at a
    have b : ws.length * (n + [32].length) ≤ m * (n + 1) := Nat.mul_le_mul_right _ few
    omega
  · rw [e] at hc
    rcases joinL_in _ _ _ hc with hc | ⟨p, hp, hc⟩
    · rw [List.mem_singleton.mp hc]
      decide
    · obtain ⟨z, hz, rfl⟩ := List.mem_map.mp hp
      exact (h z hz).asc c hc
/-! ### words in a heap -/
def WordsAt (H : Hp) (p : Addr) (ws : List Str) : Prop := H p = some (.lst (ws.map V.str))
theorem WordsAt.same {H H' : Hp} {p : Addr} {ws : List Str} (h : WordsAt H p ws) (s : Same H H') : WordsAt H' p ws := s _ _ h
def optI : Option Int → V
  | some i => .int i
  | none => .non
def optN : Option Nat → V
  | some i => .int (i : Int)
  | none => .non
theorem at_str {ws : List Str} {i : Nat} {z : Str} (h : ws[i]? = some z) : atI (ws.map V.str) (i : Int) = some (.str z) := by
  have l : i < ws.length := by
    rcases Nat.lt_or_ge i ws.length with q | q
    · exact q
    · rw [List.getElem?_eq_none q] at h
      cases h
  unfold atI ixN
  rw [if_pos (by omega), if_pos (by rw [List.length_map]; omega)]
  show (ws.map V.str)[(i : Int).toNat]? = _
  rw [Int.toNat_natCast, List.getElem?_map, h]
  rfl
/-- x[a:b] of a list of words -/
theorem cut_strs (ws : List Str) (a b : Nat) : cutV (ws.map V.str) (some (a : Int)) (some (b : Int)) = ((ws.drop a).take (b - a)).map V.str := by
  unfold cutV
  rw [HT.sIx_nat, HT.sIx_nat, List.length_map, ← List.map_drop, ← List.map_take]
  congr 1
  rcases Nat.le_total a ws.length with h | h
  · rw [Nat.min_eq_left h]
    rcases Nat.le_total b ws.length with h2 | h2
    · rw [Nat.min_eq_left h2]
    · rw [Nat.min_eq_right h2, List.take_of_length_le (by rw [List.length_drop]; omega), List.take_of_length_le (by rw [List.length_drop]; omega)]
  · rw [Nat.min_eq_right h, List.drop_length, List.drop_eq_nil_of_le h]
    simp
theorem dp_strs {K : PySem.W.Frag} {H : Hp} : ∀ ws : List Str, DpAll K H (ws.map V.str) (ws.map PyData.str)
  | [] => .nil
  | z :: r => .cons (.str z) (dp_strs r)
theorem lay_strs : ∀ {ws : List Str}, (∀ z ∈ ws, PySem.PyData.strOk z = true) → PyData.canLayAll0 (ws.map PyData.str) = true
  | [], _ => rfl
  | z :: r, h => by
    show (PyData.canLay0 (.str z) && PyData.canLayAll0 (r.map PyData.str)) = true
    rw [lay_strs fun y hy => h y (List.mem_cons_of_mem _ hy), Bool.and_true]
    show PySem.PyData.strOk z = true
    exact h z (List.mem_cons_self ..)
theorem depth_strs : ∀ ws : List Str, PyData.depthAll (ws.map PyData.str) ≤ 1
  | [] => by decide
  | z :: r => by
    have q := depth_strs r
    show max (PyData.depth (.str z)) (PyData.depthAll (r.map PyData.str)) ≤ 1
    have e : PyData.depth (.str z) ≤ 1 := by simp [PyData.depth]
    omega
theorem shaped_strs {ws : List Str} (h : ∀ z ∈ ws, PySem.PyData.strOk z = true) : SeqAt.shaped (.list (ws.map PyData.str)) = true := by
  unfold SeqAt.shaped
  rw [show PyData.canLay0 (.list (ws.map PyData.str)) = PyData.canLayAll0 (ws.map PyData.str) from by simp [PyData.canLay0], lay_strs h, Bool.true_and]
  refine decide_eq_true ?_
  have q := depth_strs ws
  simp only [PyData.depth]
  omega
theorem eqv_strs : ∀ xs ys : List Str, PyData.eqvAll (xs.map PyData.str) (ys.map PyData.str) = decide (xs = ys)
  | [], [] => by simp [PyData.eqvAll]
  | [], y :: ys => by simp [PyData.eqvAll]
  | x :: xs, [] => by simp [PyData.eqvAll]
  | x :: xs, y :: ys => by
    show (PyData.eqv (.str x) (.str y) && PyData.eqvAll (xs.map PyData.str) (ys.map PyData.str)) = _
    rw [eqv_strs xs ys]
    by_cases h : x = y <;> simp [PyData.eqv, h]
/-- words[a:b] == [..] -/
theorem eq_words {K : PySem.W.Frag} {H : Hp} {Q : VK} {a b : Addr} {xs ys : List Str} (ha : H a = some (.lst (xs.map V.str))) (hb : H b = some (.lst (ys.map V.str))) (ox : ∀ z ∈ xs, PySem.PyData.strOk z = true) (oy : ∀ z ∈ ys, PySem.PyData.strOk z = true) (fin : Q (.bl (decide (xs = ys))) H) : rEqD K (.ref a) (.ref b) H Q := by
  refine ⟨.list (xs.map PyData.str), .list (ys.map PyData.str), Dp.lst (SqL.of ha) (dp_strs xs), Dp.lst (SqL.of hb) (dp_strs ys), shaped_strs ox, shaped_strs oy, ?_⟩
  rw [show PyData.eqv (.list (xs.map PyData.str)) (.list (ys.map PyData.str)) = PyData.eqvAll (xs.map PyData.str) (ys.map PyData.str) from by simp [PyData.eqv], eqv_strs]
  exact fin
theorem inV_strs (z : Str) (ws : List Str) : inV (.str z) (ws.map V.str) = decide (z ∈ ws) := by
  unfold inV
  induction ws with
  | nil => simp
  | cons y r ih =>
    rw [List.map_cons, List.any_cons, ih]
    have e : eqV (.str y) (.str z) = decide (z = y) := by
      by_cases h : z = y
      · subst h
        simp [eqV]
      · simp [eqV, h, Ne.symm h]
    rw [e]
    by_cases h : z = y <;> simp [h]
theorem flat_strs (ws : List Str) : (ws.map V.str).all flatV = true := by
  rw [List.all_map, List.all_eq_true]
  intro z _
  rfl
/-! ### slots in a heap -/
def SlotAt (H : Hp) (t : Addr) : WSlot → Prop
  | .one l => l ≠ [] ∧ H t = some (.tup (l.map V.str))
  | .num lo hi => 0 ≤ lo ∧ lo ≤ 400 ∧ 0 ≤ hi ∧ hi ≤ 400 ∧ H t = some (.tup [.int lo, .int hi])
theorem SlotAt.same {H H' : Hp} {t : Addr} {s : WSlot} (h : SlotAt H t s) (m : Same H H') : SlotAt H' t s := by
  cases s with
  | one l => exact ⟨h.1, m _ _ h.2⟩
  | num lo hi => exact ⟨h.1, h.2.1, h.2.2.1, h.2.2.2.1, m _ _ h.2.2.2.2⟩
inductive SlotsL (H : Hp) : List V → List WSlot → Prop
  | nil : SlotsL H [] []
  | cons {t : Addr} {s : WSlot} {xs : List V} {sl : List WSlot} : SlotAt H t s → SlotsL H xs sl → SlotsL H (.ref t :: xs) (s :: sl)
theorem SlotsL.same {H H' : Hp} {xs : List V} {sl : List WSlot} (h : SlotsL H xs sl) (m : Same H H') : SlotsL H' xs sl := by
  induction h with
  | nil => exact .nil
  | cons a _ ih => exact .cons (a.same m) ih
theorem SlotsL.len {H : Hp} {xs : List V} {sl : List WSlot} (h : SlotsL H xs sl) : xs.length = sl.length := by
  induction h with
  | nil => rfl
  | cons _ _ ih => rw [List.length_cons, List.length_cons, ih]
theorem SlotsL.app {H : Hp} {xs ys : List V} {sl tl : List WSlot} (h : SlotsL H xs sl) (g : SlotsL H ys tl) : SlotsL H (xs ++ ys) (sl ++ tl) := by
  induction h with
  | nil => exact g
  | cons a _ ih => exact .cons a ih
theorem SlotsL.at_ {H : Hp} {xs : List V} {sl : List WSlot} (h : SlotsL H xs sl) {i : Nat} {s : WSlot} (e : sl[i]? = some s) : ∃ t, xs[i]? = some (.ref t) ∧ SlotAt H t s := by
  induction h generalizing i with
  | nil => simp at e
  | cons a _ ih =>
    cases i with
    | zero =>
      cases e
      exact ⟨_, rfl, a⟩
    | succ i => exact ih (by simpa using e)
/-! ### an error of two fields -/
def spBadT (C : Addr) : Sp := fun vs H Q _ => ∃ (a : Addr) (x y : V), vs = [.ref a, x, y] ∧ H a = some (exo a C none) ∧ ∀ d, H d = none → d ≠ a → Q .non (upd (upd (upd H d (exd d [("line", x)])) a (exo a C (some d))) d (exd d [("word", y), ("line", x)]))
def BadT (C : Addr) (x y : V) (E : XK) (H : Hp) : Prop := ∀ d, H d = none → E (.ref C) (some d) (upd H d (.xd [("word", y), ("line", x)]))
theorem badt_made {C : Addr} {x y : V} {E : XK} {W : WX} {σ : L2.St} {H : Hp} {ta : TA} (args : ∀ Q : List V → Hp → Prop, Q [x, y] H → ta σ H Q) (h : BadT C x y E H) (hW : ∀ cls d H', E cls d H' → W cls d σ H') : tMkO C (spBadT C) [] ta σ H (fun cls d H' => W cls d σ H') := by
  refine args _ ⟨(show 2 ≤ 1000 by decide), fun a ha => ⟨a, x, y, rfl, upd_same, fun d hd ne => ⟨rfl, d, _, by rw [upd_ne (Ne.symm ne), upd_same], upd_same, by rw [upd_ne ne] at hd; exact hd, ?_⟩⟩⟩
  have hd0 : H d = none := by rw [upd_ne ne] at hd; exact hd
  have e : upd (del (upd (upd (upd (upd H a (exo a C none)) d (exd d [("line", x)])) a (exo a C (some d))) d (exd d [("word", y), ("line", x)])) a) d (.xd [("word", y), ("line", x)]) = upd H d (.xd [("word", y), ("line", x)]) := by
    funext b
    by_cases hb : b = d
    · subst hb
      rw [upd_same, upd_same]
    · rw [upd_ne hb, upd_ne hb]
      by_cases hba : b = a
      · subst hba
        rw [del_same, ha]
      · rw [del_ne hba, upd_ne hb, upd_ne hba, upd_ne hb, upd_ne hba]
  show W (.ref C) (some d) σ (upd (del (upd (upd (upd (upd H a (exo a C none)) d (exd d [("line", x)])) a (exo a C (some d))) d (exd d [("word", y), ("line", x)])) a) d (.xd [("word", y), ("line", x)]))
  rw [e]
  exact hW _ _ _ (h d hd0)
/-- an error class of two fields -/
structure PrgT (K : PySem.W.Frag) (mg : Str → Option Value) (C g : Addr) : Prop where
  g_ : mg "BadText" = some (.ref C)
  oB : OexC K C
  nL : PySem.W.findIn K (.ref C) "line" = some none
  nW : PySem.W.findIn K (.ref C) "word" = some none
  iB : PySem.W.findIn K (.ref C) "__init__" = some (some (.ref g))
  tB : PySem.W.typeIn K (.ref g) = some (.type "function")
/-! ### what reading promises -/
def spNumOf : Sp := fun vs H Q _ => ∃ (z : Str) (lo hi : Int), vs = [.str z, .int lo, .int hi] ∧ 0 ≤ lo ∧ lo ≤ 400 ∧ 0 ≤ hi ∧ hi ≤ 400 ∧ z.length ≤ 5000 ∧ Q (optI (numOf z lo hi)) H
def spLeastM : Sp := fun vs H Q _ => ∃ (p : Addr) (ws : List Str), vs = [.ref p] ∧ WordsAt H p ws ∧ WsOk ws ∧ Q (.int (leastM ws)) H
def spSlots : Sp := fun vs H Q _ => ∃ (p : Addr) (ws : List Str), vs = [.ref p] ∧ WordsAt H p ws ∧ ws ≠ [] ∧ WsOk ws ∧ ∀ H' l xs, Same H H' → H' l = some (.lst xs) → SlotsL H' xs (slotsW ws) → Q (.ref l) H'
def spFits : Sp := fun vs H Q _ => ∃ (z : Str) (t : Addr) (s : WSlot), vs = [.str z, .ref t] ∧ z.length ≤ 5000 ∧ SlotAt H t s ∧ Q (.bl (fitsB z s)) H
def spWrong : Sp := fun vs H Q _ => ∃ (p : Addr) (ws : List Str), vs = [.ref p] ∧ WordsAt H p ws ∧ ws ≠ [] ∧ WsOk ws ∧ ∀ H', Same H H' → Q (optN (wrongL ws)) H'
def spRuleOf (CF CD : Addr) : Sp := fun vs H Q _ => ∃ (p : Addr) (d : RD), vs = [.ref p] ∧ WordsAt H p (wordsOf d) ∧ d.Wf ∧ ∀ H' x, Same H H' → RuleAt CF CD H' x d → Q (.ref x) H'
/-- a value that is no text -/
def NoText (CF CD : Addr) (H : Hp) (v : V) : Prop := v = .non ∨ (∃ b, v = .bl b) ∨ (∃ i, v = .int i) ∨ (∃ a xs, v = .ref a ∧ H a = some (.lst xs)) ∨ (∃ a xs, v = .ref a ∧ H a = some (.tup xs)) ∨ (∃ a, v = .ref a ∧ H a = some (.dK [])) ∨ ∃ x d, v = .ref x ∧ RuleAt CF CD H x d
/-- what Rule.read does with the value v: the rule read is data -/
def ReadV (CT CF CD : Addr) (H : Hp) (Q : VK) (E : XK) (v : V) : Prop :=
  (NoText CF CD H v ∧ ∀ H', Same H H' → BadT CT (.int 0) (.int 0) E H') ∨
  ∃ z, v = .str z ∧ Plain 5000 z ∧ (∀ k : Nat, wrongL (Txt.split z sp1) = some k → ∀ H', Same H H' → BadT CT (.int 0) (.int k) E H') ∧
    ∀ d : RD, d.Wf → z = d.text → wrongL (Txt.split z sp1) = none → ∀ H' x, Same H H' → RuleAt CF CD H' x d → Q (.ref x) H'
def spRead (CT CF CD : Addr) : Sp := fun vs H Q E => ∃ (C : Addr) (v : V), vs = [.ref C, v] ∧ ReadV CT CF CD H Q E v
end Fz

set_option Elab.async false
set_option linter.all false
set_option maxRecDepth 100000
set_option maxHeartbeats 2000000
/-! Own layer: rows of worths that come again, their least form (pure). -/
namespace Fz
open PySem PySem.Spec PyProof.Rows L2
/-- the worth of the heap h: a ahead, n that come again -/
def atW (row : List Int) (a n h : Nat) : Int := row.getD (if h < a then h else a + (h - a) % n) 0
structure Told (row : List Int) (a n : Nat) : Prop where
  len : row.length = a + n
  n1 : 1 ≤ n
  fit : ∀ x ∈ row, 0 ≤ x ∧ x ≤ 400
theorem atW_low {row : List Int} {a n h : Nat} (l : h < a + n) : atW row a n h = row.getD h 0 := by
  unfold atW
  by_cases c : h < a
  · rw [if_pos c]
  · rw [if_neg c, Nat.mod_eq_of_lt (by omega)]
    congr 1
    omega
theorem atW_high {row : List Int} {a n h : Nat} (l : a ≤ h) : atW row a n h = row.getD (a + (h - a) % n) 0 := by
  unfold atW
  rw [if_neg (by omega)]
theorem atW_per {row : List Int} {a n i : Nat} (l : a ≤ i) (k : Nat) : atW row a n (i + n * k) = atW row a n i := by
  rw [atW_high l, atW_high (by omega), show i + n * k - a = (i - a) + n * k by omega, Nat.add_mul_mod_self_left]
theorem atW_per1 {row : List Int} {a n i : Nat} (l : a ≤ i) : atW row a n (i + n) = atW row a n i := by
  have q := atW_per (row := row) (n := n) l 1
  rw [Nat.mul_one] at q
  exact q
/-- the least form of a row that goes on without end -/
structure Form (W : Nat → Int) (b p : Nat) : Prop where
  p1 : 1 ≤ p
  per : ∀ i, b ≤ i → W (i + p) = W i
  min : ∀ s c, 1 ≤ s → (∀ i, c ≤ i → W (i + s) = W i) → p ≤ s
  low : b = 0 ∨ W (b - 1 + p) ≠ W (b - 1)
theorem Form.uniq {W : Nat → Int} {b p b' p' : Nat} (f : Form W b p) (g : Form W b' p') : b = b' ∧ p = p' := by
  have e : p = p' := Nat.le_antisymm (f.min p' b' g.p1 g.per) (g.min p b f.p1 f.per)
  subst e
  refine ⟨?_, rfl⟩
  rcases Nat.lt_trichotomy b b' with h | h | h
  · rcases g.low with z | z
    · omega
    · exact absurd (f.per (b' - 1) (by omega)) z
  · exact h
  · rcases f.low with z | z
    · omega
    · exact absurd (g.per (b - 1) (by omega)) z
/-- of what comes again from some heap on, all from a on comes again so -/
theorem good_of {row : List Int} {a n s c : Nat} (n1 : 1 ≤ n) (h : ∀ i, c ≤ i → atW row a n (i + s) = atW row a n i) : ∀ i, a ≤ i → atW row a n (i + s) = atW row a n i := fun i hi => by
  have e1 := atW_per (row := row) (n := n) hi c
  have e2 := atW_per (row := row) (n := n) (show a ≤ i + s by omega) c
  have m : c ≤ n * c := Nat.le_mul_of_pos_left c n1
  have e3 := h (i + n * c) (by omega)
  rw [show i + n * c + s = i + s + n * c by omega, e2, e1] at e3
  exact e3
/-! ### the period that is found by repeating -/
def Rep (r : List Int) (p : Nat) : Prop := (List.replicate (r.length / p) (r.take p)).flatten = r
theorem rep_get (l : List Int) : ∀ (k i : Nat), i < k * l.length → (List.replicate k l).flatten.getD i 0 = l.getD (i % l.length) 0
  | 0, i, h => by simp at h
  | k + 1, i, h => by
    rw [List.replicate_succ, List.flatten_cons]
    by_cases c : i < l.length
    · rw [Nat.mod_eq_of_lt c, List.getD_eq_getElem?_getD, List.getElem?_append_left c, ← List.getD_eq_getElem?_getD]
    · have c2 : l.length ≤ i := by omega
      rw [List.getD_eq_getElem?_getD, List.getElem?_append_right c2, ← List.getD_eq_getElem?_getD, rep_get l k (i - l.length) (by rw [Nat.add_mul] at h; omega)]
      congr 1
      exact (Nat.mod_eq_sub_mod c2).symm
theorem flat_len (l : List Int) : ∀ k : Nat, (List.replicate k l).flatten.length = k * l.length
  | 0 => by simp
  | k + 1 => by
    rw [List.replicate_succ, List.flatten_cons, List.length_append, flat_len l k, Nat.add_mul]
    omega
theorem ext_getD {xs ys : List Int} (l : xs.length = ys.length) (h : ∀ i, i < xs.length → xs.getD i 0 = ys.getD i 0) : xs = ys := by
  refine List.ext_getElem l fun i h1 h2 => ?_
  have q := h i h1
  rw [List.getD_eq_getElem?_getD, List.getD_eq_getElem?_getD, List.getElem?_eq_getElem h1, List.getElem?_eq_getElem h2] at q
  exact q
theorem rep_iff {r : List Int} {p : Nat} (p1 : 1 ≤ p) (p2 : p ≤ r.length) : Rep r p ↔ p ∣ r.length ∧ ∀ i, i < r.length → r.getD i 0 = r.getD (i % p) 0 := by
  have tl : (r.take p).length = p := by rw [List.length_take]; omega
  have fl := flat_len (r.take p) (r.length / p)
  rw [tl] at fl
  have get : ∀ i, i < r.length / p * p → (List.replicate (r.length / p) (r.take p)).flatten.getD i 0 = r.getD (i % p) 0 := fun i hi => by
    rw [rep_get _ _ _ (by rw [tl]; exact hi), tl, List.getD_eq_getElem?_getD, List.getElem?_take_of_lt (Nat.mod_lt _ (by omega)), ← List.getD_eq_getElem?_getD]
  constructor
  · intro h
    have e : r.length / p * p = r.length := by rw [← fl, h]
    refine ⟨Nat.dvd_of_mul_dvd_mul_right (k := 1) (by decide) (by rw [Nat.mul_one, Nat.mul_one]; exact ⟨r.length / p, by rw [Nat.mul_comm, e]⟩), fun i hi => ?_⟩
    have q := get i (by omega)
    rw [h] at q
    exact q
  · rintro ⟨d, h⟩
    have e : r.length / p * p = r.length := Nat.div_mul_cancel d
    exact ext_getD (by rw [fl, e]) fun i hi => by
      rw [fl] at hi
      rw [get i hi, ← h i (by omega)]
theorem rep_self {r : List Int} (h : 1 ≤ r.length) : Rep r r.length := (rep_iff h (Nat.le_refl _)).mpr ⟨Nat.dvd_refl _, fun i hi => by rw [Nat.mod_eq_of_lt hi]⟩
/-- what the program finds -/
structure LeastRep (r : List Int) (p : Nat) : Prop where
  p1 : 1 ≤ p
  p2 : p ≤ r.length
  rep : Rep r p
  min : ∀ q, 1 ≤ q → q < p → ¬ Rep r q
structure Back (row : List Int) (a p b : Nat) : Prop where
  le : b ≤ a
  same : ∀ i, b ≤ i → i < a → row.getD i 0 = row.getD (i + p) 0
  low : b = 0 ∨ row.getD (b - 1) 0 ≠ row.getD (b - 1 + p) 0
section
variable {row : List Int} {a n p b : Nat}
theorem drop_get (row : List Int) (a i : Nat) : (row.drop a).getD i 0 = row.getD (a + i) 0 := by
  rw [List.getD_eq_getElem?_getD, List.getElem?_drop, ← List.getD_eq_getElem?_getD]
theorem prog_form (t : Told row a n) (l : LeastRep (row.drop a) p) (k : Back row a p b) : Form (atW row a n) b p := by
  have ln : (row.drop a).length = n := by rw [List.length_drop, t.len]; omega
  have n1 := t.n1
  have p2 := l.p2
  rw [ln] at p2
  have p1 := l.p1
  obtain ⟨d, per⟩ := (rep_iff l.p1 l.p2).mp l.rep
  rw [ln] at d per
  have high : ∀ i, a ≤ i → atW row a n (i + p) = atW row a n i := fun i hi => by
    have e : ∀ j, a ≤ j → atW row a n j = row.getD (a + (j - a) % p) 0 := fun j hj => by
      have m := Nat.mod_lt (j - a) (show n > 0 by omega)
      have q := per ((j - a) % n) m
      rw [drop_get, drop_get, Nat.mod_mod_of_dvd _ d] at q
      rw [atW_high hj, q]
    rw [e i hi, e (i + p) (by omega), show i + p - a = (i - a) + p by omega, Nat.add_mod_right]
  refine ⟨p1, fun i hi => ?_, fun s c s1 h => ?_, ?_⟩
  · by_cases c : a ≤ i
    · exact high i c
    · have q := k.same i hi (by omega)
      rw [atW_low (by omega), atW_low (by omega), q]
  · have good := good_of n1 h
    clear h
    induction s using Nat.strongRecOn with
    | _ s ih =>
      by_cases big : n < s
      · omega
      · have many : ∀ (q i : Nat), a ≤ i → atW row a n (i + s * q) = atW row a n i := fun q => by
          induction q with
          | zero => intro i _; rw [Nat.mul_zero, Nat.add_zero]
          | succ q ih2 =>
            intro i hi
            rw [Nat.mul_succ, ← Nat.add_assoc, good (i + s * q) (by omega), ih2 i hi]
        by_cases z : n % s = 0
        · refine Nat.le_of_not_lt fun lt => l.min s s1 lt ((rep_iff s1 (by rw [ln]; omega)).mpr ⟨by rw [ln]; exact Nat.dvd_of_mod_eq_zero z, fun i hi => ?_⟩)
          rw [ln] at hi
          rw [drop_get, drop_get]
          have e := Nat.div_add_mod i s
          have q := many (i / s) (a + i % s) (by omega)
          have le := Nat.mod_le i s
          rw [show a + i % s + s * (i / s) = a + i by omega, atW_low (by omega), atW_low (by omega)] at q
          exact q
        · have r := Nat.mod_lt n (show s > 0 by omega)
          have w := ih (n % s) r (by omega) fun i hi => by
            have e := Nat.div_add_mod n s
            have q := many (n / s) (i + n % s) (by omega)
            rw [show i + n % s + s * (n / s) = i + n by omega, atW_per1 hi] at q
            exact q.symm
          omega
  · rcases k.low with z | z
    · exact .inl z
    · by_cases z0 : b = 0
      · exact .inl z0
      have le := k.le
      refine .inr fun e => z ?_
      rw [atW_low (by omega), atW_low (by omega)] at e
      exact e.symm
/-- what the law finds -/
structure LawForm (W : Nat → Int) (a n start size : Nat) : Prop where
  s1 : 1 ≤ size
  s2 : size ≤ n
  le : start ≤ a
  same : ∀ i, start ≤ i → i + size < a + 3 * n → W i = W (i + size)
  low : start = 0 ∨ W (start - 1) ≠ W (start - 1 + size)
  min : ∀ s, 1 ≤ s → s < size → ∃ i, a ≤ i ∧ i + s < a + 3 * n ∧ W i ≠ W (i + s)
theorem law_form (t : Told row a n) {start size : Nat} (l : LawForm (atW row a n) a n start size) : Form (atW row a n) start size := by
  have n1 := t.n1
  have s2 := l.s2
  refine ⟨l.s1, fun i hi => ?_, fun s c s1 h => ?_, ?_⟩
  · by_cases c : i + size < a + 3 * n
    · exact (l.same i hi c).symm
    · have ai : a ≤ i := by omega
      have m := Nat.mod_lt (i - a) (show n > 0 by omega)
      have e := Nat.div_add_mod (i - a) n
      have q := l.same (a + (i - a) % n) (by have := l.le; omega) (by omega)
      have w1 := atW_per (row := row) (n := n) (show a ≤ a + (i - a) % n by omega) ((i - a) / n)
      have w2 := atW_per (row := row) (n := n) (show a ≤ a + (i - a) % n + size by omega) ((i - a) / n)
      rw [show a + (i - a) % n + n * ((i - a) / n) = i by omega] at w1
      rw [show a + (i - a) % n + size + n * ((i - a) / n) = i + size by omega] at w2
      rw [w1, w2]
      exact q.symm
  · refine Nat.le_of_not_lt fun lt => ?_
    obtain ⟨i, hi, _, ne⟩ := l.min s s1 lt
    exact ne (good_of n1 h i hi).symm
  · rcases l.low with z | z
    · exact .inl z
    · exact .inr fun e => z e.symm
def nums (W : Nat → Int) (k : Nat) : List Int := (List.range k).map W
theorem nums_len (W : Nat → Int) (k : Nat) : (nums W k).length = k := by unfold nums; rw [List.length_map, List.length_range]
theorem nums_succ (W : Nat → Int) (k : Nat) : nums W (k + 1) = nums W k ++ [W k] := by
  unfold nums
  rw [List.range_succ, List.map_append]
  rfl
theorem nums_get {W : Nat → Int} {k i : Nat} (h : i < k) : (nums W k).getD i 0 = W i := by
  unfold nums
  rw [List.getD_eq_getElem?_getD, List.getElem?_map, List.getElem?_range h]
  rfl
theorem take_nums (t : Told row a n) {k : Nat} (h : k ≤ a + n) : row.take k = nums (atW row a n) k := by
  refine ext_getD (by rw [List.length_take, t.len, nums_len]; omega) fun i hi => ?_
  rw [List.length_take, t.len] at hi
  rw [nums_get (by omega), atW_low (by omega), List.getD_eq_getElem?_getD, List.getElem?_take_of_lt (by omega), ← List.getD_eq_getElem?_getD]
theorem nums_take {W : Nat → Int} {k m : Nat} (h : k ≤ m) : (nums W m).take k = nums W k := by
  unfold nums
  rw [← List.map_take, List.take_range, Nat.min_eq_left h]
/-- told in longer form: the same row -/
theorem longer_told (t : Told row a n) (m k : Nat) (k1 : 1 ≤ k) : Told (nums (atW row a n) (a + m + n * k)) (a + m) (n * k) := by
  have n1 := t.n1
  refine ⟨nums_len _ _, Nat.le_trans n1 (Nat.le_mul_of_pos_right n k1), fun x hx => ?_⟩
  unfold nums at hx
  obtain ⟨i, _, rfl⟩ := List.mem_map.mp hx
  have bound : ∀ j, j < a + n → 0 ≤ row.getD j 0 ∧ row.getD j 0 ≤ 400 := fun j hj => by
    rw [List.getD_eq_getElem?_getD, List.getElem?_eq_getElem (by rw [t.len]; exact hj)]
    exact t.fit _ (List.getElem_mem _)
  unfold atW
  split
  · exact bound i (by omega)
  · have q := Nat.mod_lt (i - a) (show n > 0 by omega)
    exact bound _ (by omega)
theorem longer_at (t : Told row a n) (m k : Nat) (k1 : 1 ≤ k) (h : Nat) : atW (nums (atW row a n) (a + m + n * k)) (a + m) (n * k) h = atW row a n h := by
  have n1 := t.n1
  have nk : n ≤ n * k := Nat.le_mul_of_pos_right n k1
  by_cases c : h < a + m + n * k
  · rw [atW_low c, nums_get c]
  · have c1 : a + m ≤ h := by omega
    have q := Nat.mod_lt (h - (a + m)) (show n * k > 0 by omega)
    rw [atW_high c1, nums_get (by omega)]
    have e := Nat.div_add_mod (h - (a + m)) (n * k)
    have w := atW_per (row := row) (n := n) (show a ≤ a + m + (h - (a + m)) % (n * k) by omega) (k * ((h - (a + m)) / (n * k)))
    rw [← Nat.mul_assoc, show a + m + (h - (a + m)) % (n * k) + n * k * ((h - (a + m)) / (n * k)) = h by omega] at w
    exact w.symm
end
end Fz

set_option Elab.async false
set_option linter.all false
set_option maxRecDepth 100000
set_option maxHeartbeats 2000000
/-! Own layer: tables of worths as objects; walks over a list or a tuple; tests that may be asked for less. -/
namespace Fz
open PySem PySem.Spec PyProof.Rows L2
section
variable {X : Cx} {tg e : Expr} {te : TE}
/-- a test may be asked for less -/
def tWeakT (t : L2.TT) : L2.TT := fun σ H Q => ∃ Q' : Bool → Hp → Prop, t σ H Q' ∧ ∀ b H', Q' b H' → Q b H'
theorem pt_weak {t : L2.TT} (h : PT X e t) : PT X e (tWeakT t) := ⟨fun pins s σ H Q I ⟨Q', h', w⟩ => thn (h.run pins s σ H Q' I h') fun b s1 ⟨H1, I1, q⟩ => ⟨H1, I1, w _ _ q⟩⟩
theorem weakT_mono {t : L2.TT} : ∀ (σ : L2.St) (H : Hp) (Q Q' : Bool → Hp → Prop), (∀ b H1, Q b H1 → Q' b H1) → tWeakT t σ H Q → tWeakT t σ H Q' := fun σ H Q Q' h ⟨q, a, b⟩ => ⟨q, a, fun c H1 z => h _ _ (b c H1 z)⟩
theorem weakT_of {t : L2.TT} {σ : L2.St} {H : Hp} {Q : Bool → Hp → Prop} (h : t σ H Q) : tWeakT t σ H Q := ⟨Q, h, fun _ _ z => z⟩
theorem at_nat' {xs : List V} {i : Nat} {v : V} (h : xs[i]? = some v) : atI xs (i : Int) = some v := by
  have l : i < xs.length := by
    rcases Nat.lt_or_ge i xs.length with q | q
    · exact q
    · rw [List.getElem?_eq_none q] at h
      cases h
  unfold atI ixN
  rw [if_pos (by omega), if_pos (by omega)]
  show xs[(i : Int).toNat]? = _
  rw [Int.toNat_natCast, h]
theorem at_last {ys : List V} {b : V} : atI (ys ++ [b]) (-1) = some b := by
  have l : (ys ++ [b]).length = ys.length + 1 := by rw [List.length_append] <;> rfl
  unfold atI ixN
  rw [if_neg (by decide), if_pos (by omega), l]
  show (ys ++ [b])[((-1 : Int) + ((ys.length + 1 : Nat) : Int)).toNat]? = _
  rw [show ((-1 : Int) + ((ys.length + 1 : Nat) : Int)).toNat = ys.length by omega, List.getElem?_append_right (by omega), show ys.length - ys.length = 0 by omega]
  rfl
theorem cutV_take (xs : List V) (k : Nat) : cutV xs none (some (k : Int)) = xs.take k := by
  unfold cutV
  rw [HT.sIx_nat, HT.sIx_none, List.drop_zero, Nat.sub_zero]
  rcases Nat.le_total k xs.length with h | h
  · rw [Nat.min_eq_left h]
  · rw [Nat.min_eq_right h, List.take_length, List.take_of_length_le h]
theorem cutV_drop (xs : List V) (k : Nat) : cutV xs (some (k : Int)) none = xs.drop k := by
  unfold cutV
  rw [HT.sIx_nat, HT.sIx_none]
  rcases Nat.le_total k xs.length with h | h
  · rw [Nat.min_eq_left h, List.take_of_length_le (by rw [List.length_drop]; omega)]
  · rw [Nat.min_eq_right h, List.drop_length, List.drop_eq_nil_of_le h]
    simp
theorem eqv_ints : ∀ xs ys : List Int, PyData.eqvAll (xs.map PyData.int) (ys.map PyData.int) = decide (xs = ys)
  | [], [] => by simp [PyData.eqvAll]
  | [], y :: ys => by simp [PyData.eqvAll]
  | x :: xs, [] => by simp [PyData.eqvAll]
  | x :: xs, y :: ys => by
    show (PyData.eqv (.int x) (.int y) && PyData.eqvAll (xs.map PyData.int) (ys.map PyData.int)) = _
    rw [eqv_ints xs ys]
    by_cases h : x = y <;> simp [PyData.eqv, h]
theorem eqv_lists (xs ys : List Int) : PyData.eqv (.list (xs.map PyData.int)) (.list (ys.map PyData.int)) = decide (xs = ys) := by
  rw [show PyData.eqv (.list (xs.map PyData.int)) (.list (ys.map PyData.int)) = PyData.eqvAll (xs.map PyData.int) (ys.map PyData.int) from by simp [PyData.eqv], eqv_ints]
theorem eqv_tups (xs ys : List Int) : PyData.eqv (.tuple (xs.map PyData.int)) (.tuple (ys.map PyData.int)) = decide (xs = ys) := by
  rw [show PyData.eqv (.tuple (xs.map PyData.int)) (.tuple (ys.map PyData.int)) = PyData.eqvAll (xs.map PyData.int) (ys.map PyData.int) from by simp [PyData.eqv], eqv_ints]
theorem shaped_tints (ns : List Int) : SeqAt.shaped (.tuple (ns.map PyData.int)) = true := by
  have q := depth_ints ns
  unfold SeqAt.shaped
  rw [show PyData.canLay0 (.tuple (ns.map PyData.int)) = PyData.canLayAll0 (ns.map PyData.int) from by simp [PyData.canLay0], lay_ints, Bool.true_and]
  refine decide_eq_true ?_
  simp only [PyData.depth]
  omega
theorem ne_ints {K : PySem.W.Frag} {H : Hp} {Q : VK} {a b : Addr} {xs ys : List Int} (ha : H a = some (.lst (xs.map V.int))) (hb : H b = some (.lst (ys.map V.int))) (fin : Q (.bl (!decide (xs = ys))) H) : rNeD K (.ref a) (.ref b) H Q := by
  refine ⟨.list (xs.map PyData.int), .list (ys.map PyData.int), Dp.lst (SqL.of ha) (dp_ints xs), Dp.lst (SqL.of hb) (dp_ints ys), shaped_ints xs, shaped_ints ys, ?_⟩
  rw [eqv_lists]
  exact fin
theorem eq_tups {K : PySem.W.Frag} {H : Hp} {Q : VK} {a b : Addr} {xs ys : List Int} (ha : H a = some (.tup (xs.map V.int))) (hb : H b = some (.tup (ys.map V.int))) (fin : Q (.bl (decide (xs = ys))) H) : rEqD K (.ref a) (.ref b) H Q := by
  refine ⟨.tuple (xs.map PyData.int), .tuple (ys.map PyData.int), Dp.tup (SqT.of ha) (dp_ints xs), Dp.tup (SqT.of hb) (dp_ints ys), shaped_tints xs, shaped_tints ys, ?_⟩
  rw [eqv_tups]
  exact fin
theorem rep_map (ns : List Int) : ∀ k : Nat, (List.replicate k (ns.map V.int)).flatten = ((List.replicate k ns).flatten).map V.int
  | 0 => by simp
  | k + 1 => by rw [List.replicate_succ, List.replicate_succ, List.flatten_cons, List.flatten_cons, rep_map ns k, List.map_append]
/-- a walk over a list or a tuple -/
def iSeq (K : PySem.W.Frag) (te : TE) : TI := fun σ H R => iList K te σ H R ∨ iTup K te σ H R
theorem pi_seq (h : PE X e te) : PI X tg e (iSeq X.K te) := ⟨fun pins s σ H R I z => z.elim ((pi_list (tg := tg) h).run pins s σ H R I) ((pi_tup (tg := tg) h).run pins s σ H R I)⟩
end
/-- at l: a list or a tuple of these -/
def SeqAt2 (H : Hp) (l : Addr) (xs : List V) : Prop := H l = some (.lst xs) ∨ H l = some (.tup xs)
theorem SeqAt2.same {H H' : Hp} {l : Addr} {xs : List V} (h : SeqAt2 H l xs) (s : Same H H') : SeqAt2 H' l xs := h.imp (fun z => s _ _ z) fun z => s _ _ z
theorem SeqAt2.of {K : PySem.W.Frag} {H : Hp} {l : Addr} {xs : List V} (h : SeqAt2 H l xs) : SqL K H l xs ∨ SqT K H l xs := h.imp (fun z => SqL.of z) fun z => SqT.of z
theorem SeqAt2.len {K : PySem.W.Frag} {H : Hp} {l : Addr} {xs : List V} (h : SeqAt2 H l xs) : LenV K (.ref l) H xs.length := h.imp (fun z => ⟨xs, SqL.of z, rfl⟩) fun z => ⟨xs, SqT.of z, rfl⟩
theorem SeqAt2.ix {K : PySem.W.Frag} {H : Hp} {Q : VK} {l : Addr} {xs : List V} {i : Int} {v : V} (h : SeqAt2 H l xs) (e : atI xs i = some v) (q : Q v H) : rIx K (.ref l) (.int i) H Q := by
  rcases h with z | z
  · exact .inl ⟨l, xs, i, v, rfl, rfl, SqL.of z, e, q⟩
  · exact .inr (.inl ⟨l, xs, i, v, rfl, rfl, SqT.of z, e, q⟩)
/-- the argument is a list or a tuple of these, or no list and no tuple -/
def SeqOf (H : Hp) (v : V) : Option (List V) → Prop
  | some xs => ∃ l, v = .ref l ∧ SeqAt2 H l xs
  | none => Kd H v ∧ ∀ l, v = .ref l → ∃ kvs, H l = some (.dK kvs)
theorem SeqOf.same {H H' : Hp} {v : V} {o : Option (List V)} (h : SeqOf H v o) (s : Same H H') : SeqOf H' v o := by
  cases o with
  | some xs => exact h.imp fun l z => ⟨z.1, z.2.same s⟩
  | none => exact ⟨h.1.same s, fun l e => (h.2 l e).imp fun k z => s _ _ z⟩
theorem seq_kit {K : PySem.W.Frag} {H : Hp} {v : V} {o : Option (List V)} (h : SeqOf H v o) : ∃ t, TyX K H v t ∧ PySem.W.kitAny K t [.type "list", .type "tuple"] = some o.isSome := by
  have no : ∀ n : String, kitB n "list" = some false → kitB n "tuple" = some false → PySem.W.kitAny K (.type n) [.type "list", .type "tuple"] = some false := fun n a b =>
    kitAny_cons (kit_ty a) (fun _ => kitAny_cons (kit_ty b) (fun _ => kitAny_nil) fun z => nomatch z) fun z => nomatch z
  cases o with
  | some xs =>
    obtain ⟨l, rfl, h⟩ := h
    rcases h with h | h
    · exact ⟨_, .base (.lst h), kitAny_cons (b := true) (kit_ty (show kitB "list" "list" = some true by decide +kernel)) (fun z => nomatch z) fun _ => rfl⟩
    · exact ⟨_, .base (.tup h), kitAny_cons (b := false) (kit_ty (show kitB "tuple" "list" = some false by decide +kernel)) (fun _ => kitAny_cons (b := true) (kit_ty (show kitB "tuple" "tuple" = some true by decide +kernel)) (fun z => nomatch z) fun _ => rfl) fun z => nomatch z⟩
  | none =>
    obtain ⟨kd, h⟩ := h
    cases v with
    | non => exact ⟨_, .base .non, no _ (by decide +kernel) (by decide +kernel)⟩
    | bl b => exact ⟨_, .base (.bl b), no _ (by decide +kernel) (by decide +kernel)⟩
    | int i => exact ⟨_, .base (.int i), no _ (by decide +kernel) (by decide +kernel)⟩
    | str z => exact ⟨_, .base (.str z), no _ (by decide +kernel) (by decide +kernel)⟩
    | ref a =>
      obtain ⟨kvs, e⟩ := h a rfl
      exact ⟨_, .base (.dK e), no _ (by decide +kernel) (by decide +kernel)⟩
    | byt _ => exact kd.elim
    | flt _ => exact kd.elim
    | ty _ => exact kd.elim
theorem baded {C : Addr} {f : Str} {v : V} {E : XK} {W : WX} {σ : L2.St} {H : Hp} (h : BadE C f v E H) (hW : ∀ cls d H', E cls d H' → W cls d σ H') : tMkO C (spErrI C f) [] (tCons (tC v) tNil) σ H (fun cls d H' => W cls d σ H') := by
  refine ⟨(show 1 ≤ 1000 by decide), fun a ha => ⟨a, v, rfl, upd_same, fun d hd ne => ⟨rfl, d, _, upd_same, by rw [upd_ne ne, upd_same], by rw [upd_ne ne] at hd; exact hd, ?_⟩⟩⟩
  have hd0 : H d = none := by rw [upd_ne ne] at hd; exact hd
  have e : upd (del (upd (upd (upd H a (exo a C none)) d (exd d [(f, v)])) a (exo a C (some d))) a) d (.xd [(f, v)]) = upd H d (.xd [(f, v)]) := by
    funext b
    by_cases hb : b = d
    · subst hb
      rw [upd_same, upd_same]
    · rw [upd_ne hb, upd_ne hb]
      by_cases hba : b = a
      · subst hba
        rw [del_same, ha]
      · rw [del_ne hba, upd_ne hba, upd_ne hb, upd_ne hba]
  show W (.ref C) (some d) σ (upd (del (upd (upd (upd H a (exo a C none)) d (exd d [(f, v)])) a (exo a C (some d))) a) d (.xd [(f, v)]))
  rw [e]
  exact hW _ _ _ (h d hd0)
/-! ### the parts of a table -/
/-- the items are worths, the first is 0 -/
def worthsOk (xs : List V) : Bool := xs.all (numV 0 400) && decide (xs[0]? = some (.int 0))
def toN : V → Nat
  | .int i => i.toNat
  | _ => 0
/-- the wrong one of the parts -/
def dueT (b p : V) (o : Option (List V)) : Option Str := if numV 0 1000 b = true then (if numV 1 1000 p = true then (match o with
  | some xs => if xs.length = toN b + toN p then (if worthsOk xs = true then none else some "numbers") else some "numbers"
  | none => some "numbers") else some "period") else some "begin"
theorem all_ints {xs : List V} {lo hi : Int} (h : xs.all (numV lo hi) = true) : ∃ ns : List Int, xs = ns.map V.int ∧ ∀ n ∈ ns, lo ≤ n ∧ n ≤ hi := by
  induction xs with
  | nil => exact ⟨[], rfl, fun _ z => by cases z⟩
  | cons x r ih =>
    rw [List.all_cons, Bool.and_eq_true] at h
    obtain ⟨i, rfl, a, b⟩ := numV_is h.1
    obtain ⟨ns, rfl, q⟩ := ih h.2
    refine ⟨i :: ns, rfl, fun n hn => ?_⟩
    rcases List.mem_cons.mp hn with rfl | hn
    · exact ⟨a, b⟩
    · exact q n hn
theorem dueT_none {b p : V} {o : Option (List V)} (h : dueT b p o = none) : ∃ (bn pn : Nat) (ns : List Int), b = .int bn ∧ p = .int pn ∧ o = some (ns.map V.int) ∧ bn ≤ 1000 ∧ 1 ≤ pn ∧ pn ≤ 1000 ∧ Told ns bn pn ∧ ns[0]? = some 0 := by
  unfold dueT at h
  cases e1 : numV 0 1000 b with
  | false => rw [e1] at h; cases h
  | true =>
    rw [e1, if_pos rfl] at h
    cases e2 : numV 1 1000 p with
    | false => rw [e2] at h; cases h
    | true =>
      rw [e2, if_pos rfl] at h
      cases o with
      | none => cases h
      | some xs =>
        dsimp only at h
        by_cases l : xs.length = toN b + toN p
        · rw [if_pos l] at h
          cases w : worthsOk xs with
          | false => rw [w] at h; cases h
          | true =>
            unfold worthsOk at w
            rw [Bool.and_eq_true] at w
            obtain ⟨ns, rfl, q⟩ := all_ints w.1
            obtain ⟨bi, rfl, b0, b1⟩ := numV_is e1
            obtain ⟨pi, rfl, p0, p1⟩ := numV_is e2
            obtain ⟨bn, rfl⟩ := Int.eq_ofNat_of_zero_le b0
            obtain ⟨pn, rfl⟩ := Int.eq_ofNat_of_zero_le (show 0 ≤ pi by omega)
            have f := of_decide_eq_true w.2
            rw [List.getElem?_map] at f
            refine ⟨bn, pn, ns, rfl, rfl, rfl, by omega, by omega, by omega, ⟨by rw [List.length_map] at l; exact l, by omega, q⟩, ?_⟩
            cases z : ns[0]? with
            | none => rw [z] at f; cases f
            | some v =>
              rw [z] at f
              have f2 : V.int v = .int 0 := Option.some.inj f
              rw [V.int.inj f2]
        · rw [if_neg l] at h; cases h
theorem dueT_of {bn pn : Nat} {ns : List Int} (b1 : bn ≤ 1000) (p1 : pn ≤ 1000) (t : Told ns bn pn) (z : ns[0]? = some 0) : dueT (.int bn) (.int pn) (some (ns.map V.int)) = none := by
  unfold dueT
  have e1 : numV 0 1000 (.int bn) = true := by unfold numV; simp; omega
  have e2 : numV 1 1000 (.int pn) = true := by have := t.n1; unfold numV; simp; omega
  rw [if_pos e1, if_pos e2]
  dsimp only
  have l : (ns.map V.int).length = toN (.int bn) + toN (.int pn) := by
    rw [List.length_map, t.len]
    rfl
  rw [if_pos l]
  have w : worthsOk (ns.map V.int) = true := by
    unfold worthsOk
    rw [Bool.and_eq_true]
    refine ⟨?_, decide_eq_true (by rw [List.getElem?_map, z]; rfl)⟩
    rw [List.all_map, List.all_eq_true]
    intro n hn
    have q := t.fit n hn
    show numV 0 400 (.int n) = true
    unfold numV
    simp
    omega
  rw [if_pos w]
/-! ### tables -/
structure TabC (K : PySem.W.Frag) (C : Addr) : Prop where
  cl : Cls K C
  nBegin : PySem.W.findIn K (.ref C) "begin" = some none
  nPeriod : PySem.W.findIn K (.ref C) "period" = some none
  nNumbers : PySem.W.findIn K (.ref C) "numbers" = some none
def tfs (b p : Int) (t : Addr) : List (Str × V) := putF "numbers" (.ref t) (putF "period" (.int p) (putF "begin" (.int b) []))
def TabAt (CT : Addr) (H : Hp) (x : Addr) (b p : Nat) (ns : List Int) : Prop := ∃ dx t, H x = some (.ins CT dx (tfs b p t)) ∧ H t = some (.tup (ns.map V.int))
theorem TabAt.same {CT : Addr} {H H' : Hp} {x : Addr} {b p : Nat} {ns : List Int} (h : TabAt CT H x b p ns) (s : Same H H') : TabAt CT H' x b p ns := let ⟨dx, t, a, c⟩ := h; ⟨dx, t, s _ _ a, s _ _ c⟩
theorem TabAt.ext {CT : Addr} {H H' : Hp} {x : Addr} {b p : Nat} {ns : List Int} (h : TabAt CT H x b p ns) (s : LamX.ExtN H H') : TabAt CT H' x b p ns := let ⟨dx, t, a, c⟩ := h; ⟨dx, t, s _ _ a (fun _ z => nomatch z), s _ _ c (fun _ z => nomatch z)⟩
theorem TabAt.mv {CT : Addr} {H H' : Hp} {x p q : Addr} {n b pe : Nat} {ns : List Int} (h : TabAt CT H x b pe ns) (pen : PenAt n H p q) (m : Mv p H H') : TabAt CT H' x b pe ns := by
  obtain ⟨dx, t, a, c⟩ := h
  obtain ⟨xs, hp⟩ := pen.lst
  exact ⟨dx, t, m _ _ (fun z => by rw [z, hp] at a; cases a) a, m _ _ (fun z => by rw [z, hp] at c; cases c) c⟩
/-- Table.__init__ -/
def spTable (CB CT : Addr) : Sp := fun vs H Q E => ∃ (x dx : Addr) (b p v : V) (o : Option (List V)), vs = [.ref x, b, p, v] ∧ H x = some (.ins CT dx []) ∧ Kd H b ∧ Kd H p ∧ SeqOf H v o ∧ (∀ xs, o = some xs → xs.length ≤ 3000 ∧ ∀ y ∈ xs, Kd H y) ∧
  (∀ z H', dueT b p o = some z → Mv x H H' → BadE CB "part" (.str z) E H') ∧
  (dueT b p o = none → ∀ (bn pn : Nat) (ns : List Int), b = .int bn → p = .int pn → o = some (ns.map V.int) → Told ns bn pn → ∀ H' b' p', Form (atW ns bn pn) b' p' → b' + p' ≤ bn + pn → Mv x H H' → (∃ t, H' x = some (.ins CT dx (tfs b' p' t)) ∧ H' t = some (.tup ((nums (atW ns bn pn) (b' + p')).map V.int))) → Q .non H')
def spCheckP (CB : Addr) : Sp := fun vs H Q E => ∃ (b p v : V) (o : Option (List V)), vs = [b, p, v] ∧ Kd H b ∧ Kd H p ∧ SeqOf H v o ∧ (∀ xs, o = some xs → xs.length ≤ 3000 ∧ ∀ y ∈ xs, Kd H y) ∧ (∀ z H', dueT b p o = some z → Same H H' → BadE CB "part" (.str z) E H') ∧ (dueT b p o = none → ∀ H', Same H H' → Q .non H')
def spLeastP : Sp := fun vs H Q _ => ∃ (l : Addr) (ns : List Int), vs = [.ref l] ∧ H l = some (.lst (ns.map V.int)) ∧ 1 ≤ ns.length ∧ ns.length ≤ 3000 ∧ ∀ H' p, Same H H' → LeastRep ns p → Q (.int (p : Nat)) H'
/-- Table(a, n, row) that may not fail -/
theorem table_made {CB CT x dx l : Addr} {H : Hp} {a n : Nat} {row : List Int} (hl : SeqAt2 H l (row.map V.int)) (t : Told row a n) (z : row[0]? = some 0) (a1 : a ≤ 1000) (n1 : n ≤ 1000) (hx : H x = none) (hd : H dx = none) {E : XK} {G : Hp → Prop}
    (hG : ∀ H' b p, Same H H' → Form (atW row a n) b p → b + p ≤ a + n → TabAt CT H' x b p (nums (atW row a n) (b + p)) → G H') : spTable CB CT [.ref x, .int a, .int n, .ref l] (upd (upd H dx (.own x)) x (.ins CT dx [])) (fun v H' => v = .non ∧ G H') E := by
  have up := up_made (C := CT) hx hd
  have due := dueT_of a1 n1 t z
  refine ⟨x, dx, .int a, .int n, .ref l, some (row.map V.int), rfl, upd_same, True.intro, True.intro, ⟨l, rfl, hl.same up⟩, fun xs e => ?_, fun z H' e _ => ?_, fun _ bn pn ns e1 e2 e3 told H' b p f le mv at_ => ⟨rfl, ?_⟩⟩
  · cases e
    refine ⟨by rw [List.length_map, t.len]; omega, fun y hy => ?_⟩
    obtain ⟨i, _, rfl⟩ := List.mem_map.mp hy
    exact True.intro
  · rw [due] at e
    cases e
  · have q1 : bn = a := by have := V.int.inj e1; omega
    have q2 : pn = n := by have := V.int.inj e2; omega
    have q3 : ns = row := ((List.map_inj_right fun _ _ h => V.int.inj h).mp (Option.some.inj e3)).symm
    subst q1 q2 q3
    obtain ⟨t', h1, h2⟩ := at_
    exact hG H' b p (made_same hx hd mv) f le ⟨dx, t', h1, h2⟩
end Fz

set_option Elab.async false
set_option linter.all false
set_option maxRecDepth 100000
set_option maxHeartbeats 2000000
namespace Fz
open PySem PySem.Spec PyProof.Rows L2
/-- one step of a reading -/
local macro_rules | `(tactic| walk_at "st") => `(tactic| first
  | refine ⟨_, rfl, ?_⟩
  | refine Or.inl ⟨_, rfl, ?_⟩
  | refine Or.inr ⟨_, rfl, ?_⟩
  | refine ⟨_, _, _, _, rfl, rfl, SqL.of (by first | assumption | exact upd_same), rfl, ?_⟩
  | refine ⟨_, _, _, _, rfl, rfl, (by first | assumption | exact upd_same), rfl, ?_⟩
  | refine ⟨_, _, rfl, .inl ⟨_, SqL.of (by first | assumption | exact upd_same), rfl⟩, ?_⟩
  | refine ⟨_, _, rfl, rfl, (show (0 : Int) < _ by first | decide | omega), ?_⟩
  | refine ⟨_, _, rfl, rfl, (show (0 : Int) < _ ∧ _ < _ by first | exact ⟨by decide, by decide⟩ | omega), ?_⟩
  | refine ⟨_, _, rfl, rfl, (show (_ < _ ∧ _ < _) ∨ (_ < _ ∧ _ < _) by first | exact .inl ⟨by decide, by decide⟩ | omega), ?_⟩
  | refine ⟨_, _, rfl, rfl, (show (0 : Int) ≤ _ ∧ _ ≤ _ ∧ _ < _ by first | exact ⟨by decide, by decide, by decide⟩ | exact ⟨by decide, by decide, by omega⟩), ?_⟩
  | refine ⟨_, _, rfl, rfl, ?_⟩)

/-! ### the text -/
def topS (i : Nat) : Stmt := PySem.Challenge.pw_freetakes_k06_rules_written_and_read.main.body.getD i (.Pass ⟨0, 0, 0, 0⟩)

abbrev s_pen : Stmt := topS 25
abbrev s_draw : Stmt := topS 26
abbrev s_pick : Stmt := topS 27
section
variable {P : Program} {w : World} {K : PySem.W.Frag} {mg : Str → Option Value} {base : Heap}

theorem sc_pen : FnScope ["_law_script"] ["_law_script"] (defScope s_pen) := ⟨rfl, rfl, rfl, by decide +kernel, rfl, by decide +kernel, by decide +kernel⟩
theorem ok_pen {f : Addr} {fd : FuncData} (F : Fun K "_law_pen" "_law_pen" s_pen f fd) (T : Blt mg) : FnOk P w K mg base CX0 1 f fd ["_law_script"] (spPen K) := by
  refine F.ok sc_pen (fun vs H Q E h => ?_) (fun cdv A outer s H vs Q E hr h => ?_)
  · obtain ⟨a, ns, rfl, _⟩ := h
    rfl
  · obtain ⟨a, ns, rfl, hS, hl, k⟩ := h
    refine ⟨_, (pss_one (ps_ret (pe_lst (pa_cons (pe_callTy call_list_of rfl T.z_list (by decide +kernel) (pa_cons (pe_slice sl_list (pv 0) po_none (po_some pe_int)) pa_nil)) (pa_cons pe_int (pa_cons pe_int pa_nil)))))), ?_⟩
    refine ⟨_, rfl, _, rfl, _, _, rfl, hS, fun l0 hl0 => ⟨_, _, rfl, .inl (SqL.of upd_same), fun l1 hl1 => ⟨by show 3 ≤ sizeLine; decide, fun p hp => ?_⟩⟩⟩
    have n01 : l1 ≠ l0 := fun z => by rw [z, upd_same] at hl1; cases hl1
    have h1 : H l1 = none := by rw [upd_ne n01] at hl1; exact hl1
    have npl1 : p ≠ l1 := fun z => by rw [z, upd_same] at hp; cases hp
    have hp1 : (upd H l0 (.lst (cutV (List.map V.int ns) none (some 63)))) p = none := by rw [upd_ne npl1] at hp; exact hp
    have npl0 : p ≠ l0 := fun z => by rw [z, upd_same] at hp1; cases hp1
    have hp0 : H p = none := by rw [upd_ne npl0] at hp1; exact hp1
    have ecut : cutV (List.map V.int ns) none (some 63) = List.map V.int ns := by
      unfold cutV
      show List.take (HT.sIx (List.map V.int ns).length (List.map V.int ns).length (some (63 : Int)) - 0) (List.drop 0 (List.map V.int ns)) = _
      rw [show ((63 : Int)) = ((63 : Nat) : Int) from rfl, HT.sIx_nat, List.drop_zero, Nat.sub_zero]
      exact List.take_of_length_le (by rw [List.length_map]; omega)
    refine k _ p l1 hp0 h1 ⟨ns, 0, 0, upd_same, ?_, Ne.symm npl1, hl, Int.le_refl _, Int.le_refl _⟩ (fun b o e => ?_)
    · rw [upd_ne (Ne.symm npl1), upd_same, ecut]
    · rw [upd_ne (ne_of_none e hp0), upd_ne (ne_of_none e h1), upd_ne (ne_of_none e hl0)]
      exact e
theorem sc_draw : FnScope ["_law_pen_here", "_law_many", "_law_spot", "_law_cell", "_law_mixed", "_law_digit", "_law_great"] ["_law_pen_here", "_law_many"] (defScope s_draw) := ⟨rfl, rfl, rfl, by decide +kernel, rfl, by decide +kernel, by decide +kernel⟩
theorem ok_draw {f : Addr} {fd : FuncData} (F : Fun K "_law_draw" "_law_draw" s_draw f fd) (T : Blt mg) : FnOk P w K mg base CX0 1 f fd ["_law_pen_here", "_law_many"] spDraw := by
  refine F.ok sc_draw (fun vs H Q E h => ?_) (fun cdv A outer s H vs Q E hr h => ?_)
  · obtain ⟨n, p, q, m, rfl, _⟩ := h
    rfl
  · obtain ⟨n, p, q, m, rfl, ⟨ns, spot, great, hp, hq, hqp, hl, h0, h1⟩, hn, hm, hm2, k⟩ := h
    refine ⟨_, (pss_cons (ps_if (pt_cmpR op_gt (pe_ix ix_list (pv 0) pe_int (fun _ _ => rfl)) pe_int (nomark _)) (pss_cons (ps_set (i := 5) sc_draw.nd rfl (Or.inl rfl) (pe_op op_mod (pe_callTy call_int1 rfl T.z_int (by decide +kernel) (pa_cons (pe_ix ix_list (pv 0) pe_int (fun _ _ => rfl)) pa_nil)) (pv 1)))
  (pss_cons (ps_asg (pe_op op_fdivW (pe_callTy call_int1 rfl T.z_int (by decide +kernel) (pa_cons (pe_ix ix_list (pv 0) pe_int (fun _ _ => rfl)) pa_nil)) (pv 1)) (pg_sub (pv 0) pe_int set_list))
  (pss_one (ps_ret (pv 5))))) pss_nil)
  (pss_cons (ps_set (i := 2) sc_draw.nd rfl (Or.inl rfl) (pe_ix ix_list (pv 0) pe_int (fun _ _ => rfl)))
  (pss_cons (ps_asg (pe_op op_add (pv 2) pe_int) (pg_sub (pv 0) pe_int set_list))
  (pss_cons (ps_set (i := 3) sc_draw.nd rfl (Or.inl rfl) (pe_op op_add (pe_op op_mul pe_int (pv 2)) pe_int))
  (C8.pss_cut (ps_if (pt_cmpR (op_neD hr.units) (pe_ix ix_list (pv 0) pe_int (fun _ _ => rfl)) (pe_lst pa_nil) (nomark _)) (pss_one (ps_set (i := 3) sc_draw.nd rfl (Or.inl rfl) (pe_ix ix_list (pe_ix ix_list (pv 0) pe_int (fun _ _ => rfl)) (pe_op op_mod (pe_callTy call_int1 rfl T.z_int (by decide +kernel) (pa_cons (pv 2) pa_nil)) (pe_callB call_len rfl T.z_len (by decide +kernel) (pa_cons (pe_ix ix_list (pv 0) pe_int (fun _ _ => rfl)) pa_nil))) (fun _ _ => rfl)))) pss_nil)
  (C8.pss_cut (ps_if (PW.pt (pw_and (pt_cmpR op_lt (pv 2) (pe_callB call_len rfl T.z_len (by decide +kernel) (pa_cons (pe_ix ix_list (pv 0) pe_int (fun _ _ => rfl)) pa_nil)) (nomark _)) (pw_and1 (pt_cmpR op_ge (pe_callB call_abs rfl T.z_abs (by decide +kernel) (pa_cons (pv 3) pa_nil)) (pe_op op_pow pe_int pe_int) (nomark _))))) (pss_cons (ps_set (i := 6) sc_draw.nd rfl (Or.inl rfl) (pe_op op_add (pe_op op_mul pe_int (pe_op op_sub (pe_callB call_abs rfl T.z_abs (by decide +kernel) (pa_cons (pv 3) pa_nil)) (pe_op op_pow pe_int pe_int))) (pe_callTy call_int1 rfl T.z_int (by decide +kernel) (pa_cons (pe_cmpR op_lt (pv 3) pe_int (nomark _)) pa_nil))))
  (pss_cons (ps_asg (pe_op op_fdivW (pe_callTy call_int1 rfl T.z_int (by decide +kernel) (pa_cons (pv 6) pa_nil)) (pv 1)) (pg_sub (pv 0) pe_int set_list))
  (pss_one (ps_ret (pe_op op_mod (pe_callTy call_int1 rfl T.z_int (by decide +kernel) (pa_cons (pv 6) pa_nil)) (pv 1)))))) pss_nil)
  (C8.pss_cut (ps_set (i := 4) sc_draw.nd rfl (Or.inl rfl) (pe_op op_mod (pe_callTy call_int1 rfl T.z_int (by decide +kernel) (pa_cons (pe_op op_pow (pe_op op_add (pe_op op_add (pe_op op_mod (pe_callTy call_int1 rfl T.z_int (by decide +kernel) (pa_cons (pv 3) pa_nil)) pe_int) (pe_op op_mul pe_int (pv 2))) pe_int) pe_int) pa_nil)) pe_int))
  (pss_cons (ps_set (i := 4) sc_draw.nd rfl (Or.inl rfl) (pe_op op_mod (pe_callTy call_int1 rfl T.z_int (by decide +kernel) (pa_cons (pe_op op_pow (pe_op op_add (pe_op op_add (pe_op op_mul (pv 4) (pe_op op_add (pe_op op_mul pe_int (pv 2)) pe_int)) (pe_op op_mul (pe_op op_mul pe_int (pv 2)) (pv 2))) pe_int) pe_int) pa_nil)) pe_int))
  (pss_one (ps_ret (pe_op op_mod (pe_callTy call_int1 rfl T.z_int (by decide +kernel) (pa_cons (pe_op op_fdiv (pv 4) pe_int) pa_nil)) (pv 1)))))))))))), ?_⟩
    iterate 4 walk_at "st"
    refine ite2 (fun hg => ?_) (fun hg => ?_)
    · repeat walk_at "st"
      exact k _ _ ⟨ns, spot, great / m, upd_same, by rw [upd_ne hqp]; exact hq, hqp, hl, h0, by omega⟩ Mv.here (Int.emod_nonneg _ (by omega)) (Int.emod_lt_of_pos _ hm)
    · repeat walk_at "st"
      have mul0 : spot ≤ 100000 := by omega
      refine ⟨fun σ' H' => ∃ cell : Int, σ' = [some (.ref p), some (.int m), some (.int spot), some (.int cell), none, none, none] ∧ H' p = some (.lst [.ref q, .int (spot + 1), .int great]) ∧ H' q = some (.lst (ns.map V.int)) ∧ Mv p H H', ?_, ?_⟩
      · have hq1 : upd H p (.lst [.ref q, .int (spot + 1), .int great]) q = some (.lst (ns.map V.int)) := by rw [upd_ne hqp]; exact hq
        have hp1 : upd H p (.lst [.ref q, .int (spot + 1), .int great]) p = some (.lst [.ref q, .int (spot + 1), .int great]) := upd_same
        have mv1 : Mv p H (upd H p (.lst [.ref q, .int (spot + 1), .int great])) := Mv.here
        show tIfS _ _ _ _ _ (upd H p (.lst [.ref q, .int (spot + 1), .int great]))
        generalize upd H p (.lst [.ref q, .int (spot + 1), .int great]) = H1 at hq1 hp1 mv1 ⊢
        repeat walk_at "st"
        refine ⟨Nat.zero_le _, fun l hl0 => ?_⟩
        have hp2 : upd H1 l (.lst []) p = some (.lst [.ref q, .int (spot + 1), .int great]) := by rw [upd_ne (ne_of_none hp1 hl0)]; exact hp1
        have hq2 : upd H1 l (.lst []) q = some (.lst (ns.map V.int)) := by rw [upd_ne (ne_of_none hq1 hl0)]; exact hq1
        have mv2 : Mv p H (upd H1 l (.lst [])) := mv1.trans (Mv.new hl0)
        refine ⟨_, _, Dp.lst (SqL.of hq2) (dp_ints ns), Dp.lst (SqL.of upd_same) .nil, shaped_ints ns, shaped_ints [], _, rfl, ?_⟩
        refine ite2 (fun ht => ?_) (fun _ => ⟨_, rfl, hp2, hq2, mv2⟩)
        have hne : 0 < (ns.map V.int).length := by
          cases ns with
          | nil => exact absurd ht (by decide)
          | cons z zs => rw [List.length_map]; exact Nat.succ_pos _
        have hpos : (0 : Int) < (((ns.map V.int).length : Nat) : Int) := by omega
        obtain ⟨x, hx, ax⟩ := at_mod spot hne
        obtain ⟨z, hz, rfl⟩ := List.mem_map.mp hx
        iterate 2 walk_at "st"
        iterate 2 walk_at "st"
        iterate 2 walk_at "st"
        iterate 1 walk_at "st"
        refine ⟨_, _, rfl, rfl, hpos, q, _, _, _, rfl, rfl, SqL.of hq2, ax, ?_⟩
        exact ⟨z, rfl, hp2, hq2, mv2⟩
      · rintro σ' H' ⟨cell, rfl, hp', hq', mv⟩
        have small : ∀ H'', Mv p H H'' → H'' p = some (.lst [.ref q, .int (spot + 1), .int great]) → H'' q = some (.lst (ns.map V.int)) → PenAt (n + 1) H'' p q := fun H'' _ a b => ⟨ns, spot + 1, great, a, b, hqp, hl, by omega, by omega⟩
        refine ⟨fun σ'' H'' => σ'' = [some (.ref p), some (.int m), some (.int spot), some (.int cell), none, none, none] ∧ H'' = H', ?_, ?_⟩
        · repeat walk_at "st"
          refine ite2 (fun _ => ?_) (fun _ => iteF ⟨rfl, rfl⟩)
          repeat walk_at "st"
          refine ite2 (fun _ => ?_) (fun _ => ⟨rfl, rfl⟩)
          repeat walk_at "st"
          exact k _ _ ⟨ns, spot + 1, _, upd_same, by rw [upd_ne hqp]; exact hq', hqp, hl, by omega, by omega⟩ (mv.trans Mv.here) (Int.emod_nonneg _ (by omega)) (Int.emod_lt_of_pos _ hm)
        · rintro σ'' H'' ⟨rfl, rfl⟩
          refine ⟨fun σ₂ H₂ => ∃ mixed : Int, σ₂ = [some (.ref p), some (.int m), some (.int spot), some (.int cell), some (.int mixed), none, none] ∧ 0 ≤ mixed ∧ mixed < 2147483648 ∧ H₂ = H'', ?_, ?_⟩
          · repeat walk_at "st"
            exact ⟨Int.emod_nonneg _ (by decide), Int.lt_trans (Int.emod_lt_of_pos _ (by decide)) (by decide), rfl⟩
          · rintro σ₂ H₂ ⟨mixed, rfl, m0, m1, rfl⟩
            have b1 : 0 ≤ mixed * (2 * spot + 113) := Int.mul_nonneg m0 (by omega)
            have b2 : mixed * (2 * spot + 113) ≤ 2147483648 * 300000 := Int.mul_le_mul (by omega) (by omega) (by omega) (by omega)
            have b3 : 0 ≤ 60115 * spot * spot := Int.mul_nonneg (by omega) h0
            have b4 : 60115 * spot * spot ≤ 6011500000 * 100000 := Int.mul_le_mul (by omega) (by omega) (by omega) (by omega)
            repeat walk_at "st"
            exact k _ _ (small _ mv hp' hq') mv (Int.emod_nonneg _ (by omega)) (Int.emod_lt_of_pos _ hm)
theorem sc_pick : FnScope ["_law_pen_here", "_law_some"] ["_law_pen_here", "_law_some"] (defScope s_pick) := ⟨rfl, rfl, rfl, by decide +kernel, rfl, by decide +kernel, by decide +kernel⟩
theorem ok_pick {f fD : Addr} {fd fdD : FuncData} (F : Fun K "_law_pick" "_law_pick" s_pick f fd) (T : Blt mg) (D : Fun K "_law_draw" "_law_draw" s_draw fD fdD) (gD : mg "_law_draw" = some (.ref fD)) (b_draw : L2.Binds K fdD ["_law_pen_here", "_law_many"] []) :
    FnOk P w K mg base CX0 2 f fd ["_law_pen_here", "_law_some"] (spPick K) := by
  have G_draw : FnOk P w K mg base CX0 1 fD fdD ["_law_pen_here", "_law_many"] spDraw := ok_draw D T
  refine F.ok sc_pick (fun vs H Q E h => ?_) (fun cdv A outer s H vs Q E hr h => ?_)
  · obtain ⟨n, p, q, l, xs, rfl, _⟩ := h
    rfl
  · obtain ⟨n, p, q, l, xs, rfl, hp, hn, hlp, hl, h0, h1, k⟩ := h
    refine ⟨_, (pss_one (ps_ret (pe_ix ix_list (pv 1) (pe_call G_draw (hr.mono (by decide)) rfl gD D.kp b_draw .nil pass0 (by exact (pa_cons (pv 0) (pa_cons (pe_callB call_len rfl T.z_len (by decide +kernel) (pa_cons (pv 1) pa_nil)) pa_nil)))) (fun _ _ => rfl)))), ?_⟩
    iterate 3 walk_at "st"
    refine ⟨_, _, rfl, .inl ⟨_, SqL.of hl, rfl⟩, n, p, q, _, rfl, hp, hn, by omega, small_log (by omega) (by omega), fun H' r hp' mv r0 r1 => ?_⟩
    obtain ⟨x, hx, ax⟩ := at_in r0 r1
    exact ⟨_, _, _, _, rfl, rfl, SqL.of (mv l _ hlp hl), ax, k H' x hp' mv hx⟩
end
section
variable {P : Program} {w : World} {K : PySem.W.Frag} {mg : Str → Option Value} {base : Heap}

abbrev s_rank_of : Stmt := topS 17
abbrev s_badI : Stmt := inClass (topS 3) 0
abbrev s_rested : Stmt := inClass (topS 13) 0
abbrev s_sized : Stmt := inClass (topS 14) 0
abbrev s_fixed : Stmt := inClass (topS 15) 0
abbrev s_down : Stmt := inClass (topS 16) 0
abbrev s_is_number : Stmt := topS 6
theorem sc_is_number : FnScope ["value", "least", "most"] ["value", "least", "most"] (defScope s_is_number) := ⟨rfl, rfl, rfl, by decide +kernel, rfl, by decide +kernel, by decide +kernel⟩
theorem ok_is_number {f : Addr} {fd : FuncData} (F : Fun K "is_number" "is_number" s_is_number f fd) (T : Blt mg) : FnOk P w K mg base CX0 1 f fd ["value", "least", "most"] spNum := by
  refine F.ok sc_is_number (fun vs H Q E h => ?_) (fun cdv A outer s H vs Q E hr h => ?_)
  · obtain ⟨x, lo, hi, rfl, _⟩ := h
    rfl
  · obtain ⟨x, lo, hi, rfl, kd, k⟩ := h
    obtain ⟨t, ty, k1, k2⟩ := kd.isInt (K := K)
    refine ⟨_, (pss_one (ps_ret (pe_and (pe_callB call_isi rfl T.z_isinstance (by decide +kernel) (pa_cons (pv 0) (pa_cons (pe_bltn (v := .ty "int") rfl T.z_int (by decide +kernel) rfl) pa_nil))) (pe_and (pe_not (pe_callB call_isi rfl T.z_isinstance (by decide +kernel) (pa_cons (pv 0) (pa_cons (pe_bltn (v := .ty "bool") rfl T.z_bool (by decide +kernel) rfl) pa_nil)))) (pe_one (pe_chain op_le op_le (pv 1) (pv 0) (pv 2))))))), ?_⟩
    refine ⟨_, rfl, _, _, _, _, _, rfl, .ty "int", ty, k1, _, rfl, ?_⟩
    refine ite2 (fun i1 => ?_) (fun i1 => ?_)
    · refine ⟨_, rfl, _, _, _, _, _, rfl, .ty "bool", ty, k2, _, rfl, _, rfl, ?_⟩
      refine ite2 (fun i2 => ?_) (fun i2 => ?_)
      · obtain ⟨i, rfl⟩ : ∃ i, x = V.int i := by
          cases x with
          | int i => exact ⟨i, rfl⟩
          | bl b => exact absurd i2 Bool.false_ne_true
          | _ => exact absurd i1 Bool.false_ne_true
        iterate 2 walk_at "st"
        refine ⟨_, _, rfl, rfl, _, rfl, ?_⟩
        refine ite2 (fun i3 => ?_) (fun i3 => ?_)
        · iterate 2 walk_at "st"
          have e : numV lo hi (.int i) = decide (i ≤ hi) := by
            show (decide (lo ≤ i) && decide (i ≤ hi)) = _
            rw [i3, Bool.true_and]
          show Q (.bl (decide (i ≤ hi))) _
          rw [← e]
          exact k
        · have e : numV lo hi (.int i) = false := by
            show (decide (lo ≤ i) && decide (i ≤ hi)) = _
            rw [Bool.eq_false_iff.mpr i3, Bool.false_and]
          rw [e] at k
          exact k
      · have e : numV lo hi x = false := by
          cases x with
          | int i => exact absurd rfl i2
          | _ => rfl
        rw [e] at k
        exact k
    · have e : numV lo hi x = false := by
        cases x with
        | int i => exact absurd rfl i1
        | _ => rfl
      rw [e] at k
      exact k
section
variable {CRl CB fB : Addr}
theorem sc_badI : FnScope ["self", "part"] ["self", "part"] (defScope s_badI) := ⟨rfl, rfl, rfl, by decide +kernel, rfl, by decide +kernel, by decide +kernel⟩
theorem ok_badI {f : Addr} {fd : FuncData} (F : Fun K "__init__" "BadRule.__init__" s_badI f fd) (T : PrgB K mg CRl CB fB) : FnOk P w K mg base CX0 1 f fd ["self", "part"] (spBadI CB) := by
  refine F.ok sc_badI (fun vs H Q E h => ?_) (fun cdv A outer s H vs Q E hr h => ?_)
  · obtain ⟨a, v, rfl, _⟩ := h
    rfl
  · obtain ⟨a, v, rfl, ha, k⟩ := h
    refine ⟨_, (pss_one (ps_ost (pv 0) (pv 1))), ?_⟩
    exact ⟨_, rfl, _, rfl, a, CB, rfl, T.oB, T.nPart, .inl ⟨ha, fun d n ne => k d n ne⟩⟩

theorem sc_rank_of : FnScope ["kind", "number", "modulus", "rest", "leave", "rank", "part"] ["kind", "number", "modulus", "rest", "leave"] (defScope s_rank_of) := ⟨rfl, rfl, rfl, by decide +kernel, rfl, by decide +kernel, by decide +kernel⟩
theorem ok_rank_of {f : Addr} {fd : FuncData} (F : Fun K "rank_of" "rank_of" s_rank_of f fd) (T : PrgB K mg CRl CB fB) : FnOk P w K mg base CX0 1 f fd ["kind", "number", "modulus", "rest", "leave"] spRank := by
  refine F.ok sc_rank_of (fun vs H Q E h => ?_) (fun cdv A outer s H vs Q E hr h => ?_)
  · obtain ⟨k, a, b, c, e, rfl, _⟩ := h
    rfl
  · obtain ⟨k, a, b, c, e, rfl, k0, k1, a0, a1, b0, b1, c0, c1, e0, e1, fin⟩ := h
    obtain ⟨u, most⟩ := T.most
    refine ⟨_, (pss_cons (ps_set (i := 5) sc_rank_of.nd rfl (Or.inl rfl) (pv 0))
  (pss_cons (ps_for PassesOwn.never rfl (pi_tup (pe_tup (pa_cons (pv 1) (pa_cons (pv 2) (pa_cons (pv 3) (pa_cons (pv 4) pa_nil)))))) (pg_name (i := 6) sc_rank_of.nd rfl (Or.inl rfl)) (pss_one (ps_set (i := 5) sc_rank_of.nd rfl (Or.inl rfl) (pe_op op_add (pe_op op_mul (pv 5) (pe_op op_add (ClX.pe_cval (pe_glob (v := .ref _) rfl T.g_Rule rfl)) pe_int)) (pv 6)))))
  (pss_one (ps_ret (pv 5))))), ?_⟩
    iterate 5 walk_at "st"
    refine ⟨by show 4 ≤ sizeLine; decide, fun t ht => ⟨t, rfl, ⟨_, SqT.of upd_same⟩, for_tup (K := K) (a := t) (xs := [.int a, .int b, .int c, .int e])
      (fun i σ H' => (∃ v : Option V, σ = [some (.int k), some (.int a), some (.int b), some (.int c), some (.int e), some (.int (match i with | 0 => k | 1 => k * 401 + a | 2 => (k * 401 + a) * 401 + b | 3 => ((k * 401 + a) * 401 + b) * 401 + c | _ => rankI k a b c e)), v]) ∧ H' = upd H t (.tup [.int a, .int b, .int c, .int e]))
      ⟨⟨_, rfl⟩, rfl⟩ (fun i σ H' _ q => by rw [q.2]; exact SqT.of upd_same) ?_ ?_⟩⟩
    · rintro i x σ H' hi ⟨⟨v, rfl⟩, rfl⟩
      match i, hi with
      | 0, hi =>
        cases hi
        refine ⟨_, rfl, _, _, _, _, rfl, T.rdRl, most, _, _, rfl, rfl, _, _, rfl, rfl, (show (_ < _ ∧ _ < _) ∨ (_ < _ ∧ _ < _) by omega), _, rfl, _, _, rfl, rfl, ⟨_, rfl⟩, rfl⟩
      | 1, hi =>
        cases hi
        refine ⟨_, rfl, _, _, _, _, rfl, T.rdRl, most, _, _, rfl, rfl, _, _, rfl, rfl, (show (_ < _ ∧ _ < _) ∨ (_ < _ ∧ _ < _) by omega), _, rfl, _, _, rfl, rfl, ⟨_, rfl⟩, rfl⟩
      | 2, hi =>
        cases hi
        refine ⟨_, rfl, _, _, _, _, rfl, T.rdRl, most, _, _, rfl, rfl, _, _, rfl, rfl, (show (_ < _ ∧ _ < _) ∨ (_ < _ ∧ _ < _) by omega), _, rfl, _, _, rfl, rfl, ⟨_, rfl⟩, rfl⟩
      | 3, hi =>
        cases hi
        refine ⟨_, rfl, _, _, _, _, rfl, T.rdRl, most, _, _, rfl, rfl, _, _, rfl, rfl, (show (_ < _ ∧ _ < _) ∨ (_ < _ ∧ _ < _) by omega), _, rfl, _, _, rfl, rfl, ⟨_, rfl⟩, rfl⟩
      | n + 4, hi => simp at hi
    · rintro σ H' ⟨⟨v, rfl⟩, rfl⟩
      exact ⟨_, rfl, fin _ fun b' o q => by rw [upd_ne (ne_of_none q ht)]; exact q⟩
theorem sc_rested : FnScope ["self", "rest", "modulus"] ["self", "rest", "modulus"] (defScope s_rested) := ⟨rfl, rfl, rfl, by decide +kernel, rfl, by decide +kernel, by decide +kernel⟩
theorem ok_rested {CI f fN : Addr} {fd fdN fdB : FuncData} (F : Fun K "__init__" "Rested.__init__" s_rested f fd) (U : Blt mg) (T : PrgB K mg CRl CB fB) (IC : InsC K CI) (N : Fun K "is_number" "is_number" s_is_number fN fdN) (gN : mg "is_number" = some (.ref fN)) (b_is_number : L2.Binds K fdN ["value", "least", "most"] [])
    (B : Fun K "__init__" "BadRule.__init__" s_badI fB fdB) (b_badI : L2.Binds K fdB ["self", "part"] []) : FnOk P w K mg base (L2.CX P w) 3 f fd ["self", "rest", "modulus"] (spRested CB CI) := by
  have G_is_number : FnOk P w K mg base CX0 1 fN fdN ["value", "least", "most"] spNum := ok_is_number N U
  have G_badI : FnOk P w K mg base CX0 1 fB fdB ["self", "part"] (spBadI CB) := ok_badI B T
  refine F.okX sc_rested (fun vs H Q E h => ?_) (fun cdv A outer s H vs Q E hr h => ?_)
  · obtain ⟨x, dx, fs, r, m, rfl, _⟩ := h
    rfl
  · obtain ⟨x, dx, fs, r, m, rfl, hx, hfs, kr, km, bad, fin⟩ := h
    obtain ⟨u, mostM⟩ := T.mostM
    refine ⟨_, (pss_cons (ps_if (pt_not (pt_val (pe_call G_is_number (hr.mono (by decide)) rfl gN N.kp b_is_number .nil pass0 (by exact (pa_cons (pv 2) (pa_cons pe_int (pa_cons (ClX.pe_cval (pe_glob (v := .ref _) rfl T.g_Rule rfl)) pa_nil))))))) (pss_one (ps_raise rfl (takes_of rfl rfl rfl rfl) (pmk_oex T.oB T.iB T.tB G_badI (hr.mono (by decide)) b_badI .nil pass0 rfl T.g_BadRule (by exact (pa_cons pe_str pa_nil))))) pss_nil)
  (pss_cons (ps_if (pt_not (pt_val (pe_call G_is_number (hr.mono (by decide)) rfl gN N.kp b_is_number .nil pass0 (by exact (pa_cons (pv 1) (pa_cons pe_int (pa_cons (pe_op op_sub (pv 2) pe_int) pa_nil))))))) (pss_one (ps_raise rfl (takes_of rfl rfl rfl rfl) (pmk_oex T.oB T.iB T.tB G_badI (hr.mono (by decide)) b_badI .nil pass0 rfl T.g_BadRule (by exact (pa_cons pe_str pa_nil))))) pss_nil)
  (pss_cons (ps_fld (pv 0) (pv 1) rfl)
  (pss_one (ps_fld (pv 0) (pv 2) rfl))))), ?_⟩
    refine ⟨_, rfl, _, _, _, _, rfl, T.rdRl, mostM, m, 1, 6, rfl, km, _, rfl, ?_⟩
    cases e1 : numV 1 6 m with
    | false =>
      refine iteT ?_
      have e : dueR r m = some "modulus" := by
        unfold dueR
        rw [e1]
        rfl
      exact bad_made (W := fun cls d _ H => E cls d H) (bad _ e) fun _ _ _ z => z
    | true =>
      refine iteF ?_
      obtain ⟨i, rfl, i0, i1⟩ := numV_is e1
      have e : dueR r (.int i) = if numV 0 (i - 1) r = true then none else some ("rest" : Str) := by
        unfold dueR
        rw [e1]
        rfl
      refine ⟨_, rfl, _, rfl, _, _, rfl, rfl, r, 0, i - 1, rfl, kr, _, rfl, ?_⟩
      cases e2 : numV 0 (i - 1) r with
      | false =>
        refine iteT ?_
        exact bad_made (W := fun cls d _ H => E cls d H) (bad _ (by rw [e, e2]; rfl)) fun _ _ _ z => z
      | true =>
        refine iteF ?_
        refine ⟨_, rfl, _, rfl, x, CI, dx, fs, rfl, hx, IC.cl, IC.nRest, by omega, ?_⟩
        have hl := length_putF "rest" r fs
        refine ⟨_, rfl, _, rfl, x, CI, dx, _, rfl, upd_same, IC.cl, IC.nModulus, by omega, ?_⟩
        have z := fin (by rw [e, e2]; rfl)
        rw [upd_upd]
        exact z
theorem sc_sized : FnScope ["self", "size", "leave"] ["self", "size", "leave"] (defScope s_sized) := ⟨rfl, rfl, rfl, by decide +kernel, rfl, by decide +kernel, by decide +kernel⟩
theorem ok_sized {CI f fN : Addr} {fd fdN fdB : FuncData} (F : Fun K "__init__" "Sized.__init__" s_sized f fd) (U : Blt mg) (T : PrgB K mg CRl CB fB) (IC : InsC K CI) (N : Fun K "is_number" "is_number" s_is_number fN fdN) (gN : mg "is_number" = some (.ref fN)) (b_is_number : L2.Binds K fdN ["value", "least", "most"] [])
    (B : Fun K "__init__" "BadRule.__init__" s_badI fB fdB) (b_badI : L2.Binds K fdB ["self", "part"] []) : FnOk P w K mg base (L2.CX P w) 3 f fd ["self", "size", "leave"] (spSized CB CI) := by
  have G_is_number : FnOk P w K mg base CX0 1 fN fdN ["value", "least", "most"] spNum := ok_is_number N U
  have G_badI : FnOk P w K mg base CX0 1 fB fdB ["self", "part"] (spBadI CB) := ok_badI B T
  refine F.okX sc_sized (fun vs H Q E h => ?_) (fun cdv A outer s H vs Q E hr h => ?_)
  · obtain ⟨x, dx, fs, r, m, rfl, _⟩ := h
    rfl
  · obtain ⟨x, dx, fs, z, l, rfl, hx, hfs, kz, kl, bad, fin⟩ := h
    obtain ⟨u, most⟩ := T.most
    refine ⟨_, (pss_cons (ps_if (pt_not (pt_val (pe_call G_is_number (hr.mono (by decide)) rfl gN N.kp b_is_number .nil pass0 (by exact (pa_cons (pv 1) (pa_cons pe_int (pa_cons (ClX.pe_cval (pe_glob (v := .ref _) rfl T.g_Rule rfl)) pa_nil))))))) (pss_one (ps_raise rfl (takes_of rfl rfl rfl rfl) (pmk_oex T.oB T.iB T.tB G_badI (hr.mono (by decide)) b_badI .nil pass0 rfl T.g_BadRule (by exact (pa_cons pe_str pa_nil))))) pss_nil)
  (pss_cons (ps_if (pt_not (pt_val (pe_call G_is_number (hr.mono (by decide)) rfl gN N.kp b_is_number .nil pass0 (by exact (pa_cons (pv 2) (pa_cons pe_int (pa_cons (ClX.pe_cval (pe_glob (v := .ref _) rfl T.g_Rule rfl)) pa_nil))))))) (pss_one (ps_raise rfl (takes_of rfl rfl rfl rfl) (pmk_oex T.oB T.iB T.tB G_badI (hr.mono (by decide)) b_badI .nil pass0 rfl T.g_BadRule (by exact (pa_cons pe_str pa_nil))))) pss_nil)
  (pss_cons (ps_fld (pv 0) (pv 1) rfl)
  (pss_one (ps_fld (pv 0) (pv 2) rfl))))), ?_⟩
    refine ⟨_, rfl, _, _, _, _, rfl, T.rdRl, most, z, 1, 400, rfl, kz, _, rfl, ?_⟩
    cases e1 : numV 1 400 z with
    | false =>
      refine iteT ?_
      exact bad_made (W := fun cls d _ H => E cls d H) (bad _ (by unfold dueS; rw [e1]; rfl)) fun _ _ _ z => z
    | true =>
      refine iteF ?_
      refine ⟨_, rfl, _, _, _, _, rfl, T.rdRl, most, l, 0, 400, rfl, kl, _, rfl, ?_⟩
      cases e2 : numV 0 400 l with
      | false =>
        refine iteT ?_
        exact bad_made (W := fun cls d _ H => E cls d H) (bad _ (by unfold dueS; rw [e1, e2]; rfl)) fun _ _ _ z => z
      | true =>
        refine iteF ?_
        refine ⟨_, rfl, _, rfl, x, CI, dx, fs, rfl, hx, IC.cl, IC.nSize, by omega, ?_⟩
        have hl := length_putF "size" z fs
        refine ⟨_, rfl, _, rfl, x, CI, dx, _, rfl, upd_same, IC.cl, IC.nLeave, by omega, ?_⟩
        have q := fin (by unfold dueS; rw [e1, e2]; rfl)
        rw [upd_upd]
        exact q
abbrev FunDown (K : PySem.W.Frag) (f : Addr) (fd : FuncData) : Prop := FunD K "__init__" "Down.__init__" (defArgs s_down) (defBody s_down) (defScope s_down) [.int 0, .int 1] [] f fd
abbrev FunFixed (K : PySem.W.Frag) (f : Addr) (fd : FuncData) : Prop := FunD K "__init__" "Fixed.__init__" (defArgs s_fixed) (defBody s_fixed) (defScope s_fixed) [.int 0, .int 1, .int 0] [] f fd
theorem sc_down : FnScope ["self", "to", "rest", "modulus"] ["self", "to", "rest", "modulus"] (defScope s_down) := ⟨rfl, rfl, rfl, by decide +kernel, rfl, by decide +kernel, by decide +kernel⟩
theorem ok_down {CI CRs f fN fK fRs : Addr} {fd fdN fdB fdRs fdK : FuncData} (F : FunDown K f fd) (U : Blt mg) (T : PrgB K mg CRl CB fB) (IC : InsC K CI) (N : Fun K "is_number" "is_number" s_is_number fN fdN) (gN : mg "is_number" = some (.ref fN)) (b_is_number : L2.Binds K fdN ["value", "least", "most"] [])
    (B : Fun K "__init__" "BadRule.__init__" s_badI fB fdB) (b_badI : L2.Binds K fdB ["self", "part"] [])
    (Rs : Fun K "__init__" "Rested.__init__" s_rested fRs fdRs) (b_rested : L2.Binds K fdRs ["self", "rest", "modulus"] []) (gRs : mg "Rested" = some (.ref CRs)) (BRs : BaseC K CRs fRs)
    (RK : Fun K "rank_of" "rank_of" s_rank_of fK fdK) (gK : mg "rank_of" = some (.ref fK)) (b_rank_of : L2.Binds K fdK ["kind", "number", "modulus", "rest", "leave"] []) : FnOk P w K mg base (L2.CX P w) 5 f fd ["self", "to", "rest", "modulus"] (spDown CB CI) := by
  have G_is_number : FnOk P w K mg base CX0 1 fN fdN ["value", "least", "most"] spNum := ok_is_number N U
  have G_badI : FnOk P w K mg base CX0 1 fB fdB ["self", "part"] (spBadI CB) := ok_badI B T
  have G_rank_of : FnOk P w K mg base CX0 1 fK fdK ["kind", "number", "modulus", "rest", "leave"] spRank := ok_rank_of RK T
  have G_rested : FnOk P w K mg base (L2.CX P w) 3 fRs fdRs ["self", "rest", "modulus"] (spRested CB CI) := ok_rested Rs U T IC N gN b_is_number B b_badI
  refine F.ok (k := 4) sc_down (fun vs H Q E h => ?_) (fun cdv A outer s H vs Q E hr h => ?_)
  · obtain ⟨x, dx, t, r, m, rfl, _⟩ := h
    rfl
  · obtain ⟨x, dx, t, r, m, rfl, hx, kt, kr, km, bad, fin⟩ := h
    obtain ⟨u, most⟩ := T.most
    refine ⟨_, (pss_cons (ps_if (pt_not (pt_val (pe_call G_is_number (hr.mono (by decide)) rfl gN N.kp b_is_number .nil pass0 (by exact (pa_cons (pv 1) (pa_cons pe_int (pa_cons (ClX.pe_cval (pe_glob (v := .ref _) rfl T.g_Rule rfl)) pa_nil))))))) (pss_one (ps_raise rfl (takes_of rfl rfl rfl rfl) (pmk_oex T.oB T.iB T.tB G_badI (hr.mono (by decide)) b_badI .nil pass0 rfl T.g_BadRule (by exact (pa_cons pe_str pa_nil))))) pss_nil)
  (pss_cons (ps_expr (pe_clsFn (pe_glob (v := .ref _) rfl gRs rfl) BRs.rd BRs.fn G_rested (hr.mono (by decide)) Rs.kp b_rested .nil (passes_call (takes_of rfl rfl rfl rfl) (fun _ _ _ _ h => h)) (by exact (pa_cons (pv 0) (pa_cons (pv 2) (pa_cons (pv 3) pa_nil))))))
  (pss_cons (ps_fld (pv 0) (pv 1) rfl)
  (pss_cons (ps_fld (pv 0) (pe_op op_add (pv 1) pe_int) rfl)
  (pss_one (ps_fld (pv 0) (pe_call G_rank_of (hr.mono (by decide)) rfl gK RK.kp b_rank_of .nil pass0 (by exact (pa_cons pe_int (pa_cons (pv 1) (pa_cons (pv 3) (pa_cons (pv 2) (pa_cons pe_int pa_nil))))))) rfl)))))), ?_⟩
    refine ⟨_, rfl, _, _, _, _, rfl, T.rdRl, most, t, 0, 400, rfl, kt, _, rfl, ?_⟩
    cases e1 : numV 0 400 t with
    | false =>
      refine iteT ?_
      exact bad_made (W := fun cls d _ H => E cls d H) (bad _ (by unfold dueD; rw [e1]; rfl)) fun _ _ _ z => z
    | true =>
      refine iteF ?_
      have e : dueD t r m = dueR r m := by
        unfold dueD
        rw [e1]
        rfl
      obtain ⟨ti, rfl, t0, t1⟩ := numV_is e1
      refine ⟨rfl, _, rfl, _, rfl, _, rfl, x, dx, [], r, m, rfl, hx, (by decide), kr, km, fun z hz => bad z (e.trans hz), fun hz => ?_⟩
      obtain ⟨mi, rfl, m0, m1⟩ : ∃ mi, m = .int mi ∧ 1 ≤ mi ∧ mi ≤ 6 := by
        cases e2 : numV 1 6 m with
        | true => exact numV_is e2
        | false =>
          unfold dueR at hz
          rw [e2] at hz
          cases hz
      obtain ⟨ri, rfl, r0, r1⟩ : ∃ ri, r = .int ri ∧ 0 ≤ ri ∧ ri ≤ mi - 1 := by
        cases e2 : numV 0 (mi - 1) r with
        | true => exact numV_is e2
        | false =>
          have z2 : dueR r (.int mi) = some "rest" := by
            unfold dueR
            have e3 : numV 1 6 (.int mi) = true := by
              show (decide (1 ≤ mi) && decide (mi ≤ 6)) = true
              rw [decide_eq_true m0, decide_eq_true m1] <;> rfl
            rw [e3]
            show (if numV 0 (mi - 1) r = true then none else some _) = some _
            rw [e2]
            rfl
          rw [z2] at hz
          cases hz
      refine ⟨_, rfl, _, rfl, x, CI, dx, _, rfl, upd_same, IC.cl, IC.nTo, (by show 2 < 1000; decide), ?_⟩
      refine ⟨_, rfl, _, _, rfl, rfl, _, rfl, x, CI, dx, _, rfl, upd_same, IC.cl, IC.nStart, (by show 3 < 1000; decide), ?_⟩
      refine ⟨_, rfl, _, rfl, _, rfl, 1, ti, mi, ri, 0, rfl, by omega, by omega, t0, t1, by omega, by omega, r0, by omega, by omega, by omega, fun H2 s2 => ?_⟩
      refine ⟨_, rfl, x, CI, dx, _, rfl, s2 _ _ upd_same, IC.cl, IC.nRank, (by show 4 < 1000; decide), ?_⟩
      refine fin ti ri mi _ rfl rfl rfl (e.trans hz) (fun b o nb q => ?_) upd_same
      rw [upd_ne nb]
      refine s2 b o ?_
      rw [upd_ne nb, upd_ne nb, upd_ne nb]
      exact q
theorem sc_fixed : FnScope ["self", "size", "rest", "modulus", "leave"] ["self", "size", "rest", "modulus", "leave"] (defScope s_fixed) := ⟨rfl, rfl, rfl, by decide +kernel, rfl, by decide +kernel, by decide +kernel⟩
theorem ok_fixed {CI CRs CSz f fN fK fRs fSz : Addr} {fd fdN fdB fdRs fdK fdSz : FuncData} (F : FunFixed K f fd) (U : Blt mg) (T : PrgB K mg CRl CB fB) (IC : InsC K CI) (N : Fun K "is_number" "is_number" s_is_number fN fdN) (gN : mg "is_number" = some (.ref fN)) (b_is_number : L2.Binds K fdN ["value", "least", "most"] [])
    (B : Fun K "__init__" "BadRule.__init__" s_badI fB fdB) (b_badI : L2.Binds K fdB ["self", "part"] [])
    (Rs : Fun K "__init__" "Rested.__init__" s_rested fRs fdRs) (b_rested : L2.Binds K fdRs ["self", "rest", "modulus"] []) (gRs : mg "Rested" = some (.ref CRs)) (BRs : BaseC K CRs fRs)
    (RK : Fun K "rank_of" "rank_of" s_rank_of fK fdK) (gK : mg "rank_of" = some (.ref fK)) (b_rank_of : L2.Binds K fdK ["kind", "number", "modulus", "rest", "leave"] [])
    (Sz : Fun K "__init__" "Sized.__init__" s_sized fSz fdSz) (b_sized : L2.Binds K fdSz ["self", "size", "leave"] []) (gSz : mg "Sized" = some (.ref CSz)) (BSz : BaseC K CSz fSz) : FnOk P w K mg base (L2.CX P w) 5 f fd ["self", "size", "rest", "modulus", "leave"] (spFixed CB CI) := by
  have G_is_number : FnOk P w K mg base CX0 1 fN fdN ["value", "least", "most"] spNum := ok_is_number N U
  have G_badI : FnOk P w K mg base CX0 1 fB fdB ["self", "part"] (spBadI CB) := ok_badI B T
  have G_rank_of : FnOk P w K mg base CX0 1 fK fdK ["kind", "number", "modulus", "rest", "leave"] spRank := ok_rank_of RK T
  have G_rested : FnOk P w K mg base (L2.CX P w) 3 fRs fdRs ["self", "rest", "modulus"] (spRested CB CI) := ok_rested Rs U T IC N gN b_is_number B b_badI
  have G_sized : FnOk P w K mg base (L2.CX P w) 3 fSz fdSz ["self", "size", "leave"] (spSized CB CI) := ok_sized Sz U T IC N gN b_is_number B b_badI
  refine F.ok (k := 4) sc_fixed (fun vs H Q E h => ?_) (fun cdv A outer s H vs Q E hr h => ?_)
  · obtain ⟨x, dx, t, r, m, l, rfl, _⟩ := h
    rfl
  · obtain ⟨x, dx, z, r, m, l, rfl, hx, kz, kr, km, kl, bad, fin⟩ := h
    refine ⟨_, (pss_cons (ps_expr (pe_clsFn (pe_glob (v := .ref _) rfl gSz rfl) BSz.rd BSz.fn G_sized (hr.mono (by decide)) Sz.kp b_sized .nil (passes_call (takes_of rfl rfl rfl rfl) (fun _ _ _ _ h => h)) (by exact (pa_cons (pv 0) (pa_cons (pv 1) (pa_cons (pv 4) pa_nil))))))
  (pss_cons (ps_expr (pe_clsFn (pe_glob (v := .ref _) rfl gRs rfl) BRs.rd BRs.fn G_rested (hr.mono (by decide)) Rs.kp b_rested .nil (passes_call (takes_of rfl rfl rfl rfl) (fun _ _ _ _ h => h)) (by exact (pa_cons (pv 0) (pa_cons (pv 2) (pa_cons (pv 3) pa_nil))))))
  (pss_cons (ps_fld (pv 0) (pe_op op_add (pv 1) (pv 4)) rfl)
  (pss_one (ps_fld (pv 0) (pe_call G_rank_of (hr.mono (by decide)) rfl gK RK.kp b_rank_of .nil pass0 (by exact (pa_cons pe_int (pa_cons (pv 1) (pa_cons (pv 3) (pa_cons (pv 2) (pa_cons (pv 4) pa_nil))))))) rfl))))), ?_⟩
    refine ⟨rfl, _, rfl, _, rfl, _, rfl, x, dx, [], z, l, rfl, hx, (by decide), kz, kl, fun y hy => bad y _ (by unfold dueF; rw [hy]) (Mv.refl _ _), fun h1 => ?_⟩
    have kd : ∀ {v : V} {o : HO}, Kd H v → H x = some o → (∀ a, v = .ref a → a ≠ x) → ∀ {u : HO}, Kd (upd H x u) v := fun h _ n => h.keep fun a o e q => by rw [upd_ne (n a e)]; exact q
    have apart : ∀ {v : V}, Kd H v → ∀ a, v = .ref a → a ≠ x := fun {v} h a e z => by
      subst e
      rw [z] at h
      rcases h with ⟨_, h⟩ | ⟨_, h⟩ | ⟨_, h⟩ <;> (rw [hx] at h; cases h)
    refine ⟨rfl, _, rfl, _, rfl, _, rfl, x, dx, _, r, m, rfl, upd_same, (by show 2 < 900; decide), kd kr hx (apart kr), kd km hx (apart km), fun y hy => bad y _ (by unfold dueF; rw [h1]; exact hy) Mv.here, fun h2 => ?_⟩
    have e : dueF z r m l = none := by unfold dueF; rw [h1]; exact h2
    obtain ⟨zi, li, rfl, rfl, z0, z1, l0, l1⟩ := dueS_none h1
    obtain ⟨ri, mi, rfl, rfl, r0, r1, m0, m1⟩ := dueR_none h2
    refine ⟨_, rfl, _, rfl, _, _, rfl, rfl, _, rfl, x, CI, dx, _, rfl, upd_same, IC.cl, IC.nStart, (by show 4 < 1000; decide), ?_⟩
    refine ⟨_, rfl, _, rfl, _, rfl, _, rfl, 0, zi, mi, ri, li, rfl, by omega, by omega, by omega, by omega, by omega, by omega, r0, by omega, l0, l1, fun H2 s2 => ?_⟩
    refine ⟨_, rfl, x, CI, dx, _, rfl, s2 _ _ upd_same, IC.cl, IC.nRank, (by show 5 < 1000; decide), ?_⟩
    refine fin zi ri mi li _ rfl rfl rfl rfl e (fun b o nb q => ?_) upd_same
    rw [upd_ne nb]
    refine s2 b o ?_
    rw [upd_ne nb, upd_ne nb, upd_ne nb]
    exact q
end
end
/-! ### how Fixed's parts are bound -/
section
variable {K : PySem.W.Frag} {f : Addr} {fd : FuncData}
abbrev pFx : List Str := ["self", "size", "rest", "modulus", "leave"]
theorem bf_all (F : FunFixed K f fd) : L2.Binds K fd pFx [] := by
  obtain ⟨ds, r, b⟩ := F.binds1 (ps := pFx) 5 3 (by simp) rfl (fun T kV doc pm an cdv ct us its l1 l2 => match us, l1, its, l2 with | [_, _, _, _, _], _, [_, _, _], _ => ⟨_, rfl, rfl⟩)
  cases r
  exact b
theorem bf_one (F : FunFixed K f fd) : ∃ ds, Vals [V.int 0, V.int 1, V.int 0] ds ∧ L2.Binds K fd pFx ds :=
  F.binds1 (ps := pFx) 2 0 (by simp) rfl (fun T kV doc pm an cdv ct us its l1 l2 => match us, l1, its, l2 with | [_, _], _, [_, _, _], _ => ⟨_, rfl, rfl⟩)
theorem bf_two (F : FunFixed K f fd) : ∃ ds, Vals [V.int 1, V.int 0] ds ∧ L2.Binds K fd pFx ds :=
  F.binds1 (ps := pFx) 3 1 (by simp) rfl (fun T kV doc pm an cdv ct us its l1 l2 => match us, l1, its, l2 with | [_, _, _], _, [_, _, _], _ => ⟨_, rfl, rfl⟩)
theorem bf_key (F : FunFixed K f fd) : ∃ its : List Value, KBn K fd pFx 1 ["leave", "modulus", "rest", "size"] (fun us ws => us ++ ws.reverse) (fun vs zs => vs ++ zs.reverse) := by
  obtain ⟨its, b⟩ := F.kbindsD (ps := pFx) 1 ["leave", "modulus", "rest", "size"] (fun us _ ws => us ++ ws.reverse) (by simp) (fun r1 _ r3 => r1.append r3.reverse)
    (fun T kV doc pm an cdv ct us its ws l1 l2 l3 => match us, l1, its, l2, ws, l3 with | [_], _, [_, _, _], _, [_, _, _, _], _ => ⟨_, rfl, rfl⟩)
  exact ⟨its, b⟩
theorem bf_sm (F : FunFixed K f fd) : ∃ its : List Value, KBn K fd pFx 1 ["size", "modulus"] (fun us ws => us ++ ws.take 1 ++ its.take 1 ++ ws.drop 1 ++ its.drop 2) (fun vs zs => vs ++ zs.take 1 ++ [V.int 0, V.int 1, V.int 0].take 1 ++ zs.drop 1 ++ [V.int 0, V.int 1, V.int 0].drop 2) :=
  F.kbindsD (ps := pFx) 1 ["size", "modulus"] (fun us ds ws => us ++ ws.take 1 ++ ds.take 1 ++ ws.drop 1 ++ ds.drop 2) (by simp) (fun r1 r2 r3 => (((r1.append (r3.take 1)).append (r2.take 1)).append (r3.drop 1)).append (r2.drop 2))
    (fun T kV doc pm an cdv ct us its ws l1 l2 l3 => match us, l1, its, l2, ws, l3 with | [_], _, [_, _, _], _, [_, _], _ => ⟨_, rfl, rfl⟩)
theorem bf_leave (F : FunFixed K f fd) : ∃ its : List Value, KBn K fd pFx 2 ["leave"] (fun us ws => us ++ its.take 2 ++ ws) (fun vs zs => vs ++ [V.int 0, V.int 1, V.int 0].take 2 ++ zs) :=
  F.kbindsD (ps := pFx) 2 ["leave"] (fun us ds ws => us ++ ds.take 2 ++ ws) (by simp) (fun r1 r2 r3 => (r1.append (r2.take 2)).append r3)
    (fun T kV doc pm an cdv ct us its ws l1 l2 l3 => match us, l1, its, l2, ws, l3 with | [_, _], _, [_, _, _], _, [_], _ => ⟨_, rfl, rfl⟩)
end
/-! ### how Down's parts are bound -/
section
variable {K : PySem.W.Frag} {f : Addr} {fd : FuncData}
theorem bd_all (F : FunDown K f fd) : L2.Binds K fd ["self", "to", "rest", "modulus"] [] := by
  obtain ⟨ds, r, b⟩ := F.binds1 (ps := ["self", "to", "rest", "modulus"]) 4 2 (by simp) rfl (fun T kV doc pm an cdv ct us its l1 l2 => match us, l1, its, l2 with | [_, _, _, _], _, [_, _], _ => ⟨_, rfl, rfl⟩)
  cases r
  exact b
theorem bd_one (F : FunDown K f fd) : ∃ ds, Vals [V.int 0, V.int 1] ds ∧ L2.Binds K fd ["self", "to", "rest", "modulus"] ds :=
  F.binds1 (ps := ["self", "to", "rest", "modulus"]) 2 0 (by simp) rfl (fun T kV doc pm an cdv ct us its l1 l2 => match us, l1, its, l2 with | [_, _], _, [_, _], _ => ⟨_, rfl, rfl⟩)
theorem bd_key (F : FunDown K f fd) : ∃ its : List Value, KBn K fd ["self", "to", "rest", "modulus"] 1 ["modulus", "rest", "to"] (fun us ws => us ++ ws.reverse) (fun vs zs => vs ++ zs.reverse) := by
  obtain ⟨its, b⟩ := F.kbindsD (ps := ["self", "to", "rest", "modulus"]) 1 ["modulus", "rest", "to"] (fun us _ ws => us ++ ws.reverse) (by simp) (fun r1 _ r3 => r1.append r3.reverse)
    (fun T kV doc pm an cdv ct us its ws l1 l2 l3 => match us, l1, its, l2, ws, l3 with | [_], _, [_, _], _, [_, _, _], _ => ⟨_, rfl, rfl⟩)
  exact ⟨its, b⟩
theorem bd_mod (F : FunDown K f fd) : ∃ its : List Value, KBn K fd ["self", "to", "rest", "modulus"] 2 ["modulus"] (fun us ws => us ++ its.take 1 ++ ws) (fun vs zs => vs ++ [V.int 0, V.int 1].take 1 ++ zs) :=
  F.kbindsD (ps := ["self", "to", "rest", "modulus"]) 2 ["modulus"] (fun us ds ws => us ++ ds.take 1 ++ ws) (by simp) (fun r1 r2 r3 => (r1.append (r2.take 1)).append r3)
    (fun T kV doc pm an cdv ct us its ws l1 l2 l3 => match us, l1, its, l2, ws, l3 with | [_, _], _, [_, _], _, [_], _ => ⟨_, rfl, rfl⟩)
end

section
variable {P : Program} {w : World} {K : PySem.W.Frag} {mg : Str → Option Value} {base : Heap}

abbrev s_eqF : Stmt := inClass (topS 15) 1
theorem sc_eqF : FnScope ["self", "other"] ["self", "other"] (defScope s_eqF) := ⟨rfl, rfl, rfl, by decide +kernel, rfl, by decide +kernel, by decide +kernel⟩
theorem ok_eqF {C f : Addr} {fd : FuncData} (F : Fun K "__eq__" "Fixed.__eq__" s_eqF f fd) (U : Blt mg) (gC : mg "Fixed" = some (.ref C)) (IC : InsC K C) (ty : TyC K C) (self_ : PySem.W.kitOne K (.ref C) (.ref C) = some true) : FnOk P w K mg base CX0 1 f fd ["self", "other"] (spEqR K C) := by
  refine F.ok sc_eqF (fun vs H Q E h => ?_) (fun cdv A outer s H vs Q E hr h => ?_)
  · obtain ⟨a, dx, fs, k, y, rfl, _⟩ := h
    rfl
  · obtain ⟨a, dx, fs, k, y, rfl, ha, rk, how⟩ := h
    refine ⟨_, (pss_one (ps_ret (pe_and (pe_callB call_isi rfl U.z_isinstance (by decide +kernel) (pa_cons (pv 1) (pa_cons (pe_glob (v := .ref _) rfl gC rfl) pa_nil))) (pe_one (pe_cmpR op_eq (pe_fld (pv 0) rfl) (pe_fld (pv 1) rfl) (nomark _)))))), ?_⟩
    rcases how with ⟨b, dy, gs, j, rfl, hb, rj, fin⟩ | ⟨t, tyx, no, fin⟩
    · refine ⟨_, rfl, _, _, _, _, _, rfl, .own C, ty.ty IC.cl hb, self_, _, rfl, iteT ?_⟩
      exact ⟨_, rfl, a, C, dx, fs, _, rfl, ha, IC.cl, IC.nRank, rk, _, rfl, b, C, dy, gs, _, rfl, hb, IC.cl, IC.nRank, rj, rfl, by
        rw [show decide ((V.int k) = V.int j) = decide (k = j) from by by_cases z : k = j <;> simp [z]]
        exact fin⟩
    · exact ⟨_, rfl, _, _, _, _, _, rfl, .own C, tyx, no, _, rfl, iteF fin⟩
abbrev s_eqD : Stmt := inClass (topS 16) 1
theorem sc_eqD : FnScope ["self", "other"] ["self", "other"] (defScope s_eqD) := ⟨rfl, rfl, rfl, by decide +kernel, rfl, by decide +kernel, by decide +kernel⟩
theorem ok_eqD {C f : Addr} {fd : FuncData} (F : Fun K "__eq__" "Down.__eq__" s_eqD f fd) (U : Blt mg) (gC : mg "Down" = some (.ref C)) (IC : InsC K C) (ty : TyC K C) (self_ : PySem.W.kitOne K (.ref C) (.ref C) = some true) : FnOk P w K mg base CX0 1 f fd ["self", "other"] (spEqR K C) := by
  refine F.ok sc_eqD (fun vs H Q E h => ?_) (fun cdv A outer s H vs Q E hr h => ?_)
  · obtain ⟨a, dx, fs, k, y, rfl, _⟩ := h
    rfl
  · obtain ⟨a, dx, fs, k, y, rfl, ha, rk, how⟩ := h
    refine ⟨_, (pss_one (ps_ret (pe_and (pe_callB call_isi rfl U.z_isinstance (by decide +kernel) (pa_cons (pv 1) (pa_cons (pe_glob (v := .ref _) rfl gC rfl) pa_nil))) (pe_one (pe_cmpR op_eq (pe_fld (pv 0) rfl) (pe_fld (pv 1) rfl) (nomark _)))))), ?_⟩
    rcases how with ⟨b, dy, gs, j, rfl, hb, rj, fin⟩ | ⟨t, tyx, no, fin⟩
    · refine ⟨_, rfl, _, _, _, _, _, rfl, .own C, ty.ty IC.cl hb, self_, _, rfl, iteT ?_⟩
      exact ⟨_, rfl, a, C, dx, fs, _, rfl, ha, IC.cl, IC.nRank, rk, _, rfl, b, C, dy, gs, _, rfl, hb, IC.cl, IC.nRank, rj, rfl, by
        rw [show decide ((V.int k) = V.int j) = decide (k = j) from by by_cases z : k = j <;> simp [z]]
        exact fin⟩
    · exact ⟨_, rfl, _, _, _, _, _, rfl, .own C, tyx, no, _, rfl, iteF fin⟩
end
end Fz
set_option Elab.async false
set_option linter.all false
set_option maxRecDepth 100000
set_option maxHeartbeats 2000000
namespace Fz
open PySem PySem.Spec PyProof.Rows L2
/-- one step of a reading -/
local macro_rules | `(tactic| walk_at "st") => `(tactic| first
  | refine ⟨_, rfl, ?_⟩
  | refine Or.inl ⟨_, rfl, ?_⟩
  | refine Or.inr ⟨_, rfl, ?_⟩
  | refine ⟨_, _, _, _, rfl, rfl, SqL.of (by first | assumption | exact upd_same), rfl, ?_⟩
  | refine ⟨_, _, _, _, rfl, rfl, (by first | assumption | exact upd_same), rfl, ?_⟩
  | refine ⟨_, _, rfl, .inl ⟨_, SqL.of (by first | assumption | exact upd_same), rfl⟩, ?_⟩
  | refine ⟨_, _, rfl, rfl, (show (0 : Int) < _ by first | decide | omega), ?_⟩
  | refine ⟨_, _, rfl, rfl, (show (0 : Int) < _ ∧ _ < _ by first | exact ⟨by decide, by decide⟩ | omega), ?_⟩
  | refine ⟨_, _, rfl, rfl, (show (_ < _ ∧ _ < _) ∨ (_ < _ ∧ _ < _) by first | exact .inl ⟨by decide, by decide⟩ | omega), ?_⟩
  | refine ⟨_, _, rfl, rfl, (show (0 : Int) ≤ _ ∧ _ ≤ _ ∧ _ < _ by first | exact ⟨by decide, by decide, by decide⟩ | exact ⟨by decide, by decide, by omega⟩), ?_⟩
  | refine ⟨_, _, rfl, rfl, ?_⟩)

section
variable {P : Program} {w : World} {K : PySem.W.Frag} {mg : Str → Option Value} {base : Heap}

abbrev s_parts : Stmt := topS 28
theorem sc_parts : FnScope ["_law_pen_here", "_law_most", "_law_many", "_law_rem", "_law_number"] ["_law_pen_here", "_law_most"] (defScope s_parts) := ⟨rfl, rfl, rfl, by decide +kernel, rfl, by decide +kernel, by decide +kernel⟩
theorem ok_parts {f fD fP : Addr} {fd fdD fdP : FuncData} (F : Fun K "_law_parts" "_law_parts" s_parts f fd) (U : Blt mg) (D : Fun K "_law_draw" "_law_draw" s_draw fD fdD) (gD : mg "_law_draw" = some (.ref fD)) (b_draw : L2.Binds K fdD ["_law_pen_here", "_law_many"] [])
    (Pk : Fun K "_law_pick" "_law_pick" s_pick fP fdP) (gP : mg "_law_pick" = some (.ref fP)) (b_pick : L2.Binds K fdP ["_law_pen_here", "_law_some"] []) : FnOk P w K mg base CX0 3 f fd ["_law_pen_here", "_law_most"] spParts := by
  have G_draw : FnOk P w K mg base CX0 1 fD fdD ["_law_pen_here", "_law_many"] spDraw := ok_draw D U
  have G_pick : FnOk P w K mg base CX0 2 fP fdP ["_law_pen_here", "_law_some"] (spPick K) := ok_pick Pk U D gD b_draw
  refine F.ok sc_parts (fun vs H Q E h => ?_) (fun cdv A outer s H vs Q E hr h => ?_)
  · obtain ⟨n, p, q, most, rfl, _⟩ := h
    rfl
  · obtain ⟨n, p, q, most, rfl, hp, hn, o0, o1, fin⟩ := h
    refine ⟨_, (C8.pss_cut (ps_set (i := 2) sc_parts.nd rfl (Or.inl rfl) (pe_call G_pick (hr.mono (by decide)) rfl gP Pk.kp b_pick .nil pass0 (by exact (pa_cons (pv 0) (pa_cons (pe_lst (pa_cons pe_int (pa_cons pe_int (pa_cons pe_int (pa_cons pe_int (pa_cons pe_int (pa_cons pe_int (pa_cons pe_int pa_nil)))))))) pa_nil)))))
  (pss_cons (ps_par (i := 3) (j := 4) (by rfl) sc_parts.nd rfl rfl (by decide) rfl rfl (pa_cons (pe_call G_draw (hr.mono (by decide)) rfl gD D.kp b_draw .nil pass0 (by exact (pa_cons (pv 0) (pa_cons (pv 2) pa_nil)))) (pa_cons (pe_call G_draw (hr.mono (by decide)) rfl gD D.kp b_draw .nil pass0 (by exact (pa_cons (pv 0) (pa_cons (pv 1) pa_nil)))) pa_nil)) (by rfl))
  (pss_cons (ps_if (pt_cmpR op_eq (pe_call G_draw (hr.mono (by decide)) rfl gD D.kp b_draw .nil pass0 (by exact (pa_cons (pv 0) (pa_cons pe_int pa_nil)))) pe_int (nomark _)) (pss_one (ps_ret (pe_tup (pa_cons pe_str (pa_cons (pv 4) (pa_cons (pv 3) (pa_cons (pv 2) (pa_cons pe_int pa_nil)))))))) pss_nil)
  (pss_one (ps_ret (pe_tup (pa_cons pe_str (pa_cons (pe_op op_add pe_int (pv 4)) (pa_cons (pv 3) (pa_cons (pv 2) (pa_cons (pe_call G_pick (hr.mono (by decide)) rfl gP Pk.kp b_pick .nil pass0 (by exact (pa_cons (pv 0) (pa_cons (pe_lst (pa_cons pe_int (pa_cons pe_int (pa_cons pe_int (pa_cons pe_int (pa_cons pe_int (pa_cons (pe_call G_draw (hr.mono (by decide)) rfl gD D.kp b_draw .nil pass0 (by exact (pa_cons (pv 0) (pa_cons (pv 1) pa_nil)))) pa_nil))))))) pa_nil)))) pa_nil))))))))))), ?_⟩
    refine ⟨fun σ' H' => ∃ many : Int, σ' = [some (.ref p), some (.int most), some (.int many), none, none] ∧ 1 ≤ many ∧ many ≤ 6 ∧ PenAt (n + 1) H' p q ∧ Mv p H H', ?_, ?_⟩
    · refine ⟨_, rfl, by show 7 ≤ sizeLine; decide, fun l0 hl0 => ?_⟩
      refine ⟨n, p, q, l0, _, rfl, hp.new hl0, by omega, (hp.fresh hl0).1, upd_same, by show 0 < 7; decide, by show 7 ≤ 1000; decide, fun H1 x p1 m1 hx => ?_⟩
      have mv := (Mv.new hl0).trans m1
      simp only [List.mem_cons, List.not_mem_nil, or_false] at hx
      rcases hx with rfl | rfl | rfl | rfl | rfl | rfl | rfl <;> exact ⟨_, rfl, by decide, by decide, p1, mv⟩
    rintro σ' H1 ⟨many, rfl, a0, a1, p1, m1⟩
    refine ⟨_, rfl, _, rfl, n + 1, p, q, many, rfl, p1, by omega, by omega, small_log (by omega) (by omega), fun H2 r p2 m2 r0 r1 => ?_⟩
    refine ⟨_, rfl, _, rfl, n + 2, p, q, most, rfl, p2, by omega, by omega, small_log (by omega) (by omega), fun H3 x p3 m3 x0 x1 => ?_⟩
    refine ⟨_, _, rfl, ?_⟩
    refine ⟨_, rfl, n + 3, p, q, 3, rfl, p3, by omega, by decide, small_log (by decide) (by decide), fun H4 c p4 m4 c0 c1 => ?_⟩
    have mv4 := ((m1.trans m2).trans m3).trans m4
    refine ⟨rfl, _, rfl, ?_⟩
    refine ite2 (fun _ => ?_) (fun _ => ?_)
    · refine ⟨_, rfl, _, rfl, _, rfl, by show 5 ≤ sizeLine; decide, fun tp htp => ?_⟩
      have un : H tp = none := by
        cases e : H tp with
        | none => rfl
        | some o => rw [mv4 tp o (p4.fresh htp).1 e] at htp; cases htp
      exact fin _ tp (.down x r many) ((p4.new htp).more (by omega)) (mv4.trans (Mv.new htp)) un upd_same ⟨x0, by show x ≤ 400; omega, r0, by show r ≤ many - 1; omega, a0, a1, Int.le_refl _, by show (0 : Int) ≤ 400; decide⟩ (fun z => nomatch z) (fun _ => x1)
    · refine ⟨_, rfl, _, _, rfl, rfl, _, rfl, _, rfl, _, rfl, ?_⟩
      refine ⟨_, rfl, _, rfl, n + 4, p, q, most, rfl, p4, by omega, by omega, small_log (by omega) (by omega), fun H5 v p5 m5 v0 v1 => ?_⟩
      refine ⟨by show 6 ≤ sizeLine; decide, fun l0 hl0 => ?_⟩
      refine ⟨n + 5, p, q, l0, _, rfl, p5.new hl0, by omega, (p5.fresh hl0).1, upd_same, by show 0 < 6; decide, by show 6 ≤ 1000; decide, fun H6 y p6 m6 hy => ?_⟩
      have mv6 := ((mv4.trans m5).trans (Mv.new hl0)).trans m6
      obtain ⟨yi, rfl, y0, y1⟩ : ∃ yi, y = .int yi ∧ 0 ≤ yi ∧ yi ≤ (if most ≤ 2 then 2 else most - 1) := by
        simp only [List.mem_cons, List.not_mem_nil, or_false] at hy
        rcases hy with rfl | rfl | rfl | rfl | rfl | rfl
        · exact ⟨_, rfl, by decide, by split <;> omega⟩
        · exact ⟨_, rfl, by decide, by split <;> omega⟩
        · exact ⟨_, rfl, by decide, by split <;> omega⟩
        · exact ⟨_, rfl, by decide, by split <;> omega⟩
        · exact ⟨_, rfl, by decide, by split <;> omega⟩
        · exact ⟨_, rfl, v0, by split <;> omega⟩
      refine ⟨by show 5 ≤ sizeLine; decide, fun tp htp => ?_⟩
      have un : H tp = none := by
        cases e : H tp with
        | none => rfl
        | some o => rw [mv6 tp o (p6.fresh htp).1 e] at htp; cases htp
      have y2 : yi ≤ 400 := Int.le_trans y1 (by split <;> omega)
      exact fin _ tp (.fixed (1 + x) r many yi) ((p6.new htp).more (by omega)) (mv6.trans (Mv.new htp)) un upd_same ⟨by show 1 ≤ 1 + x; omega, by show 1 + x ≤ 400; omega, r0, by show r ≤ many - 1; omega, a0, a1, y0, y2⟩ (fun _ => ⟨by show 1 + x ≤ most; omega, y1⟩) (fun z => nomatch z)
end
section
variable {P : Program} {w : World} {K : PySem.W.Frag} {mg : Str → Option Value} {base : Heap}

abbrev s_rule : Stmt := topS 29
theorem sc_rule : FnScope ["_law_parts_here"] ["_law_parts_here"] (defScope s_rule) := ⟨rfl, rfl, rfl, by decide +kernel, rfl, by decide +kernel, by decide +kernel⟩
theorem ok_rule {f fDn fFx CF CD CB : Addr} {fd fdDn fdFx : FuncData} (F : Fun K "_law_rule" "_law_rule" s_rule f fd) (Dn : FunDown K fDn fdDn) (G_down : FnOk P w K mg base (L2.CX P w) 5 fDn fdDn ["self", "to", "rest", "modulus"] (spDown CB CD)) (MkD : Mk K CD fDn) (gDn : mg "Down" = some (.ref CD))
    (Fx : FunFixed K fFx fdFx) (G_fixed : FnOk P w K mg base (L2.CX P w) 5 fFx fdFx pFx (spFixed CB CF)) (MkF : Mk K CF fFx) (gFx : mg "Fixed" = some (.ref CF)) : FnOk P w K mg base CX0 7 f fd ["_law_parts_here"] (spRule CF CD) := by
  have b_dall := bd_all Dn
  have b_fall := bf_all Fx
  refine F.ok sc_rule (fun vs H Q E h => ?_) (fun cdv A outer s H vs Q E hr h => ?_)
  · obtain ⟨tp, d, rfl, _⟩ := h
    rfl
  · obtain ⟨tp, d, rfl, ht, wf, fin⟩ := h
    refine ⟨_, (pss_cons (ps_if (pt_cmpR op_eq (pe_ix ix_tup (pv 0) pe_int (fun _ _ => rfl)) pe_str (nomark _)) (pss_one (ps_ret (pe_box (pe_make MkD G_down (hr.mono (by decide)) rfl gDn b_dall .nil (passes_call LamX.takes0 (fun _ _ _ _ h => h)) (by exact (pa_cons (pe_ix ix_tup (pv 0) pe_int (fun _ _ => rfl)) (pa_cons (pe_ix ix_tup (pv 0) pe_int (fun _ _ => rfl)) (pa_cons (pe_ix ix_tup (pv 0) pe_int (fun _ _ => rfl)) pa_nil)))))))) pss_nil)
  (pss_one (ps_ret (pe_box (pe_make MkF G_fixed (hr.mono (by decide)) rfl gFx b_fall .nil (passes_call LamX.takes0 (fun _ _ _ _ h => h)) (by exact (pa_cons (pe_ix ix_tup (pv 0) pe_int (fun _ _ => rfl)) (pa_cons (pe_ix ix_tup (pv 0) pe_int (fun _ _ => rfl)) (pa_cons (pe_ix ix_tup (pv 0) pe_int (fun _ _ => rfl)) (pa_cons (pe_ix ix_tup (pv 0) pe_int (fun _ _ => rfl)) pa_nil)))))))))), ?_⟩
    cases d with
    | down t r m =>
      refine ⟨_, rfl, tp, _, _, _, rfl, rfl, SqT.of ht, rfl, rfl, _, rfl, ?_⟩
      rw [show decide (V.str (RD.down t r m).kind = V.str "down") = true from isDown_down]
      refine iteT ⟨_, rfl, tp, _, _, _, rfl, rfl, SqT.of ht, rfl, _, rfl, tp, _, _, _, rfl, rfl, SqT.of ht, rfl, _, rfl, tp, _, _, _, rfl, rfl, SqT.of ht, rfl, fun x dx hx hdx ne => ?_⟩
      exact down_rule (CF := CF) (CD := CD) (Q := Q) wf hx hdx fun H' s r => fin H' x s hx r
    | fixed z r m l =>
      refine ⟨_, rfl, tp, _, _, _, rfl, rfl, SqT.of ht, rfl, rfl, _, rfl, ?_⟩
      rw [show decide (V.str (RD.fixed z r m l).kind = V.str "down") = false from isDown_fixed]
      refine iteF ⟨_, rfl, tp, _, _, _, rfl, rfl, SqT.of ht, rfl, _, rfl, tp, _, _, _, rfl, rfl, SqT.of ht, rfl, _, rfl, tp, _, _, _, rfl, rfl, SqT.of ht, rfl, _, rfl, tp, _, _, _, rfl, rfl, SqT.of ht, rfl, fun x dx hx hdx ne => ?_⟩
      exact fixed_rule (CF := CF) (CD := CD) (Q := Q) wf hx hdx fun H' s r => fin H' x s hx r
end
section
variable {P : Program} {w : World} {K : PySem.W.Frag} {mg : Str → Option Value} {base : Heap}

abbrev s_restT : Stmt := topS 18
theorem sc_restT : FnScope ["rule"] ["rule"] (defScope s_restT) := ⟨rfl, rfl, rfl, by decide +kernel, rfl, by decide +kernel, by decide +kernel⟩
theorem ok_restT {C f : Addr} {fd : FuncData} (F : Fun K "rest_text" "rest_text" s_restT f fd) (IC : InsC K C) : FnOk P w K mg base CX0 1 f fd ["rule"] (spRestT C) := by
  refine F.ok sc_restT (fun vs H Q E h => ?_) (fun cdv A outer s H vs Q E hr h => ?_)
  · obtain ⟨x, dx, fs, r, m, rfl, _⟩ := h
    rfl
  · obtain ⟨x, dx, fs, r, m, rfl, hx, kr, km, r0, r1, m0, m1, fin⟩ := h
    refine ⟨_, (pss_cons (ps_if (pt_cmpR op_eq (pe_fld (pv 0) rfl) pe_int (nomark _)) (pss_one (ps_ret pe_str)) pss_nil)
  (pss_one (ps_ret (pe_joined (PJ.cons pe_str (PJ.cons (pe_fmt (pe_fld (pv 0) rfl)) (PJ.cons pe_str (PJ.cons (pe_fmt (pe_fld (pv 0) rfl)) PJ.nil)))))))), ?_⟩
    refine ⟨_, rfl, x, C, dx, fs, _, rfl, hx, IC.cl, IC.nModulus, km, rfl, _, rfl, ?_⟩
    refine ite2 (fun z => ?_) (fun z => ?_)
    · have e : m = 1 := by simpa using of_decide_eq_true z
      have q : restT r m = ("" : Str) := by unfold restT; rw [if_pos e]
      rw [q] at fin
      exact fin
    · have e : ¬ m = 1 := fun y => z (decide_eq_true (by rw [y]))
      have q : restT r m = (((Str.empty ++ (" rest " : Str)) ++ (toString r : Str)) ++ (" of " : Str)) ++ (toString m : Str) := by unfold restT; rw [if_neg e]
      have a := num_short r0 r1
      have b := num_short m0 m1
      have c1 : (Str.empty ++ (" rest " : Str)).length = 6 := by decide +kernel
      have c2 : (" of " : Str).length = 4 := by decide +kernel
      have l2 : ((Str.empty ++ (" rest " : Str)) ++ (toString r : Str)).length ≤ 16 := by rw [strLen_append, c1]; omega
      have l3 : (((Str.empty ++ (" rest " : Str)) ++ (toString r : Str)) ++ (" of " : Str)).length ≤ 20 := by rw [strLen_append, c2]; omega
      have l4 : ((((Str.empty ++ (" rest " : Str)) ++ (toString r : Str)) ++ (" of " : Str)) ++ (toString m : Str)).length ≤ 30 := by rw [strLen_append]; omega
      have big : (30 : Nat) ≤ sizeLine := by show 30 ≤ 16777216; decide
      refine ⟨_, rfl, by rw [c1]; omega, ?_⟩
      refine ⟨_, rfl, x, C, dx, fs, _, rfl, hx, IC.cl, IC.nRest, kr, .inr ⟨r, rfl, num_log r0 r1, _, rfl, by omega, ?_⟩⟩
      refine ⟨_, rfl, by omega, ?_⟩
      refine ⟨_, rfl, x, C, dx, fs, _, rfl, hx, IC.cl, IC.nModulus, km, .inr ⟨m, rfl, num_log m0 m1, _, rfl, by omega, ?_⟩⟩
      rw [q] at fin
      exact fin
abbrev s_leaveT : Stmt := topS 19
theorem sc_leaveT : FnScope ["rule"] ["rule"] (defScope s_leaveT) := ⟨rfl, rfl, rfl, by decide +kernel, rfl, by decide +kernel, by decide +kernel⟩
theorem ok_leaveT {C f : Addr} {fd : FuncData} (F : Fun K "leave_text" "leave_text" s_leaveT f fd) (IC : InsC K C) : FnOk P w K mg base CX0 1 f fd ["rule"] (spLeaveT C) := by
  refine F.ok sc_leaveT (fun vs H Q E h => ?_) (fun cdv A outer s H vs Q E hr h => ?_)
  · obtain ⟨x, dx, fs, l, rfl, _⟩ := h
    rfl
  · obtain ⟨x, dx, fs, l, rfl, hx, kl, l0, l1, fin⟩ := h
    refine ⟨_, (pss_cons (ps_if (pt_cmpR op_eq (pe_fld (pv 0) rfl) pe_int (nomark _)) (pss_one (ps_ret pe_str)) pss_nil)
  (pss_one (ps_ret (pe_joined (PJ.cons pe_str (PJ.cons (pe_fmt (pe_fld (pv 0) rfl)) PJ.nil)))))), ?_⟩
    refine ⟨_, rfl, x, C, dx, fs, _, rfl, hx, IC.cl, IC.nLeave, kl, rfl, _, rfl, ?_⟩
    refine ite2 (fun z => ?_) (fun z => ?_)
    · have e : l = 0 := by simpa using of_decide_eq_true z
      have q : leaveT l = ("" : Str) := by unfold leaveT; rw [if_pos e]
      rw [q] at fin
      exact fin
    · have e : ¬ l = 0 := fun y => z (decide_eq_true (by rw [y]))
      have q : leaveT l = (Str.empty ++ (" leave " : Str)) ++ (toString l : Str) := by unfold leaveT; rw [if_neg e]
      have a := num_short l0 l1
      have c1 : (Str.empty ++ (" leave " : Str)).length = 7 := by decide +kernel
      have l2 : ((Str.empty ++ (" leave " : Str)) ++ (toString l : Str)).length ≤ 17 := by rw [strLen_append, c1]; omega
      have big : (30 : Nat) ≤ sizeLine := by show 30 ≤ 16777216; decide
      refine ⟨_, rfl, by rw [c1]; omega, ?_⟩
      refine ⟨_, rfl, x, C, dx, fs, _, rfl, hx, IC.cl, IC.nLeave, kl, .inr ⟨l, rfl, num_log l0 l1, _, rfl, by omega, ?_⟩⟩
      rw [q] at fin
      exact fin
abbrev s_strF : Stmt := inClass (topS 15) 2
theorem sc_strF : FnScope ["self"] ["self"] (defScope s_strF) := ⟨rfl, rfl, rfl, by decide +kernel, rfl, by decide +kernel, by decide +kernel⟩
theorem ok_strF {CF CD f fRt fLt : Addr} {fd fdRt fdLt : FuncData} (F : Fun K "__str__" "Fixed.__str__" s_strF f fd) (IC : InsC K CF) (RT : Fun K "rest_text" "rest_text" s_restT fRt fdRt) (gRt : mg "rest_text" = some (.ref fRt)) (b_restT : L2.Binds K fdRt ["rule"] []) (LT : Fun K "leave_text" "leave_text" s_leaveT fLt fdLt) (gLt : mg "leave_text" = some (.ref fLt)) (b_leaveT : L2.Binds K fdLt ["rule"] []) : FnOk P w K mg base CX0 2 f fd ["self"] (spStrF CF CD) := by
  have G_restT : FnOk P w K mg base CX0 1 fRt fdRt ["rule"] (spRestT CF) := ok_restT RT IC
  have G_leaveT : FnOk P w K mg base CX0 1 fLt fdLt ["rule"] (spLeaveT CF) := ok_leaveT LT IC
  refine F.ok sc_strF (fun vs H Q E h => ?_) (fun cdv A outer s H vs Q E hr h => ?_)
  · obtain ⟨x, z, r, m, l, rfl, _⟩ := h
    rfl
  · obtain ⟨x, z, r, m, l, rfl, ⟨dx, hx⟩, wf, fin⟩ := h
    have a := wf.n0; have b := wf.n1; have c := wf.r0; have d := wf.r1; have e := wf.m0; have f := wf.m1; have g := wf.l0; have i := wf.l1
    simp only [RD.isF, RD.num, RD.rest, RD.mod, RD.leave, if_true, Bool.false_eq_true, if_false] at a b c d e f g i
    refine ⟨_, (pss_one (ps_ret (pe_joined (PJ.cons pe_str (PJ.cons (pe_fmt (pe_fld (pv 0) rfl)) (PJ.cons (pe_fmt (pe_call G_restT (hr.mono (by decide)) rfl gRt RT.kp b_restT .nil pass0 (by exact (pa_cons (pv 0) pa_nil)))) (PJ.cons (pe_fmt (pe_call G_leaveT (hr.mono (by decide)) rfl gLt LT.kp b_leaveT .nil pass0 (by exact (pa_cons (pv 0) pa_nil)))) PJ.nil))))))), ?_⟩
    have big : (200 : Nat) ≤ sizeLine := by show 200 ≤ 16777216; decide
    have c1 : (Str.empty ++ ("fixed " : Str)).length = 6 := by decide +kernel
    have n1 := num_short (n := z) (by omega) b
    have t1 := restT_short (r := r) (m := m) (by omega) (by omega) (by omega) (by omega)
    have k1 : ((Str.empty ++ ("fixed " : Str)) ++ (toString z : Str)).length ≤ 20 := by rw [strLen_append, c1]; omega
    have k2 : (((Str.empty ++ ("fixed " : Str)) ++ (toString z : Str)) ++ restT r m).length ≤ 80 := by rw [strLen_append]; omega
    refine ⟨_, rfl, by rw [c1]; omega, ?_⟩
    refine ⟨_, rfl, x, CF, dx, _, .int z, rfl, hx, IC.cl, IC.nSize, rfl, .inr ⟨_, rfl, num_log (by omega) b, _, rfl, by omega, ?_⟩⟩
    refine ⟨_, rfl, x, dx, _, r, m, rfl, hx, rfl, rfl, c, by omega, by omega, by omega, .inl ⟨_, rfl, by omega, _, rfl, by omega, ?_⟩⟩
    have t2 := leaveT_short (l := l) g i
    have k3 : ((((Str.empty ++ ("fixed " : Str)) ++ (toString z : Str)) ++ restT r m) ++ leaveT l).length ≤ 120 := by rw [strLen_append]; omega
    refine ⟨_, rfl, x, dx, _, l, rfl, hx, rfl, g, i, .inl ⟨_, rfl, by omega, _, rfl, by omega, ?_⟩⟩
    exact fin
abbrev s_strD : Stmt := inClass (topS 16) 2
theorem sc_strD : FnScope ["self"] ["self"] (defScope s_strD) := ⟨rfl, rfl, rfl, by decide +kernel, rfl, by decide +kernel, by decide +kernel⟩
theorem ok_strD {CF CD f fRt : Addr} {fd fdRt : FuncData} (F : Fun K "__str__" "Down.__str__" s_strD f fd) (IC : InsC K CD) (RT : Fun K "rest_text" "rest_text" s_restT fRt fdRt) (gRt : mg "rest_text" = some (.ref fRt)) (b_restT : L2.Binds K fdRt ["rule"] []) : FnOk P w K mg base CX0 2 f fd ["self"] (spStrD CF CD) := by
  have G_restT : FnOk P w K mg base CX0 1 fRt fdRt ["rule"] (spRestT CD) := ok_restT RT IC
  refine F.ok sc_strD (fun vs H Q E h => ?_) (fun cdv A outer s H vs Q E hr h => ?_)
  · obtain ⟨x, t, r, m, rfl, _⟩ := h
    rfl
  · obtain ⟨x, t, r, m, rfl, ⟨dx, hx⟩, wf, fin⟩ := h
    have a := wf.n0; have b := wf.n1; have c := wf.r0; have d := wf.r1; have e := wf.m0; have f := wf.m1; have g := wf.l0; have i := wf.l1
    simp only [RD.isF, RD.num, RD.rest, RD.mod, RD.leave, if_true, Bool.false_eq_true, if_false] at a b c d e f g i
    refine ⟨_, (pss_one (ps_ret (pe_joined (PJ.cons pe_str (PJ.cons (pe_fmt (pe_fld (pv 0) rfl)) (PJ.cons (pe_fmt (pe_call G_restT (hr.mono (by decide)) rfl gRt RT.kp b_restT .nil pass0 (by exact (pa_cons (pv 0) pa_nil)))) PJ.nil)))))), ?_⟩
    have big : (200 : Nat) ≤ sizeLine := by show 200 ≤ 16777216; decide
    have c1 : (Str.empty ++ ("down " : Str)).length = 5 := by decide +kernel
    have n1 := num_short (n := t) (by omega) b
    have t1 := restT_short (r := r) (m := m) (by omega) (by omega) (by omega) (by omega)
    have k1 : ((Str.empty ++ ("down " : Str)) ++ (toString t : Str)).length ≤ 20 := by rw [strLen_append, c1]; omega
    have k2 : (((Str.empty ++ ("down " : Str)) ++ (toString t : Str)) ++ restT r m).length ≤ 80 := by rw [strLen_append]; omega
    refine ⟨_, rfl, by rw [c1]; omega, ?_⟩
    refine ⟨_, rfl, x, CD, dx, _, .int t, rfl, hx, IC.cl, IC.nTo, rfl, .inr ⟨_, rfl, num_log (by omega) b, _, rfl, by omega, ?_⟩⟩
    refine ⟨_, rfl, x, dx, _, r, m, rfl, hx, rfl, rfl, c, by omega, by omega, by omega, .inl ⟨_, rfl, by omega, _, rfl, by omega, ?_⟩⟩
    exact fin
end
end Fz
set_option Elab.async false
set_option linter.all false
set_option maxRecDepth 100000
set_option maxHeartbeats 2000000
namespace Fz
open PySem PySem.Spec PyProof.Rows L2
/-- one step of a reading -/
local macro_rules | `(tactic| walk_at "st") => `(tactic| first
  | refine ⟨_, rfl, ?_⟩
  | refine Or.inl ⟨_, rfl, ?_⟩
  | refine Or.inr ⟨_, rfl, ?_⟩
  | refine ⟨_, _, _, _, rfl, rfl, SqL.of (by first | assumption | exact upd_same), rfl, ?_⟩
  | refine ⟨_, _, _, _, rfl, rfl, (by first | assumption | exact upd_same), rfl, ?_⟩
  | refine ⟨_, _, rfl, .inl ⟨_, SqL.of (by first | assumption | exact upd_same), rfl⟩, ?_⟩
  | refine ⟨_, _, rfl, rfl, (show (0 : Int) < _ by first | decide | omega), ?_⟩
  | refine ⟨_, _, rfl, rfl, (show (0 : Int) < _ ∧ _ < _ by first | exact ⟨by decide, by decide⟩ | omega), ?_⟩
  | refine ⟨_, _, rfl, rfl, (show (_ < _ ∧ _ < _) ∨ (_ < _ ∧ _ < _) by first | exact .inl ⟨by decide, by decide⟩ | omega), ?_⟩
  | refine ⟨_, _, rfl, rfl, (show (0 : Int) ≤ _ ∧ _ ≤ _ ∧ _ < _ by first | exact ⟨by decide, by decide, by decide⟩ | exact ⟨by decide, by decide, by omega⟩), ?_⟩
  | refine ⟨_, _, rfl, rfl, ?_⟩)

section
variable {P : Program} {w : World} {K : PySem.W.Frag} {mg : Str → Option Value} {base : Heap}

abbrev s_no : Stmt := topS 8
theorem sc_no : FnScope ["word", "least", "most", "number"] ["word", "least", "most"] (defScope s_no) := ⟨rfl, rfl, rfl, by decide +kernel, rfl, by decide +kernel, by decide +kernel⟩
theorem toI_nT {n : Nat} {z : Str} (h : (toString (n : Int) : Str) = z) : z = nT n := h.symm
theorem nT_len {m n : Nat} (hm : m < 401) (h : n ≤ m) : (nT n).length ≤ (nT m).length := by
  rw [(num_facts n (by omega)).2.2, (num_facts m hm).2.2]
  split <;> split <;> (try split) <;> (try split) <;> omega
theorem ok_no {f : Addr} {fd : FuncData} (F : Fun K "number_of" "number_of" s_no f fd) (U : Blt mg) : FnOk P w K mg base CX0 1 f fd ["word", "least", "most"] spNumOf := by
  refine F.ok sc_no (fun vs H Q E h => ?_) (fun cdv A outer s H vs Q E hr h => ?_)
  · obtain ⟨z, lo, hi, rfl, _⟩ := h
    rfl
  · obtain ⟨z, lo, hi, rfl, l0, l1, h0, h1, len, fin⟩ := h
    refine ⟨_, (pss_cons (ps_if (PW.pt (pw_or (pt_cmpR op_gt (pe_callB call_len rfl U.z_len (by decide +kernel) (pa_cons (pv 0) pa_nil)) (pe_callB call_len rfl U.z_len (by decide +kernel) (pa_cons (pe_callTy call_str_int rfl U.z_str (by decide +kernel) (pa_cons (pv 2) pa_nil)) pa_nil)) (nomark _)) (pw_or (pt_not (pt_val (pe_m0 PySem.F.slot_str_isascii PySem.F.type_str_isascii mt_isascii (pv 0)))) (pw_or1 (pt_not (pt_val (pe_m0 PySem.F.slot_str_isdigit PySem.F.type_str_isdigit mt_isdigit (pv 0)))))))) (pss_one (ps_ret pe_non)) pss_nil)
  (pss_cons (ps_set (i := 3) sc_no.nd rfl (Or.inl rfl) (pe_callTy call_int_str rfl U.z_int (by decide +kernel) (pa_cons (pv 0) pa_nil)))
  (pss_cons (ps_if (PW.pt (pw_or (pt_cmpR op_ne (pe_callTy call_str_int rfl U.z_str (by decide +kernel) (pa_cons (pv 3) pa_nil)) (pv 0) (nomark _)) (pw_or1 (pt_not (pt_chain op_le op_le (pv 1) (pv 3) (pv 2)))))) (pss_one (ps_ret pe_non)) pss_nil)
  (pss_one (ps_ret (pv 3)))))), ?_⟩
    have big : (5000 : Nat) ≤ sizeLine := by show 5000 ≤ 16777216; decide
    obtain ⟨hn, rfl⟩ := Int.eq_ofNat_of_zero_le h0
    have hh : hn < 401 := by omega
    have fc := num_facts hn hh
    have no : (∀ n : Nat, n < 401 → z = nT n → ¬ (lo ≤ (n : Int) ∧ (n : Int) ≤ (hn : Int))) → optI (numOf z lo hn) = .non := fun h => by rw [numOf_none h]; rfl
    have l3 : (nT hn).length ≤ 3 := by rw [fc.2.2]; split <;> (try split) <;> omega
    refine ⟨_, rfl, _, _, rfl, ⟨by omega, rfl⟩, ?_⟩
    refine ⟨_, rfl, _, rfl, num_log h0 h1, _, _, rfl, ⟨by show (nT hn).length ≤ sizeLine; omega, rfl⟩, _, _, rfl, rfl, _, rfl, ?_⟩
    refine ite2 (fun c1 => ?_) (fun c1 => ?_)
    · have c : (nT hn).length < z.length := by have q : ((nT hn).length : Int) < z.length := of_decide_eq_true c1; omega
      refine iteT ?_
      show Q .non H
      rw [no fun n hn2 e q => by
        have l := nT_len hh (show n ≤ hn by omega)
        rw [← e] at l
        omega] at fin
      exact fin
    have c : z.length ≤ 3 := by
      have q : ¬ ((nT hn).length : Int) < z.length := fun y => c1 (decide_eq_true y)
      omega
    refine ⟨_, rfl, ⟨_, rfl⟩, _, rfl, rfl, True.intro, _, rfl, ?_⟩
    cases a1 : Txt.isascii z with
    | false =>
      refine iteT (iteT ?_)
      show Q .non H
      rw [no fun n hn2 e q => by rw [e, (num_facts n hn2).1] at a1; cases a1] at fin
      exact fin
    | true =>
      refine iteF ⟨_, rfl, ⟨_, rfl⟩, _, rfl, rfl, True.intro, _, rfl, ?_⟩
      cases d1 : Txt.isdigit z with
      | false =>
        refine iteT ?_
        show Q .non H
        rw [no fun n hn2 e q => by rw [e, (num_facts n hn2).2.1] at d1; cases d1] at fin
        exact fin
      | true =>
        refine iteF ?_
        obtain ⟨n, rd, n9⟩ := short_reads c a1 d1
        have lg : (n : Int).natAbs.log2 < 1920 := by
          rw [Int.natAbs_natCast]
          have q : n.log2 ≤ n := Nat.log2_le_self n
          omega
        refine ⟨_, rfl, z, _, rfl, rd, by omega, ?_⟩
        refine ⟨_, rfl, _, rfl, lg, _, rfl, rfl, _, rfl, ?_⟩
        refine ite2 (fun e1 => ?_) (fun e1 => ?_)
        · refine iteT ?_
          show Q .non H
          have ne : ¬ nT n = z := fun y => by
            have q : (!decide (V.str (nT n) = V.str z)) = true := e1
            rw [y, decide_eq_true rfl] at q
            cases q
          rw [no fun m hm e q => ne (by
            rw [e, nT_reads hm] at rd
            have q2 : (m : Int) = n := Option.some.inj rd
            rw [e, show m = n by omega])] at fin
          exact fin
        · have eq : nT n = z := Classical.byContradiction fun y => e1 (by
            show (!decide (V.str (nT n) = V.str z)) = true
            rw [decide_eq_false fun h => y (V.str.inj h)]
            rfl)
          refine ⟨_, rfl, _, rfl, _, _, rfl, rfl, _, rfl, ?_⟩
          refine ite2 (fun c2 => ?_) (fun c2 => ?_)
          · refine ⟨_, rfl, _, _, rfl, rfl, _, rfl, ?_⟩
            have c3 : lo ≤ (n : Int) := of_decide_eq_true c2
            refine ite2 (fun c4 => ?_) (fun c4 => ?_)
            · show Q .non H
              have c5 : ¬ (n : Int) ≤ hn := fun y => by
                have q : (!decide ((n : Int) ≤ hn)) = true := c4
                rw [decide_eq_true y] at q
                cases q
              rw [no fun m hm e q => c5 (by rw [e] at eq; rw [nT_inj eq]; exact q.2)] at fin
              exact fin
            · have c5 : (n : Int) ≤ hn := Classical.byContradiction fun y => c4 (by
                show (!decide ((n : Int) ≤ hn)) = true
                rw [decide_eq_false y]
                rfl)
              refine ⟨_, rfl, ?_⟩
              show Q (.int n) H
              rw [← eq, numOf_nT (by omega), if_pos ⟨c3, c5⟩] at fin
              exact fin
          · refine ⟨_, rfl, iteT ?_⟩
            show Q .non H
            have c3 : ¬ lo ≤ (n : Int) := fun y => c2 (decide_eq_true y)
            rw [no fun m hm e q => c3 (by rw [e] at eq; rw [nT_inj eq]; exact q.1)] at fin
            exact fin
end
end Fz
set_option Elab.async false
set_option linter.all false
set_option maxRecDepth 100000
set_option maxHeartbeats 2000000
namespace Fz
open PySem PySem.Spec PyProof.Rows L2
/-- one step of a reading -/
local macro_rules | `(tactic| walk_at "st") => `(tactic| first
  | refine ⟨_, rfl, ?_⟩
  | refine Or.inl ⟨_, rfl, ?_⟩
  | refine Or.inr ⟨_, rfl, ?_⟩
  | refine ⟨_, _, _, _, rfl, rfl, SqL.of (by first | assumption | exact upd_same), rfl, ?_⟩
  | refine ⟨_, _, _, _, rfl, rfl, (by first | assumption | exact upd_same), rfl, ?_⟩
  | refine ⟨_, _, rfl, .inl ⟨_, SqL.of (by first | assumption | exact upd_same), rfl⟩, ?_⟩
  | refine ⟨_, _, rfl, rfl, (show (0 : Int) < _ by first | decide | omega), ?_⟩
  | refine ⟨_, _, rfl, rfl, (show (0 : Int) < _ ∧ _ < _ by first | exact ⟨by decide, by decide⟩ | omega), ?_⟩
  | refine ⟨_, _, rfl, rfl, (show (_ < _ ∧ _ < _) ∨ (_ < _ ∧ _ < _) by first | exact .inl ⟨by decide, by decide⟩ | omega), ?_⟩
  | refine ⟨_, _, rfl, rfl, (show (0 : Int) ≤ _ ∧ _ ≤ _ ∧ _ < _ by first | exact ⟨by decide, by decide, by decide⟩ | exact ⟨by decide, by decide, by omega⟩), ?_⟩
  | refine ⟨_, _, rfl, rfl, ?_⟩)

section
variable {P : Program} {w : World} {K : PySem.W.Frag} {mg : Str → Option Value} {base : Heap}

abbrev s_lm : Stmt := topS 20
theorem sc_lm : FnScope ["words", "rest"] ["words"] (defScope s_lm) := ⟨rfl, rfl, rfl, by decide +kernel, rfl, by decide +kernel, by decide +kernel⟩
theorem at_nat {xs : List V} {i : Nat} {v : V} (h : xs[i]? = some v) : atI xs (i : Int) = some v := by
  have l : i < xs.length := by
    rcases Nat.lt_or_ge i xs.length with q | q
    · exact q
    · rw [List.getElem?_eq_none q] at h
      cases h
  unfold atI ixN
  rw [if_pos (by omega), if_pos (by omega)]
  show xs[(i : Int).toNat]? = _
  rw [Int.toNat_natCast, h]
theorem ok_lm {CRl CB fB f fNo : Addr} {fd fdNo : FuncData} (F : Fun K "least_modulus" "least_modulus" s_lm f fd) (U : Blt mg) (T : PrgB K mg CRl CB fB) (No : Fun K "number_of" "number_of" s_no fNo fdNo) (gNo : mg "number_of" = some (.ref fNo)) (b_no : L2.Binds K fdNo ["word", "least", "most"] []) : FnOk P w K mg base CX0 2 f fd ["words"] spLeastM := by
  have G_no : FnOk P w K mg base CX0 1 fNo fdNo ["word", "least", "most"] spNumOf := ok_no No U
  refine F.ok sc_lm (fun vs H Q E h => ?_) (fun cdv A outer s H vs Q E hr h => ?_)
  · obtain ⟨p, ws, rfl, _⟩ := h
    rfl
  · obtain ⟨p, ws, rfl, hw, ok, fin⟩ := h
    refine ⟨_, (pss_cons (ps_set (i := 1) sc_lm.nd rfl (Or.inl rfl) (pe_ifExp (pt_cmpR op_gt (pe_callB call_len rfl U.z_len (by decide +kernel) (pa_cons (pv 0) pa_nil)) pe_int (nomark _)) (pe_call G_no (hr.mono (by decide)) rfl gNo No.kp b_no .nil pass0 (by exact (pa_cons (pe_ix ix_list (pv 0) pe_int (fun _ _ => rfl)) (pa_cons pe_int (pa_cons (pe_op op_sub (ClX.pe_cval (pe_glob (v := .ref _) rfl T.g_Rule rfl)) pe_int) pa_nil))))) pe_non))
  (pss_one (ps_ret (pe_ifExp (pt_cmpR op_isN (pv 1) pe_non (nomark _)) pe_int (pe_callB (call_max2 rfl) rfl U.z_max (by decide +kernel) (pa_cons pe_int (pa_cons (pe_op op_add (pv 1) pe_int) pa_nil))))))), ?_⟩
    obtain ⟨u, mostM⟩ := T.mostM
    refine ⟨_, rfl, _, _, rfl, .inl ⟨_, SqL.of hw, rfl⟩, _, _, rfl, rfl, _, rfl, ?_⟩
    refine ite2 (fun c => ?_) (fun c => ?_)
    · have c1 : 3 < ws.length := by
        have q : (3 : Int) < ((ws.map V.str).length : Int) := of_decide_eq_true c
        rw [List.length_map] at q
        omega
      have e3 : ws[3]? = some ws[3] := List.getElem?_eq_getElem c1
      have lm : leastM ws = (match numOf ws[3] 0 5 with
        | some r => if r + 1 > 2 then r + 1 else 2
        | none => 2) := by
        unfold leastM
        rw [e3] <;> rfl
      refine ⟨_, rfl, p, _, ((3 : Nat) : Int), _, rfl, rfl, SqL.of hw, at_str e3, _, _, _, _, rfl, T.rdRl, mostM, _, _, rfl, rfl, ws[3], 0, 5, rfl, by decide, by decide, by decide, by decide, (ok.each _ (List.getElem_mem c1)).len, ?_⟩
      cases e : numOf ws[3] 0 5 with
      | none =>
        rw [lm, e] at fin
        exact ⟨_, rfl, rfl, _, rfl, iteT fin⟩
      | some r =>
        rw [lm, e] at fin
        exact ⟨_, rfl, rfl, _, rfl, iteF ⟨_, rfl, _, _, rfl, rfl, _, _, rfl, fin⟩⟩
    · have c1 : ws.length ≤ 3 := by
        have q : ¬ (3 : Int) < ((ws.map V.str).length : Int) := fun y => c (decide_eq_true y)
        rw [List.length_map] at q
        omega
      have lm : leastM ws = 2 := by unfold leastM; rw [List.getElem?_eq_none c1]
      rw [lm] at fin
      exact ⟨_, rfl, rfl, _, rfl, iteT fin⟩
abbrev s_fi : Stmt := topS 9
theorem sc_fi : FnScope ["word", "slot"] ["word", "slot"] (defScope s_fi) := ⟨rfl, rfl, rfl, by decide +kernel, rfl, by decide +kernel, by decide +kernel⟩
theorem ok_fi {f fNo : Addr} {fd fdNo : FuncData} (F : Fun K "fits" "fits" s_fi f fd) (U : Blt mg) (No : Fun K "number_of" "number_of" s_no fNo fdNo) (gNo : mg "number_of" = some (.ref fNo)) (b_no : L2.Binds K fdNo ["word", "least", "most"] []) : FnOk P w K mg base CX0 2 f fd ["word", "slot"] spFits := by
  have G_no : FnOk P w K mg base CX0 1 fNo fdNo ["word", "least", "most"] spNumOf := ok_no No U
  refine F.ok sc_fi (fun vs H Q E h => ?_) (fun cdv A outer s H vs Q E hr h => ?_)
  · obtain ⟨z, t, s, rfl, _⟩ := h
    rfl
  · obtain ⟨z, t, s, rfl, len, hs, fin⟩ := h
    refine ⟨_, (pss_cons (ps_if (pt_val (pe_callB call_isi rfl U.z_isinstance (by decide +kernel) (pa_cons (pe_ix ix_tup (pv 1) pe_int (fun _ _ => rfl)) (pa_cons (pe_bltn (v := .ty "str") rfl U.z_str (by decide +kernel) rfl) pa_nil)))) (pss_one (ps_ret (pe_cmpR op_in_seq (pv 0) (pv 1) (by rfl)))) pss_nil)
  (pss_one (ps_ret (pe_cmpR op_notN (pe_call G_no (hr.mono (by decide)) rfl gNo No.kp b_no .nil pass0 (by exact (pa_cons (pv 0) (pa_cons (pe_ix ix_tup (pv 1) pe_int (fun _ _ => rfl)) (pa_cons (pe_ix ix_tup (pv 1) pe_int (fun _ _ => rfl)) pa_nil))))) pe_non (nomark _))))), ?_⟩
    cases s with
    | one l =>
      obtain ⟨ne, ht⟩ := hs
      match l, ne, ht, fin with
      | y :: r, _, ht, fin =>
        refine ⟨_, rfl, t, _, ((0 : Nat) : Int), _, rfl, rfl, SqT.of ht, at_nat (xs := (y :: r).map V.str) (i := 0) rfl, _, _, _, _, _, rfl, .ty "str", .base (.str y), rfl, _, rfl, iteT ?_⟩
        refine ⟨_, rfl, _, rfl, t, _, rfl, .inr (SqT.of ht), rfl, flat_strs _, ?_⟩
        rw [if_neg Bool.false_ne_true, inV_strs]
        exact fin
    | num lo hi =>
      obtain ⟨a, b, c, d, ht⟩ := hs
      refine ⟨_, rfl, t, _, ((0 : Nat) : Int), _, rfl, rfl, SqT.of ht, rfl, _, _, _, _, _, rfl, .ty "str", .base (.int lo), rfl, _, rfl, iteF ?_⟩
      refine ⟨_, rfl, _, rfl, t, _, ((0 : Nat) : Int), _, rfl, rfl, SqT.of ht, rfl, _, rfl, t, _, ((1 : Nat) : Int), _, rfl, rfl, SqT.of ht, rfl, z, lo, hi, rfl, a, b, c, d, len, ?_⟩
      refine ⟨rfl, ?_⟩
      have e : (!decide (optI (numOf z lo hi) = V.non)) = fitsB z (.num lo hi) := by
        show _ = (numOf z lo hi).isSome
        cases numOf z lo hi <;> rfl
      rw [e]
      exact fin
end
end Fz
set_option Elab.async false
set_option linter.all false
set_option maxRecDepth 100000
set_option maxHeartbeats 2000000
namespace Fz
open PySem PySem.Spec PyProof.Rows L2
/-- one step of a reading -/
local macro_rules | `(tactic| walk_at "st") => `(tactic| first
  | refine ⟨_, rfl, ?_⟩
  | refine Or.inl ⟨_, rfl, ?_⟩
  | refine Or.inr ⟨_, rfl, ?_⟩
  | refine ⟨_, _, _, _, rfl, rfl, SqL.of (by first | assumption | exact upd_same), rfl, ?_⟩
  | refine ⟨_, _, _, _, rfl, rfl, (by first | assumption | exact upd_same), rfl, ?_⟩
  | refine ⟨_, _, rfl, .inl ⟨_, SqL.of (by first | assumption | exact upd_same), rfl⟩, ?_⟩
  | refine ⟨_, _, rfl, rfl, (show (0 : Int) < _ by first | decide | omega), ?_⟩
  | refine ⟨_, _, rfl, rfl, (show (0 : Int) < _ ∧ _ < _ by first | exact ⟨by decide, by decide⟩ | omega), ?_⟩
  | refine ⟨_, _, rfl, rfl, (show (_ < _ ∧ _ < _) ∨ (_ < _ ∧ _ < _) by first | exact .inl ⟨by decide, by decide⟩ | omega), ?_⟩
  | refine ⟨_, _, rfl, rfl, (show (0 : Int) ≤ _ ∧ _ ≤ _ ∧ _ < _ by first | exact ⟨by decide, by decide, by decide⟩ | exact ⟨by decide, by decide, by omega⟩), ?_⟩
  | refine ⟨_, _, rfl, rfl, ?_⟩)

section
variable {P : Program} {w : World} {K : PySem.W.Frag} {mg : Str → Option Value} {base : Heap}

abbrev s_rs : Stmt := topS 21
theorem sc_rs : FnScope ["words", "fixed", "slots", "modulus"] ["words"] (defScope s_rs) := ⟨rfl, rfl, rfl, by decide +kernel, rfl, by decide +kernel, by decide +kernel⟩
theorem cut_two (ws : List Str) : cutV (ws.map V.str) (some 2) (some 3) = ((ws.drop 2).take 1).map V.str := cut_strs ws 2 3
theorem cut_one (ws : List Str) (n : Nat) : cutV (ws.map V.str) (some (n : Int)) (some ((n : Int) + 1)) = ((ws.drop n).take 1).map V.str := by
  have q := cut_strs ws n (n + 1)
  rw [show n + 1 - n = 1 by omega] at q
  exact q
theorem strOk_rest : PySem.PyData.strOk wRest = true := by decide +kernel
theorem strOk_fixed : PySem.PyData.strOk wFixed = true := by decide +kernel
theorem strOk_leave : PySem.PyData.strOk wLeave = true := by decide +kernel
theorem strOk_of : PySem.PyData.strOk wOf = true := by decide +kernel
theorem WsOk.cut {ws : List Str} (ok : WsOk ws) (n : Nat) : ∀ z ∈ (ws.drop n).take 1, PySem.PyData.strOk z = true := fun z hz => (ok.each z (List.mem_of_mem_drop (List.mem_of_mem_take hz))).ok
theorem dec_strV (y z : Str) : decide (V.str y = V.str z) = decide (y = z) := by by_cases h : y = z <;> simp [h]
theorem ok_rs {CRl CB fB f fNo fLm : Addr} {fd fdNo fdLm : FuncData} (F : Fun K "rule_slots" "rule_slots" s_rs f fd) (U : Blt mg) (T : PrgB K mg CRl CB fB) (No : Fun K "number_of" "number_of" s_no fNo fdNo) (gNo : mg "number_of" = some (.ref fNo)) (b_no : L2.Binds K fdNo ["word", "least", "most"] []) (Lm : Fun K "least_modulus" "least_modulus" s_lm fLm fdLm) (gLm : mg "least_modulus" = some (.ref fLm)) (b_lm : L2.Binds K fdLm ["words"] []) : FnOk P w K mg base CX0 3 f fd ["words"] spSlots := by
  have G_lm : FnOk P w K mg base CX0 2 fLm fdLm ["words"] spLeastM := ok_lm Lm U T No gNo b_no
  refine F.ok sc_rs (fun vs H Q E h => ?_) (fun cdv A outer s H vs Q E hr h => ?_)
  · obtain ⟨p, ws, rfl, _⟩ := h
    rfl
  · obtain ⟨p, ws, rfl, hw, ne, ok, fin⟩ := h
    match ws, ne, hw, ok, fin with
    | z0 :: r, ne, hw, ok, fin =>
    refine ⟨_, (pss_cons (ps_set (i := 1) sc_rs.nd rfl (Or.inl rfl) (pe_cmpR (op_eqD hr.units) (pe_slice sl_list (pv 0) po_none (po_some pe_int)) (pe_lst (pa_cons pe_str pa_nil)) (nomark _)))
  (C8.pss_cut (ps_set (i := 2) sc_rs.nd rfl (Or.inl rfl) (pe_lst (pa_cons (pe_tup (pa_cons pe_str (pa_cons pe_str pa_nil))) (pa_cons (pe_tup (pa_cons (pe_ifExp (pt_val (pv 1)) pe_int pe_int) (pa_cons (ClX.pe_cval (pe_glob (v := .ref _) rfl T.g_Rule rfl)) pa_nil))) pa_nil))))
  (C8.pss_cut (ps_if (pt_cmpR (op_eqD hr.units) (pe_slice sl_list (pv 0) (po_some pe_int) (po_some pe_int)) (pe_lst (pa_cons pe_str pa_nil)) (nomark _)) (pss_cons (ps_set (i := 3) sc_rs.nd rfl (Or.inl rfl) (pe_tup (pa_cons (pe_call G_lm (hr.mono (by decide)) rfl gLm Lm.kp b_lm .nil pass0 (by exact (pa_cons (pv 0) pa_nil))) (pa_cons (ClX.pe_cval (pe_glob (v := .ref _) rfl T.g_Rule rfl)) pa_nil))))
  (pss_one (ps_set (i := 2) sc_rs.nd rfl (Or.inl rfl) (pe_lst (StX.pa_star (pv 2) (pa_cons (pe_tup (pa_cons pe_str pa_nil)) (pa_cons (pe_tup (pa_cons pe_int (pa_cons (pe_op op_sub (ClX.pe_cval (pe_glob (v := .ref _) rfl T.g_Rule rfl)) pe_int) pa_nil))) (pa_cons (pe_tup (pa_cons pe_str pa_nil)) (pa_cons (pv 3) pa_nil))))))))) pss_nil)
  (pss_cons (ps_if (PW.pt (pw_and (pt_val (pv 1)) (pw_and1 (pt_cmpR (op_eqD hr.units) (pe_slice sl_list (pv 0) (po_some (pe_callB call_len rfl U.z_len (by decide +kernel) (pa_cons (pv 2) pa_nil))) (po_some (pe_op op_add (pe_callB call_len rfl U.z_len (by decide +kernel) (pa_cons (pv 2) pa_nil)) pe_int))) (pe_lst (pa_cons pe_str pa_nil)) (nomark _))))) (pss_one (ps_set (i := 2) sc_rs.nd rfl (Or.inl rfl) (pe_lst (StX.pa_star (pv 2) (pa_cons (pe_tup (pa_cons pe_str pa_nil)) (pa_cons (pe_tup (pa_cons pe_int (pa_cons (ClX.pe_cval (pe_glob (v := .ref _) rfl T.g_Rule rfl)) pa_nil))) pa_nil)))))) pss_nil)
  (pss_one (ps_ret (pv 2))))))), ?_⟩
    obtain ⟨u, mostM⟩ := T.mostM
    obtain ⟨u2, most⟩ := T.most
    have sz : ∀ n : Nat, n ≤ 100 → n ≤ sizeLine := fun n h => by have e : (100 : Nat) ≤ sizeLine := by { show 100 ≤ 16777216; decide }; omega
    refine ⟨_, rfl, _, rfl, _, _, rfl, SqL.of hw, fun l0 hl0 => ⟨sz 1 (by decide), fun l1 hl1 => ?_⟩⟩
    have s0 := Same.new (o := .lst (cutV ((z0 :: r).map V.str) none (some 1))) hl0
    have s1 := Same.new (o := .lst [V.str "fixed"]) hl1
    have m00 := s0.trans s1
    refine eq_words (xs := (z0 :: r).take 1) (ys := [wFixed]) (by rw [List.map_take, ← cutV_take]; exact s1 _ _ upd_same) upd_same (fun z hz => (ok.each z (List.mem_of_mem_take hz)).ok) (fun y hy => by rw [List.mem_singleton.mp hy]; exact strOk_fixed) ?_
    rw [show decide ((z0 :: r).take 1 = [wFixed]) = decide (z0 = wFixed) from by simp]
    replace fin := fun H' l xs (m : Same _ H') => fin H' l xs (m00.trans m)
    replace hw := hw.same m00
    clear s0 s1 m00 hl1
    generalize (upd (upd H l0 (.lst (cutV ((z0 :: r).map V.str) none (some 1)))) l1 (.lst [V.str "fixed"])) = Hn at hw fin ⊢
    clear hl0
    obtain ⟨H, eHn⟩ : ∃ H0, H0 = Hn := ⟨_, rfl⟩
    rw [← eHn] at hw fin ⊢
    refine ⟨fun σ' H' => ∃ l xs, σ' = [some (.ref p), some (.bl (decide (z0 = wFixed))), some (.ref l), none] ∧ Same H H' ∧ H' l = some (.lst xs) ∧ SlotsL H' xs (slots1 (z0 :: r)), ?_, ?_⟩
    · have fin1 : ∀ lo : Int, lo = lowN z0 → ∀ t1, H t1 = none → ∀ t2, upd H t1 (.tup [.str wFixed, .str wDown]) t2 = none → ∀ l, upd (upd H t1 (.tup [.str wFixed, .str wDown])) t2 (.tup [.int lo, .int 400]) l = none →
          ∃ l' xs, [some (V.ref p), some (.bl (decide (z0 = wFixed))), some (.ref l), none] = [some (.ref p), some (.bl (decide (z0 = wFixed))), some (.ref l'), none] ∧ Same H (upd (upd (upd H t1 (.tup [.str wFixed, .str wDown])) t2 (.tup [.int lo, .int 400])) l (.lst [.ref t1, .ref t2])) ∧
            (upd (upd (upd H t1 (.tup [.str wFixed, .str wDown])) t2 (.tup [.int lo, .int 400])) l (.lst [.ref t1, .ref t2])) l' = some (.lst xs) ∧ SlotsL (upd (upd (upd H t1 (.tup [.str wFixed, .str wDown])) t2 (.tup [.int lo, .int 400])) l (.lst [.ref t1, .ref t2])) xs (slots1 (z0 :: r)) := fun lo elo t1 ht1 t2 ht2 l hl => by
        have s1 := Same.new (o := .tup [.str wFixed, .str wDown]) ht1
        have s2 := Same.new (o := .tup [.int lo, .int 400]) ht2
        have s3 := Same.new (o := .lst [.ref t1, .ref t2]) hl
        have lo0 : 0 ≤ lowN z0 ∧ lowN z0 ≤ 400 := by unfold lowN; split <;> decide
        subst elo
        exact ⟨l, _, rfl, (s1.trans s2).trans s3, upd_same, .cons ⟨by simp, s3 _ _ (s2 _ _ upd_same)⟩ (.cons ⟨lo0.1, lo0.2, by decide, by decide, s3 _ _ upd_same⟩ .nil)⟩
      refine ⟨sz 2 (by decide), fun t1 ht1 => ?_⟩
      refine ⟨_, rfl, _, rfl, ?_⟩
      refine ite2 (fun c => ?_) (fun c => ?_)
      · refine ⟨_, _, _, _, rfl, T.rdRl, most, sz 2 (by decide), fun t2 ht2 => ⟨sz 2 (by decide), fun l hl => ?_⟩⟩
        exact fin1 1 (by unfold lowN; rw [if_pos (of_decide_eq_true c)]) t1 ht1 t2 ht2 l hl
      · refine ⟨_, _, _, _, rfl, T.rdRl, most, sz 2 (by decide), fun t2 ht2 => ⟨sz 2 (by decide), fun l hl => ?_⟩⟩
        exact fin1 0 (by unfold lowN; rw [if_neg (fun y => c (decide_eq_true y))]) t1 ht1 t2 ht2 l hl
    rintro σ' H1 ⟨l, xs, rfl, m1, hl, sl⟩
    have hw1 := hw.same m1
    refine ⟨fun σ' H' => ∃ l xs v3, σ' = [some (.ref p), some (.bl (decide (z0 = wFixed))), some (.ref l), v3] ∧ Same H H' ∧ H' l = some (.lst xs) ∧ SlotsL H' xs (slots2 (z0 :: r)), ?_, ?_⟩
    · refine ⟨_, rfl, _, rfl, _, rfl, _, _, rfl, SqL.of hw1, fun l0 hl0 => ⟨sz 1 (by decide), fun l1 hl1 => ?_⟩⟩
      have s0 := Same.new (o := .lst (cutV ((z0 :: r).map V.str) (some 2) (some 3))) hl0
      have s1 := Same.new (o := .lst [V.str "rest"]) hl1
      have m2 := (m1.trans s0).trans s1
      have sl2 := (sl.same s0).same s1
      have hl2 := s1 _ _ (s0 _ _ hl)
      refine eq_words (xs := ((z0 :: r).drop 2).take 1) (ys := [wRest]) (by rw [← cut_two]; exact s1 _ _ upd_same) upd_same (ok.cut 2) (fun y hy => by rw [List.mem_singleton.mp hy]; exact strOk_rest) ⟨_, rfl, ?_⟩
      refine ite2 (fun c => ?_) (fun c => ?_)
      · refine ⟨_, rfl, p, z0 :: r, rfl, hw.same m2, ok, _, _, _, _, rfl, T.rdRl, mostM, sz 2 (by decide), fun t ht => ?_⟩
        refine ⟨_, rfl, l, xs, rfl, .inr (SqL.of (Same.new ht _ _ hl2)), sz 1 (by decide), fun t1 ht1 => ?_⟩
        refine ⟨_, _, _, _, rfl, T.rdRl, mostM, _, _, rfl, rfl, sz 2 (by decide), fun t2 ht2 => ?_⟩
        refine ⟨sz 1 (by decide), fun t3 ht3 => ?_⟩
        have ln := sl.len
        have e1 : (slots1 (z0 :: r)).length = 2 := rfl
        refine ⟨_, rfl, sz _ (by rw [List.length_append, ln, e1]; show 2 + 4 ≤ 100; decide), fun l2 hl3 => ?_⟩
        have q0 := Same.new (o := .tup [V.int (leastM (z0 :: r)), .int 6]) ht
        have q1 := Same.new (o := .tup [V.str "rest"]) ht1
        have q2 := Same.new (o := .tup [V.int 0, .int (6 - 1)]) ht2
        have q3 := Same.new (o := .tup [V.str "of"]) ht3
        have q4 := Same.new (o := .lst (xs ++ [.ref t1, .ref t2, .ref t3, .ref t])) hl3
        have lm0 : 0 ≤ leastM (z0 :: r) ∧ leastM (z0 :: r) ≤ 400 := by
          unfold leastM
          cases (z0 :: r)[3]? with
          | none => exact ⟨by decide, by decide⟩
          | some y =>
            dsimp only
            cases e : numOf y 0 5 with
            | none => exact ⟨by decide, by decide⟩
            | some i =>
              obtain ⟨_, _, _, _, a, b⟩ := numOf_some e
              dsimp only
              split <;> omega
        refine ⟨l2, _, _, rfl, ((((m2.trans q0).trans q1).trans q2).trans q3).trans q4, upd_same, ?_⟩
        have e2 : slots2 (z0 :: r) = slots1 (z0 :: r) ++ [.one [wRest], .num 0 5, .one [wOf], .num (leastM (z0 :: r)) 6] := by
          unfold slots2
          rw [if_pos (show headIs ((z0 :: r).drop 2) wRest = true from c)]
        rw [e2]
        refine (((((sl2.same q0).same q1).same q2).same q3).same q4).app ?_
        exact .cons ⟨by simp, q4 _ _ (q3 _ _ (q2 _ _ upd_same))⟩ (.cons ⟨by decide, by decide, by decide, by decide, q4 _ _ (q3 _ _ upd_same)⟩ (.cons ⟨by simp, q4 _ _ upd_same⟩ (.cons ⟨lm0.1, lm0.2, by decide, by decide, q4 _ _ (q3 _ _ (q2 _ _ (q1 _ _ upd_same)))⟩ .nil)))
      · refine ⟨l, xs, none, rfl, m2, hl2, ?_⟩
        have e2 : slots2 (z0 :: r) = slots1 (z0 :: r) := by
          unfold slots2
          rw [if_neg (show ¬ headIs ((z0 :: r).drop 2) wRest = true from c)]
        rw [e2]
        exact sl2
    rintro σ' H2 ⟨l, xs, v3, rfl, m2, hl, sl⟩
    have hw2 := hw.same m2
    have ln := sl.len
    have sw : slotsW (z0 :: r) = slots2 (z0 :: r) ++ tailSl (decide (z0 = wFixed)) ((z0 :: r).drop (slots2 (z0 :: r)).length) := rfl
    have short : (slots2 (z0 :: r)).length ≤ 6 := by
      unfold slots2
      split
      · show 6 ≤ 6
        decide
      · show 2 ≤ 6
        decide
    refine ⟨_, rfl, _, rfl, ?_⟩
    refine ite2 (fun c => ?_) (fun c => ?_)
    · refine ⟨_, rfl, _, rfl, _, _, rfl, .inl ⟨_, SqL.of hl, rfl⟩, _, rfl, _, rfl, _, _, rfl, .inl ⟨_, SqL.of hl, rfl⟩, _, _, rfl, rfl, _, rfl, _, _, rfl, SqL.of hw2, fun l0 hl0 => ⟨sz 1 (by decide), fun l1 hl1 => ?_⟩⟩
      have s0 := Same.new (o := .lst (cutV ((z0 :: r).map V.str) (some (xs.length : Int)) (some ((xs.length : Int) + 1)))) hl0
      have s1 := Same.new (o := .lst [V.str "leave"]) hl1
      have m3 := (m2.trans s0).trans s1
      have sl2 := (sl.same s0).same s1
      have hl2 := s1 _ _ (s0 _ _ hl)
      refine eq_words (xs := ((z0 :: r).drop xs.length).take 1) (ys := [wLeave]) (by rw [← cut_one]; exact s1 _ _ upd_same) upd_same (ok.cut _) (fun y hy => by rw [List.mem_singleton.mp hy]; exact strOk_leave) ⟨_, rfl, ?_⟩
      refine ite2 (fun d => ?_) (fun d => ?_)
      · refine ⟨_, rfl, l, xs, rfl, .inr (SqL.of hl2), sz 1 (by decide), fun t1 ht1 => ?_⟩
        refine ⟨_, _, _, _, rfl, T.rdRl, most, sz 2 (by decide), fun t2 ht2 => ?_⟩
        refine ⟨sz _ (by rw [List.length_append, ln]; show _ + 2 ≤ 100; omega), fun l2 hl3 => ?_⟩
        have q1 := Same.new (o := .tup [V.str "leave"]) ht1
        have q2 := Same.new (o := .tup [V.int 1, .int 400]) ht2
        have q3 := Same.new (o := .lst (xs ++ [.ref t1, .ref t2])) hl3
        refine ⟨_, rfl, fin _ l2 _ (((m3.trans q1).trans q2).trans q3) upd_same ?_⟩
        rw [sw]
        have e : tailSl (decide (z0 = wFixed)) ((z0 :: r).drop (slots2 (z0 :: r)).length) = [.one [wLeave], .num 1 400] := by
          unfold tailSl
          rw [← ln, if_pos ⟨c, d⟩]
        rw [e]
        exact (((sl2.same q1).same q2).same q3).app (.cons ⟨by simp, q3 _ _ (q2 _ _ upd_same)⟩ (.cons ⟨by decide, by decide, by decide, by decide, q3 _ _ upd_same⟩ .nil))
      · refine ⟨_, rfl, fin _ l _ m3 hl2 ?_⟩
        rw [sw]
        have e : tailSl (decide (z0 = wFixed)) ((z0 :: r).drop (slots2 (z0 :: r)).length) = [] := by
          unfold tailSl
          rw [← ln, if_neg (fun y => d y.2)]
        rw [e, List.append_nil]
        exact sl2
    · refine iteF ⟨_, rfl, fin _ l _ m2 hl ?_⟩
      rw [sw]
      have e : tailSl (decide (z0 = wFixed)) ((z0 :: r).drop (slots2 (z0 :: r)).length) = [] := by
        unfold tailSl
        rw [if_neg (fun y => c y.1)]
      rw [e, List.append_nil]
      exact sl
end
end Fz
set_option Elab.async false
set_option linter.all false
set_option maxRecDepth 100000
set_option maxHeartbeats 2000000
namespace Fz
open PySem PySem.Spec PyProof.Rows L2
/-- one step of a reading -/
local macro_rules | `(tactic| walk_at "st") => `(tactic| first
  | refine ⟨_, rfl, ?_⟩
  | refine Or.inl ⟨_, rfl, ?_⟩
  | refine Or.inr ⟨_, rfl, ?_⟩
  | refine ⟨_, _, _, _, rfl, rfl, SqL.of (by first | assumption | exact upd_same), rfl, ?_⟩
  | refine ⟨_, _, _, _, rfl, rfl, (by first | assumption | exact upd_same), rfl, ?_⟩
  | refine ⟨_, _, rfl, .inl ⟨_, SqL.of (by first | assumption | exact upd_same), rfl⟩, ?_⟩
  | refine ⟨_, _, rfl, rfl, (show (0 : Int) < _ by first | decide | omega), ?_⟩
  | refine ⟨_, _, rfl, rfl, (show (0 : Int) < _ ∧ _ < _ by first | exact ⟨by decide, by decide⟩ | omega), ?_⟩
  | refine ⟨_, _, rfl, rfl, (show (_ < _ ∧ _ < _) ∨ (_ < _ ∧ _ < _) by first | exact .inl ⟨by decide, by decide⟩ | omega), ?_⟩
  | refine ⟨_, _, rfl, rfl, (show (0 : Int) ≤ _ ∧ _ ≤ _ ∧ _ < _ by first | exact ⟨by decide, by decide, by decide⟩ | exact ⟨by decide, by decide, by omega⟩), ?_⟩
  | refine ⟨_, _, rfl, rfl, ?_⟩)

section
variable {P : Program} {w : World} {K : PySem.W.Frag} {mg : Str → Option Value} {base : Heap}

abbrev s_wa : Stmt := topS 10
theorem sc_wa : FnScope ["words", "slots", "at", "word"] ["words", "slots"] (defScope s_wa) := ⟨rfl, rfl, rfl, by decide +kernel, rfl, by decide +kernel, by decide +kernel⟩
def spAmong : Sp := fun vs H Q _ => ∃ (p l : Addr) (ws : List Str) (xs : List V) (sw : List WSlot), vs = [.ref p, .ref l] ∧ WordsAt H p ws ∧ WsOk ws ∧ H l = some (.lst xs) ∧ SlotsL H xs sw ∧ ∀ H', Same H H' → Q (optN (goW ws sw 0)) H'
theorem ok_wa {f fNo fFi : Addr} {fd fdNo fdFi : FuncData} (F : Fun K "wrong_among" "wrong_among" s_wa f fd) (U : Blt mg) (No : Fun K "number_of" "number_of" s_no fNo fdNo) (gNo : mg "number_of" = some (.ref fNo)) (b_no : L2.Binds K fdNo ["word", "least", "most"] [])
    (Fi : Fun K "fits" "fits" s_fi fFi fdFi) (gFi : mg "fits" = some (.ref fFi)) (b_fi : L2.Binds K fdFi ["word", "slot"] []) : FnOk P w K mg base CX0 3 f fd ["words", "slots"] spAmong := by
  have G_fi : FnOk P w K mg base CX0 2 fFi fdFi ["word", "slot"] spFits := ok_fi Fi U No gNo b_no
  refine F.ok sc_wa (fun vs H Q E h => ?_) (fun cdv A outer s H vs Q E hr h => ?_)
  · obtain ⟨p, l, ws, xs, sw, rfl, _⟩ := h
    rfl
  · obtain ⟨p, l, ws, xs, sw, rfl, hw, ok, hl, sl, fin⟩ := h
    refine ⟨_, (pss_cons (ps_for PassesOwn.never rfl (pi_enum (by rfl) U.z_enumerate (pa_cons (pv 0) pa_nil)) (pg_tup rfl (pgs_cons (pg_name (i := 2) sc_wa.nd rfl (Or.inl rfl)) (pgs_cons (pg_name (i := 3) sc_wa.nd rfl (Or.inl rfl)) pgs_nil))) (pss_one (ps_if (PW.pt (pw_or (pt_cmpR op_ge (pv 2) (pe_callB call_len rfl U.z_len (by decide +kernel) (pa_cons (pv 1) pa_nil)) (nomark _)) (pw_or1 (pt_not (pt_val (pe_call G_fi (hr.mono (by decide)) rfl gFi Fi.kp b_fi .nil pass0 (by exact (pa_cons (pv 3) (pa_cons (pe_ix ix_list (pv 1) (pv 2) (fun _ _ => rfl)) pa_nil))))))))) (pss_one (ps_ret (pv 2))) pss_nil)))
  (pss_one (ps_ret (pe_ifExp (pt_cmpR op_lt (pe_callB call_len rfl U.z_len (by decide +kernel) (pa_cons (pv 0) pa_nil)) (pe_callB call_len rfl U.z_len (by decide +kernel) (pa_cons (pv 1) pa_nil)) (nomark _)) (pe_callB call_len rfl U.z_len (by decide +kernel) (pa_cons (pv 0) pa_nil)) pe_non)))), ?_⟩
    have ln := sl.len
    have big : (100000 : Nat) ≤ sizeLine := by show 100000 ≤ 16777216; decide
    refine ⟨_, rfl, p, _, rfl, SqL.of hw, ?_⟩
    refine for_it (walk_enum (K := K) (a := p) (xs := ws.map V.str)) (fun i σ' H' => ∃ v2 v3, σ' = [some (.ref p), some (.ref l), v2, v3] ∧ Same H H' ∧ goW ws sw 0 = goW (ws.drop i) (sw.drop i) i) ⟨none, none, rfl, fun _ _ z => z, rfl⟩ ?_ ?_ ?_
    · rintro i σ' H' _ ⟨v2, v3, rfl, s, _⟩
      exact SqL.of (hw.same s)
    · rintro i x σ' H' H'' hi ⟨v2, v3, rfl, s, e⟩ ⟨t, y1, y2, rfl, ht, rfl, e1, e2⟩
      cases e1
      rw [List.length_map] at hi
      have e3 : ws[i]? = some ws[i] := List.getElem?_eq_getElem hi
      replace e2 : (ws.map V.str)[i]? = some y2 := e2
      rw [List.getElem?_map, e3] at e2
      cases e2
      have sn := Same.new (o := .tup [V.int (i : Nat), .str ws[i]]) ht
      have s2 := s.trans sn
      have dw : ws.drop i = ws[i] :: ws.drop (i + 1) := List.drop_eq_getElem_cons hi
      refine ⟨t, _, rfl, SqT.of upd_same, rfl, ?_⟩
      refine ⟨_, _, rfl, _, _, rfl, rfl, ?_⟩
      refine ⟨_, rfl, _, rfl, _, _, rfl, .inl ⟨_, SqL.of (s2 _ _ hl), rfl⟩, _, _, rfl, rfl, _, rfl, ?_⟩
      refine ite2 (fun c => ?_) (fun c => ?_)
      · have c1 : sw.length ≤ i := by
          have q : (xs.length : Int) ≤ (i : Nat) := of_decide_eq_true c
          omega
        refine iteT ⟨_, rfl, ?_⟩
        have e4 : goW ws sw 0 = some i := by
          rw [e, dw, List.drop_eq_nil_of_le c1]
          rfl
        rw [e4] at fin
        exact fin _ (s2)
      · have c1 : i < sw.length := by
          have q : ¬ (xs.length : Int) ≤ (i : Nat) := fun y => c (decide_eq_true y)
          omega
        obtain ⟨q, hq, sa⟩ := (sl.same s2).at_ (List.getElem?_eq_getElem c1)
        have ds : sw.drop i = sw[i] :: sw.drop (i + 1) := List.drop_eq_getElem_cons c1
        refine ⟨_, rfl, _, rfl, _, rfl, l, xs, _, _, rfl, rfl, SqL.of (s2 _ _ hl), at_nat hq, ws[i], q, sw[i], rfl, (ok.each _ (List.getElem_mem hi)).len, sa, ?_⟩
        refine ⟨_, rfl, ?_⟩
        cases fb : fitsB ws[i] sw[i] with
        | false =>
          refine iteT ⟨_, rfl, ?_⟩
          have e4 : goW ws sw 0 = some i := by
            rw [e, dw, ds]
            show (if fitsB ws[i] sw[i] = true then _ else _) = _
            rw [fb]
            rfl
          rw [e4] at fin
          exact fin _ (s2)
        | true =>
          refine iteF ⟨_, _, rfl, s2, ?_⟩
          rw [e, dw, ds]
          show (if fitsB ws[i] sw[i] = true then _ else _) = _
          rw [fb]
          rfl
    · rintro σ' H' ⟨v2, v3, rfl, s, e⟩
      rw [List.length_map, List.drop_length] at e
      have m := s
      refine ⟨_, rfl, _, _, rfl, .inl ⟨_, SqL.of (hw.same m), rfl⟩, _, rfl, _, _, rfl, .inl ⟨_, SqL.of (s _ _ hl), rfl⟩, _, _, rfl, rfl, _, rfl, ?_⟩
      refine ite2 (fun c => ?_) (fun c => ?_)
      · have c1 : ws.length < sw.length := by
          have q : ((ws.map V.str).length : Int) < (xs.length : Int) := of_decide_eq_true c
          rw [List.length_map] at q
          omega
        have e4 : goW ws sw 0 = some ws.length := by
          rw [e, show sw.drop ws.length = sw[ws.length] :: sw.drop (ws.length + 1) from List.drop_eq_getElem_cons c1]
          rfl
        rw [e4] at fin
        refine ⟨_, rfl, _, _, rfl, .inl ⟨_, SqL.of (hw.same m), rfl⟩, ?_⟩
        rw [List.length_map]
        exact fin _ m
      · have c1 : sw.length ≤ ws.length := by
          have q : ¬ ((ws.map V.str).length : Int) < (xs.length : Int) := fun y => c (decide_eq_true y)
          rw [List.length_map] at q
          omega
        have e4 : goW ws sw 0 = none := by
          rw [e, List.drop_eq_nil_of_le c1]
          rfl
        rw [e4] at fin
        exact fin _ m
abbrev s_ww : Stmt := topS 22
theorem sc_ww : FnScope ["words"] ["words"] (defScope s_ww) := ⟨rfl, rfl, rfl, by decide +kernel, rfl, by decide +kernel, by decide +kernel⟩
theorem ok_ww {CRl CB fB f fNo fLm fRs fFi fWa : Addr} {fd fdNo fdLm fdRs fdFi fdWa : FuncData} (F : Fun K "wrong_word" "wrong_word" s_ww f fd) (U : Blt mg) (T : PrgB K mg CRl CB fB) (No : Fun K "number_of" "number_of" s_no fNo fdNo) (gNo : mg "number_of" = some (.ref fNo)) (b_no : L2.Binds K fdNo ["word", "least", "most"] [])
    (Lm : Fun K "least_modulus" "least_modulus" s_lm fLm fdLm) (gLm : mg "least_modulus" = some (.ref fLm)) (b_lm : L2.Binds K fdLm ["words"] [])
    (Rs : Fun K "rule_slots" "rule_slots" s_rs fRs fdRs) (gRs : mg "rule_slots" = some (.ref fRs)) (b_rs : L2.Binds K fdRs ["words"] [])
    (Fi : Fun K "fits" "fits" s_fi fFi fdFi) (gFi : mg "fits" = some (.ref fFi)) (b_fi : L2.Binds K fdFi ["word", "slot"] [])
    (Wa : Fun K "wrong_among" "wrong_among" s_wa fWa fdWa) (gWa : mg "wrong_among" = some (.ref fWa)) (b_wa : L2.Binds K fdWa ["words", "slots"] []) : FnOk P w K mg base CX0 4 f fd ["words"] spWrong := by
  have G_rs : FnOk P w K mg base CX0 3 fRs fdRs ["words"] spSlots := ok_rs Rs U T No gNo b_no Lm gLm b_lm
  have G_wa : FnOk P w K mg base CX0 3 fWa fdWa ["words", "slots"] spAmong := ok_wa Wa U No gNo b_no Fi gFi b_fi
  refine F.ok sc_ww (fun vs H Q E h => ?_) (fun cdv A outer s H vs Q E hr h => ?_)
  · obtain ⟨p, ws, rfl, _⟩ := h
    rfl
  · obtain ⟨p, ws, rfl, hw, ne, ok, fin⟩ := h
    refine ⟨_, (pss_one (ps_ret (pe_call G_wa (hr.mono (by decide)) rfl gWa Wa.kp b_wa .nil pass0 (by exact (pa_cons (pv 0) (pa_cons (pe_call G_rs (hr.mono (by decide)) rfl gRs Rs.kp b_rs .nil pass0 (by exact (pa_cons (pv 0) pa_nil))) pa_nil)))))), ?_⟩
    refine ⟨_, rfl, _, rfl, p, ws, rfl, hw, ne, ok, fun H1 l xs m1 hl sl => ?_⟩
    refine ⟨p, l, ws, xs, _, rfl, hw.same m1, ok, hl, sl, fun H2 m2 => ?_⟩
    have wq : wrongL ws = goW ws (slotsW ws) 0 := (wrong_eq ne).symm
    rw [← wq]
    exact fin _ (m1.trans m2)
end
end Fz
set_option Elab.async false
set_option linter.all false
set_option maxRecDepth 100000
set_option maxHeartbeats 2000000
namespace Fz
open PySem PySem.Spec PyProof.Rows L2
/-- one step of a reading -/
local macro_rules | `(tactic| walk_at "st") => `(tactic| first
  | refine ⟨_, rfl, ?_⟩
  | refine Or.inl ⟨_, rfl, ?_⟩
  | refine Or.inr ⟨_, rfl, ?_⟩
  | refine ⟨_, _, _, _, rfl, rfl, SqL.of (by first | assumption | exact upd_same), rfl, ?_⟩
  | refine ⟨_, _, _, _, rfl, rfl, (by first | assumption | exact upd_same), rfl, ?_⟩
  | refine ⟨_, _, rfl, .inl ⟨_, SqL.of (by first | assumption | exact upd_same), rfl⟩, ?_⟩
  | refine ⟨_, _, rfl, rfl, (show (0 : Int) < _ by first | decide | omega), ?_⟩
  | refine ⟨_, _, rfl, rfl, (show (0 : Int) < _ ∧ _ < _ by first | exact ⟨by decide, by decide⟩ | omega), ?_⟩
  | refine ⟨_, _, rfl, rfl, (show (_ < _ ∧ _ < _) ∨ (_ < _ ∧ _ < _) by first | exact .inl ⟨by decide, by decide⟩ | omega), ?_⟩
  | refine ⟨_, _, rfl, rfl, (show (0 : Int) ≤ _ ∧ _ ≤ _ ∧ _ < _ by first | exact ⟨by decide, by decide, by decide⟩ | exact ⟨by decide, by decide, by omega⟩), ?_⟩
  | refine ⟨_, _, rfl, rfl, ?_⟩)

section
variable {P : Program} {w : World} {K : PySem.W.Frag} {mg : Str → Option Value} {base : Heap}

abbrev s_ro : Stmt := topS 23
theorem sc_ro : FnScope ["words", "leave", "rest", "modulus"] ["words"] (defScope s_ro) := ⟨rfl, rfl, rfl, by decide +kernel, rfl, by decide +kernel, by decide +kernel⟩
theorem at_end {ys : List V} {a b : V} : atI (ys ++ [a, b]) (-1) = some b ∧ atI (ys ++ [a, b]) (-2) = some a := by
  have l : (ys ++ [a, b]).length = ys.length + 2 := by rw [List.length_append] <;> rfl
  constructor
  · unfold atI ixN
    rw [if_neg (by decide), if_pos (by omega), l]
    show (ys ++ [a, b])[((-1 : Int) + ((ys.length + 2 : Nat) : Int)).toNat]? = _
    rw [show ((-1 : Int) + ((ys.length + 2 : Nat) : Int)).toNat = ys.length + 1 by omega, List.getElem?_append_right (by omega), show ys.length + 1 - ys.length = 1 by omega]
    rfl
  · unfold atI ixN
    rw [if_neg (by decide), if_pos (by omega), l]
    show (ys ++ [a, b])[((-2 : Int) + ((ys.length + 2 : Nat) : Int)).toNat]? = _
    rw [show ((-2 : Int) + ((ys.length + 2 : Nat) : Int)).toNat = ys.length by omega, List.getElem?_append_right (by omega), show ys.length - ys.length = 0 by omega]
    rfl
theorem iT_reads {i : Int} (h0 : 0 ≤ i) (h1 : i ≤ 400) : PySem.intText? (iT i) = some i ∧ (iT i).length ≤ 640 := by
  obtain ⟨n, rfl⟩ := Int.eq_ofNat_of_zero_le h0
  refine ⟨nT_reads (by omega), ?_⟩
  have q := (num_facts n (by omega)).2.2
  show (nT n).length ≤ 640
  rw [q]
  split <;> (try split) <;> omega
theorem words_fixed (s r m l : Int) : ∃ (ys : List V) (a : Str) (b : V), (wordsOf (.fixed s r m l)).map V.str = ys ++ [.str a, b] ∧ ((l = 0 ∧ a ≠ wLeave) ∨ (¬ l = 0 ∧ a = wLeave ∧ b = .str (iT l))) := by
  unfold wordsOf restW leaveW
  dsimp only
  by_cases e : l = 0
  · rw [if_pos e]
    by_cases f : m = 1
    · rw [if_pos f]
      exact ⟨[], wFixed, .str (iT s), rfl, .inl ⟨e, by decide +kernel⟩⟩
    · rw [if_neg f]
      exact ⟨[.str wFixed, .str (iT s), .str wRest, .str (iT r)], wOf, .str (iT m), rfl, .inl ⟨e, by decide +kernel⟩⟩
  · rw [if_neg e]
    by_cases f : m = 1
    · rw [if_pos f]
      exact ⟨[.str wFixed, .str (iT s)], wLeave, .str (iT l), rfl, .inr ⟨e, rfl, rfl⟩⟩
    · rw [if_neg f]
      exact ⟨[.str wFixed, .str (iT s), .str wRest, .str (iT r), .str wOf, .str (iT m)], wLeave, .str (iT l), rfl, .inr ⟨e, rfl, rfl⟩⟩
theorem num_in {d : RD} (wf : d.Wf) : 0 ≤ d.num ∧ d.num ≤ 400 := by
  have a := wf.n0
  refine ⟨?_, wf.n1⟩
  split at a <;> omega
theorem words_num (d : RD) : (wordsOf d)[1]? = some (iT d.num) := by cases d <;> rfl
theorem words_rest {d : RD} (wf : d.Wf) : (¬ d.mod = 1 ∧ headIs ((wordsOf d).drop 2) wRest = true ∧ (wordsOf d)[3]? = some (iT d.rest) ∧ (wordsOf d)[5]? = some (iT d.mod)) ∨ (d.mod = 1 ∧ d.rest = 0 ∧ headIs ((wordsOf d).drop 2) wRest = false) := by
  have r0 := wf.r0; have r1 := wf.r1
  cases d with
  | fixed s r m l =>
    simp only [RD.rest, RD.mod] at r0 r1
    unfold wordsOf restW
    dsimp only
    by_cases f : m = 1
    · rw [if_pos f]
      refine .inr ⟨f, by show r = 0; omega, ?_⟩
      show headIs (leaveW l) wRest = false
      unfold leaveW
      by_cases z : l = 0
      · rw [if_pos z, headIs_nil]
      · rw [if_neg z, headIs_cons, leave_rest]
    · rw [if_neg f]
      exact .inl ⟨f, by show headIs (wRest :: _) wRest = true; rw [headIs_cons]; exact decide_eq_true rfl, rfl, rfl⟩
  | down t r m =>
    simp only [RD.rest, RD.mod] at r0 r1
    unfold wordsOf restW
    dsimp only
    by_cases f : m = 1
    · rw [if_pos f]
      exact .inr ⟨f, by show r = 0; omega, headIs_nil⟩
    · rw [if_neg f]
      exact .inl ⟨f, by show headIs (wRest :: _) wRest = true; rw [headIs_cons]; exact decide_eq_true rfl, rfl, rfl⟩
theorem words_ok {d : RD} (wf : d.Wf) : ∀ z ∈ wordsOf d, PySem.PyData.strOk z = true := by
  have k0 : PySem.PyData.strOk wFixed = true := by decide +kernel
  have k1 : PySem.PyData.strOk wDown = true := by decide +kernel
  have num : ∀ {i : Int}, 0 ≤ i → PySem.PyData.strOk (iT i) = true := fun {i} h => by
    obtain ⟨n, e⟩ := iT_tl h
    unfold PySem.PyData.strOk
    rw [← Array.all_toList, List.all_eq_true]
    intro c hc
    have q := TL.numL_digits n c (by rw [← e]; exact hc)
    exact decide_eq_true (by omega)
  have a := num_in wf
  have b := wf.r0
  have c := wf.m0
  have e := wf.l0
  intro z hz
  cases d with
  | fixed s r m l =>
    simp only [RD.num, RD.rest, RD.mod, RD.leave] at a b c e
    unfold wordsOf restW leaveW at hz
    simp only [List.mem_cons, List.mem_append] at hz
    rcases hz with rfl | rfl | hz | hz
    · exact k0
    · exact num a.1
    · split at hz
      · cases hz
      · simp only [List.mem_cons, List.not_mem_nil, or_false] at hz
        rcases hz with rfl | rfl | rfl | rfl
        · exact strOk_rest
        · exact num b
        · exact strOk_of
        · exact num (by omega)
    · split at hz
      · cases hz
      · simp only [List.mem_cons, List.not_mem_nil, or_false] at hz
        rcases hz with rfl | rfl
        · exact strOk_leave
        · exact num e
  | down t r m =>
    simp only [RD.num, RD.rest, RD.mod, RD.leave] at a b c e
    unfold wordsOf restW at hz
    simp only [List.mem_cons] at hz
    rcases hz with rfl | rfl | hz
    · exact k1
    · exact num a.1
    · split at hz
      · cases hz
      · simp only [List.mem_cons, List.not_mem_nil, or_false] at hz
        rcases hz with rfl | rfl | rfl | rfl
        · exact strOk_rest
        · exact num b
        · exact strOk_of
        · exact num (by omega)
theorem ok_ro {CF CD CB f fDn fFx : Addr} {fd fdDn fdFx : FuncData} (F : Fun K "rule_of" "rule_of" s_ro f fd) (U : Blt mg) (Dn : FunDown K fDn fdDn) (G_down : FnOk P w K mg base (L2.CX P w) 5 fDn fdDn ["self", "to", "rest", "modulus"] (spDown CB CD)) (MkD : Mk K CD fDn) (gDn : mg "Down" = some (.ref CD))
    (Fx : FunFixed K fFx fdFx) (G_fixed : FnOk P w K mg base (L2.CX P w) 5 fFx fdFx pFx (spFixed CB CF)) (MkF : Mk K CF fFx) (gFx : mg "Fixed" = some (.ref CF)) : FnOk P w K mg base CX0 7 f fd ["words"] (spRuleOf CF CD) := by
  have b_dall := bd_all Dn
  have b_fall := bf_all Fx
  refine F.ok sc_ro (fun vs H Q E h => ?_) (fun cdv A outer s H vs Q E hr h => ?_)
  · obtain ⟨p, d, rfl, _⟩ := h
    rfl
  · obtain ⟨p, d, rfl, hw, wf, fin⟩ := h
    refine ⟨_, (C8.pss_cut (ps_asg (pe_ifExp (pt_cmpR (op_eqD hr.units) (pe_slice sl_list (pv 0) (po_some pe_int) (po_some pe_int)) (pe_lst (pa_cons pe_str pa_nil)) (nomark _)) (pe_tup (pa_cons (pe_callTy call_int_str rfl U.z_int (by decide +kernel) (pa_cons (pe_ix ix_list (pv 0) pe_int (fun _ _ => rfl)) pa_nil)) (pa_cons (pe_callTy call_int_str rfl U.z_int (by decide +kernel) (pa_cons (pe_ix ix_list (pv 0) pe_int (fun _ _ => rfl)) pa_nil)) pa_nil))) (pe_tup (pa_cons pe_int (pa_cons pe_int pa_nil)))) (pg_tup rfl (pgs_cons (pg_name (i := 2) sc_ro.nd rfl (Or.inl rfl)) (pgs_cons (pg_name (i := 3) sc_ro.nd rfl (Or.inl rfl)) pgs_nil))))
  (pss_cons (ps_if (pt_cmpR op_eq (pe_ix ix_list (pv 0) pe_int (fun _ _ => rfl)) pe_str (nomark _)) (pss_one (ps_ret (pe_box (pe_make MkD G_down (hr.mono (by decide)) rfl gDn b_dall .nil (passes_call LamX.takes0 (fun _ _ _ _ h => h)) (by exact (pa_cons (pe_callTy call_int_str rfl U.z_int (by decide +kernel) (pa_cons (pe_ix ix_list (pv 0) pe_int (fun _ _ => rfl)) pa_nil)) (pa_cons (pv 2) (pa_cons (pv 3) pa_nil)))))))) pss_nil)
  (C8.pss_cut (ps_set (i := 1) sc_ro.nd rfl (Or.inl rfl) (pe_ifExp (pt_cmpR op_eq (pe_ix ix_list (pv 0) (pe_un un_neg pe_int) (fun _ _ => rfl)) pe_str (nomark _)) (pe_callTy call_int_str rfl U.z_int (by decide +kernel) (pa_cons (pe_ix ix_list (pv 0) (pe_un un_neg pe_int) (fun _ _ => rfl)) pa_nil)) pe_int))
  (pss_one (ps_ret (pe_box (pe_make MkF G_fixed (hr.mono (by decide)) rfl gFx b_fall .nil (passes_call LamX.takes0 (fun _ _ _ _ h => h)) (by exact (pa_cons (pe_callTy call_int_str rfl U.z_int (by decide +kernel) (pa_cons (pe_ix ix_list (pv 0) pe_int (fun _ _ => rfl)) pa_nil)) (pa_cons (pv 2) (pa_cons (pv 3) (pa_cons (pv 1) pa_nil)))))))))))), ?_⟩
    have sz : ∀ n : Nat, n ≤ 100 → n ≤ sizeLine := fun n h => by have e : (100 : Nat) ≤ sizeLine := by { show 100 ≤ 16777216; decide }; omega
    have nn := num_in wf
    have rd := iT_reads nn.1 nn.2
    have a := wf.r0; have b := wf.r1; have c := wf.m0; have e := wf.m1
    refine ⟨fun σ' H' => σ' = [some (.ref p), none, some (.int d.rest), some (.int d.mod)] ∧ Same H H', ?_, ?_⟩
    · refine ⟨_, rfl, _, rfl, _, rfl, _, _, rfl, SqL.of hw, fun l0 hl0 => ⟨sz 1 (by decide), fun l1 hl1 => ?_⟩⟩
      have s0 := Same.new (o := .lst (cutV ((wordsOf d).map V.str) (some 2) (some 3))) hl0
      have s1 := Same.new (o := .lst [V.str "rest"]) hl1
      have m2 := s0.trans s1
      refine eq_words (xs := ((wordsOf d).drop 2).take 1) (ys := [wRest]) (by rw [← cut_two]; exact s1 _ _ upd_same) upd_same (fun z hz => words_ok wf z (List.mem_of_mem_drop (List.mem_of_mem_take hz))) (fun y hy => by rw [List.mem_singleton.mp hy]; exact strOk_rest) ⟨_, rfl, ?_⟩
      show if headIs ((wordsOf d).drop 2) wRest = true then _ else _
      rcases words_rest wf with ⟨n1, h1, w3, w5⟩ | ⟨n1, h0, h1⟩
      · rw [h1]
        obtain ⟨q1, q2⟩ := iT_reads a (show d.rest ≤ 400 by omega)
        obtain ⟨q3, q4⟩ := iT_reads (show 0 ≤ d.mod by omega) (show d.mod ≤ 400 by omega)
        refine iteT ⟨_, rfl, p, _, ((3 : Nat) : Int), _, rfl, rfl, SqL.of (hw.same m2), at_str w3, _, _, rfl, q1, q2, _, rfl, p, _, ((5 : Nat) : Int), _, rfl, rfl, SqL.of (hw.same m2), at_str w5, _, _, rfl, q3, q4, sz 2 (by decide), fun t ht => ?_⟩
        exact ⟨t, _, rfl, SqT.of upd_same, rfl, _, _, rfl, _, _, rfl, rfl, rfl, m2.trans (Same.new ht)⟩
      · rw [h1]
        refine iteF ⟨sz 2 (by decide), fun t ht => ?_⟩
        exact ⟨t, _, rfl, SqT.of upd_same, rfl, _, _, rfl, _, _, rfl, rfl, by rw [n1, h0]; rfl, m2.trans (Same.new ht)⟩
    rintro σ' H1 ⟨rfl, m1⟩
    have hw1 := hw.same m1
    have n1 : atI ((wordsOf d).map V.str) 1 = some (.str (iT d.num)) := at_str (i := 1) (words_num d)
    cases d with
    | down t r m =>
      refine ⟨_, rfl, p, _, ((0 : Nat) : Int), _, rfl, rfl, SqL.of hw1, at_str (i := 0) (z := wDown) rfl, rfl, _, rfl, ?_⟩
      rw [show decide (V.str wDown = V.str "down") = true from isDown_down]
      refine iteT ⟨_, rfl, p, _, _, _, rfl, rfl, SqL.of hw1, n1, _, _, rfl, rd.1, rd.2, _, rfl, _, rfl, fun x dx hx hdx ne => ?_⟩
      exact down_rule (CF := CF) (CD := CD) (Q := Q) wf hx hdx fun H' s r => fin H' x (m1.trans s) r
    | fixed z r m l =>
      refine ⟨_, rfl, p, _, ((0 : Nat) : Int), _, rfl, rfl, SqL.of hw1, at_str (i := 0) (z := wFixed) rfl, rfl, _, rfl, ?_⟩
      rw [show decide (V.str wFixed = V.str "down") = false from isDown_fixed]
      refine iteF ?_
      obtain ⟨ys, x1, x2, ew, how⟩ := words_fixed z r m l
      have l0 := wf.l0; have l1 := wf.l1
      simp only [RD.leave] at l0 l1
      refine ⟨fun σ' H' => σ' = [some (.ref p), some (.int l), some (.int r), some (.int m)] ∧ Same H H', ?_, ?_⟩
      · refine ⟨_, rfl, _, rfl, p, _, _, _, rfl, rfl, SqL.of hw1, by rw [ew]; exact at_end.2, rfl, _, rfl, ?_⟩
        show if decide (V.str x1 = V.str wLeave) = true then _ else _
        rcases how with ⟨e1, e2⟩ | ⟨e1, e2, e3⟩
        · rw [decide_eq_false (fun y => e2 (V.str.inj y))]
          exact iteF ⟨by rw [e1]; rfl, m1⟩
        · rw [e2, decide_eq_true rfl]
          obtain ⟨q1, q2⟩ := iT_reads l0 l1
          exact iteT ⟨_, rfl, _, rfl, p, _, _, _, rfl, rfl, SqL.of hw1, by rw [ew, e3]; exact at_end.1, _, _, rfl, q1, q2, rfl, m1⟩
      rintro σ' H2 ⟨rfl, m2⟩
      refine ⟨_, rfl, p, _, _, _, rfl, rfl, SqL.of (hw.same m2), n1, _, _, rfl, rd.1, rd.2, _, rfl, _, rfl, _, rfl, fun x dx hx hdx ne => ?_⟩
      exact fixed_rule (CF := CF) (CD := CD) (Q := Q) wf hx hdx fun H' s r => fin H' x (m2.trans s) r
end
end Fz
set_option Elab.async false
set_option linter.all false
set_option maxRecDepth 100000
set_option maxHeartbeats 2000000
namespace Fz
open PySem PySem.Spec PyProof.Rows L2
/-- one step of a reading -/
local macro_rules | `(tactic| walk_at "st") => `(tactic| first
  | refine ⟨_, rfl, ?_⟩
  | refine Or.inl ⟨_, rfl, ?_⟩
  | refine Or.inr ⟨_, rfl, ?_⟩
  | refine ⟨_, _, _, _, rfl, rfl, SqL.of (by first | assumption | exact upd_same), rfl, ?_⟩
  | refine ⟨_, _, _, _, rfl, rfl, (by first | assumption | exact upd_same), rfl, ?_⟩
  | refine ⟨_, _, rfl, .inl ⟨_, SqL.of (by first | assumption | exact upd_same), rfl⟩, ?_⟩
  | refine ⟨_, _, rfl, rfl, (show (0 : Int) < _ by first | decide | omega), ?_⟩
  | refine ⟨_, _, rfl, rfl, (show (0 : Int) < _ ∧ _ < _ by first | exact ⟨by decide, by decide⟩ | omega), ?_⟩
  | refine ⟨_, _, rfl, rfl, (show (_ < _ ∧ _ < _) ∨ (_ < _ ∧ _ < _) by first | exact .inl ⟨by decide, by decide⟩ | omega), ?_⟩
  | refine ⟨_, _, rfl, rfl, (show (0 : Int) ≤ _ ∧ _ ≤ _ ∧ _ < _ by first | exact ⟨by decide, by decide, by decide⟩ | exact ⟨by decide, by decide, by omega⟩), ?_⟩
  | refine ⟨_, _, rfl, rfl, ?_⟩)

section
variable {P : Program} {w : World} {K : PySem.W.Frag} {mg : Str → Option Value} {base : Heap}

abbrev s_bt : Stmt := inClass (topS 4) 0
theorem sc_bt : FnScope ["self", "line", "word"] ["self", "line", "word"] (defScope s_bt) := ⟨rfl, rfl, rfl, by decide +kernel, rfl, by decide +kernel, by decide +kernel⟩
theorem ok_bt {f C : Addr} {fd : FuncData} (F : Fun K "__init__" "BadText.__init__" s_bt f fd) (T : PrgT K mg C f) : FnOk P w K mg base CX0 1 f fd ["self", "line", "word"] (spBadT C) := by
  refine F.ok sc_bt (fun vs H Q E h => ?_) (fun cdv A outer s H vs Q E hr h => ?_)
  · obtain ⟨a, x, y, rfl, _⟩ := h
    rfl
  · obtain ⟨a, x, y, rfl, ha, k⟩ := h
    refine ⟨_, (pss_cons (ps_ost (pv 0) (pv 1))
  (pss_one (ps_ost (pv 0) (pv 2)))), ?_⟩
    exact ⟨_, rfl, _, rfl, a, C, rfl, T.oB, T.nL, .inl ⟨ha, fun d n ne => ⟨_, rfl, _, rfl, a, C, rfl, T.oB, T.nW, .inr ⟨d, [("line", x)], upd_same, by rw [upd_ne ne, upd_same], by show 1 ≤ 900; decide, k d n ne⟩⟩⟩⟩
abbrev s_read : Stmt := inClass (topS 12) 2
theorem sc_read : FnScope ["cls", "text", "words", "wrong"] ["cls", "text"] (defScope s_read) := ⟨rfl, rfl, rfl, by decide +kernel, rfl, by decide +kernel, by decide +kernel⟩
/-- no class of rules is below str -/
structure NoStr (K : PySem.W.Frag) (CF CD : Addr) : Prop where
  kF : PySem.W.kitOne K (.ref CF) (.type "str") = some false
  kD : PySem.W.kitOne K (.ref CD) (.type "str") = some false
theorem NoText.ty {CF CD : Addr} {H : Hp} {v : V} (P : PrgQ K CF CD) (N : NoStr K CF CD) (h : NoText CF CD H v) : ∃ t, TyX K H v t ∧ PySem.W.kitOne K t (.type "str") = some false := by
  rcases h with rfl | ⟨b, rfl⟩ | ⟨i, rfl⟩ | ⟨a, xs, rfl, h⟩ | ⟨a, xs, rfl, h⟩ | ⟨a, rfl, h⟩ | ⟨x, d, rfl, dx, h⟩
  · exact ⟨_, .base .non, kit_ty (show kitB "NoneType" "str" = some false by decide +kernel)⟩
  · exact ⟨_, .base (.bl b), kit_ty (show kitB "bool" "str" = some false by decide +kernel)⟩
  · exact ⟨_, .base (.int i), kit_ty (show kitB "int" "str" = some false by decide +kernel)⟩
  · exact ⟨_, .base (.lst h), kit_ty (show kitB "list" "str" = some false by decide +kernel)⟩
  · exact ⟨_, .base (.tup h), kit_ty (show kitB "tuple" "str" = some false by decide +kernel)⟩
  · exact ⟨_, .base (.dK h), kit_ty (show kitB "dict" "str" = some false by decide +kernel)⟩
  · cases d with
    | fixed s r m l => exact ⟨_, P.tyF.ty P.icF.cl h, N.kF⟩
    | down t r m => exact ⟨_, P.tyD.ty P.icD.cl h, N.kD⟩
theorem ok_read {CF CD CT f fWw fRo fBt : Addr} {fd fdWw fdRo fdBt : FuncData} (F : Fun K "read" "Rule.read" s_read f fd) (U : Blt mg) (PQ : PrgQ K CF CD) (NS : NoStr K CF CD) (PT : PrgT K mg CT fBt) (Bt : Fun K "__init__" "BadText.__init__" s_bt fBt fdBt) (b_bt : L2.Binds K fdBt ["self", "line", "word"] [])
    (Ww : Fun K "wrong_word" "wrong_word" s_ww fWw fdWw) (gWw : mg "wrong_word" = some (.ref fWw)) (b_ww : L2.Binds K fdWw ["words"] []) (G_ww : FnOk P w K mg base CX0 4 fWw fdWw ["words"] spWrong)
    (Ro : Fun K "rule_of" "rule_of" s_ro fRo fdRo) (gRo : mg "rule_of" = some (.ref fRo)) (b_ro : L2.Binds K fdRo ["words"] []) (G_ro : FnOk P w K mg base CX0 7 fRo fdRo ["words"] (spRuleOf CF CD)) : FnOk P w K mg base (L2.CX P w) 8 f fd ["cls", "text"] (spRead CT CF CD) := by
  have G_bt : FnOk P w K mg base CX0 1 fBt fdBt ["self", "line", "word"] (spBadT CT) := ok_bt Bt PT
  refine F.okX sc_read (fun vs H Q E h => ?_) (fun cdv A outer s H vs Q E hr h => ?_)
  · obtain ⟨C, v, rfl, _⟩ := h
    rfl
  · obtain ⟨C, v, rfl, h⟩ := h
    refine ⟨_, (pss_cons (ps_if (pt_not (pt_val (pe_callB call_isi rfl U.z_isinstance (by decide +kernel) (pa_cons (pv 1) (pa_cons (pe_bltn (v := .ty "str") rfl U.z_str (by decide +kernel) rfl) pa_nil))))) (pss_one (ps_raise rfl (takes_of rfl rfl rfl rfl) (pmk_oex PT.oB PT.iB PT.tB G_bt (hr.mono (by decide)) b_bt .nil pass0 rfl PT.g_ (by exact (pa_cons pe_int (pa_cons pe_int pa_nil)))))) pss_nil)
  (pss_cons (ps_set (i := 2) sc_read.nd rfl (Or.inl rfl) (pe_split (pv 1) pe_str))
  (pss_cons (ps_set (i := 3) sc_read.nd rfl (Or.inl rfl) (pe_call G_ww (hr.mono (by decide)) rfl gWw Ww.kp b_ww .nil pass0 (by exact (pa_cons (pv 2) pa_nil))))
  (pss_cons (ps_if (pt_cmpR op_notN (pv 3) pe_non (nomark _)) (pss_one (ps_raise rfl (takes_of rfl rfl rfl rfl) (pmk_oex PT.oB PT.iB PT.tB G_bt (hr.mono (by decide)) b_bt .nil pass0 rfl PT.g_ (by exact (pa_cons pe_int (pa_cons (pv 3) pa_nil)))))) pss_nil)
  (pss_one (ps_ret (pe_call G_ro (hr.mono (by decide)) rfl gRo Ro.kp b_ro .nil pass0 (by exact (pa_cons (pv 2) pa_nil))))))))), ?_⟩
    rcases h with ⟨nt, bad⟩ | ⟨z, rfl, pl, bad, fin⟩
    · obtain ⟨t, ty, k⟩ := nt.ty PQ NS
      refine ⟨_, rfl, _, _, _, _, _, rfl, .ty "str", ty, k, _, rfl, iteT ?_⟩
      exact badt_made (W := fun cls d _ H => E cls d H) (fun _ h => h) (bad H (fun _ _ z => z)) fun _ _ _ z => z
    · refine ⟨_, rfl, _, _, _, _, _, rfl, .ty "str", .base (.str z), kit_ty (show kitB "str" "str" = some true by decide +kernel), _, rfl, iteF ?_⟩
      have ln := pl.len
      have big : (100000 : Nat) ≤ sizeLine := by show 100000 ≤ 16777216; decide
      refine ⟨_, rfl, ⟨_, rfl⟩, z, _, rfl, rfl, (by decide +kernel), by omega, fun p hp => ?_⟩
      have s1 := Same.new (o := .lst ((Txt.split z sp1).map V.str)) hp
      refine ⟨_, rfl, p, Txt.split z sp1, rfl, upd_same, split_ne z, pl.ws, fun H2 m2 => ?_⟩
      refine ⟨_, rfl, rfl, _, rfl, ?_⟩
      cases e : wrongL (Txt.split z sp1) with
      | some k =>
        refine iteT ?_
        exact badt_made (W := fun cls d _ H => E cls d H) (fun _ h => ⟨_, rfl, h⟩) (bad k e _ (s1.trans m2)) fun _ _ _ z => z
      | none =>
        refine iteF ?_
        obtain ⟨d, wf, ed⟩ := wrong_is e
        refine ⟨_, rfl, p, d, rfl, ?_, wf, fun H' x s r => fin d wf (text_of_split ed) e H' x ((s1.trans m2).trans s) r⟩
        rw [← ed]
        exact m2 _ _ upd_same
end
end Fz
set_option Elab.async false
set_option linter.all false
set_option maxRecDepth 100000
set_option maxHeartbeats 2000000
namespace Fz
open PySem PySem.Spec PyProof.Rows L2
/-- one step of a reading -/
local macro_rules | `(tactic| walk_at "st") => `(tactic| first
  | refine ⟨_, rfl, ?_⟩
  | refine Or.inl ⟨_, rfl, ?_⟩
  | refine Or.inr ⟨_, rfl, ?_⟩
  | refine ⟨_, _, _, _, rfl, rfl, SqL.of (by first | assumption | exact upd_same), rfl, ?_⟩
  | refine ⟨_, _, _, _, rfl, rfl, (by first | assumption | exact upd_same), rfl, ?_⟩
  | refine ⟨_, _, rfl, .inl ⟨_, SqL.of (by first | assumption | exact upd_same), rfl⟩, ?_⟩
  | refine ⟨_, _, rfl, rfl, (show (0 : Int) < _ by first | decide | omega), ?_⟩
  | refine ⟨_, _, rfl, rfl, (show (0 : Int) < _ ∧ _ < _ by first | exact ⟨by decide, by decide⟩ | omega), ?_⟩
  | refine ⟨_, _, rfl, rfl, (show (_ < _ ∧ _ < _) ∨ (_ < _ ∧ _ < _) by first | exact .inl ⟨by decide, by decide⟩ | omega), ?_⟩
  | refine ⟨_, _, rfl, rfl, (show (0 : Int) ≤ _ ∧ _ ≤ _ ∧ _ < _ by first | exact ⟨by decide, by decide, by decide⟩ | exact ⟨by decide, by decide, by omega⟩), ?_⟩
  | refine ⟨_, _, rfl, rfl, ?_⟩)

section
variable {P : Program} {w : World} {K : PySem.W.Frag} {mg : Str → Option Value} {base : Heap}

abbrev s_line : Stmt := topS 30
theorem sc_line : FnScope ["_law_parts_here", "_law_line_here"] ["_law_parts_here"] (defScope s_line) := ⟨rfl, rfl, rfl, by decide +kernel, rfl, by decide +kernel, by decide +kernel⟩
def spLine : Sp := fun vs H Q _ => ∃ (tp : Addr) (d : RD), vs = [.ref tp] ∧ H tp = some (.tup d.tup) ∧ d.Wf ∧ Q (.str d.text) H
def lineA (d : RD) : Str := (d.kind ++ (" " : Str)) ++ iT d.num
def lineB (d : RD) : Str := if d.mod > 1 then (((lineA d ++ (" rest " : Str)) ++ iT d.rest) ++ (" of " : Str)) ++ iT d.mod else lineA d
def lineC (d : RD) : Str := if d.leave > 0 then (lineB d ++ (" leave " : Str)) ++ iT d.leave else lineB d
theorem tl_e (z : Str) : TL.tl (Str.empty ++ z) = TL.tl z := by
  rw [TL.tl_append, show TL.tl Str.empty = [] from rfl, List.nil_append]
theorem line_text {d : RD} (wf : d.Wf) : lineC d = d.text := by
  apply TL.ext_tl
  have m0 := wf.m0
  have l0 := wf.l0
  have kf : TL.tl (wFixed ++ (" " : Str)) = TL.tl (Str.empty ++ ("fixed " : Str)) := by decide +kernel
  have kd : TL.tl (wDown ++ (" " : Str)) = TL.tl (Str.empty ++ ("down " : Str)) := by decide +kernel
  have rT : ∀ (r m : Int), 1 ≤ m → TL.tl (restT r m) = (if m > 1 then TL.tl (" rest " : Str) ++ (TL.tl (iT r) ++ (TL.tl (" of " : Str) ++ TL.tl (iT m))) else []) := fun r m h => by
    unfold restT
    by_cases e : m = 1
    · rw [if_pos e, if_neg (by omega)]
      exact tl_none
    · rw [if_neg e, if_pos (by omega), TL.tl_append, TL.tl_append, TL.tl_append, tl_e, List.append_assoc, List.append_assoc]
      rfl
  have lT : ∀ l : Int, 0 ≤ l → TL.tl (leaveT l) = (if l > 0 then TL.tl (" leave " : Str) ++ TL.tl (iT l) else []) := fun l h => by
    unfold leaveT
    by_cases e : l = 0
    · rw [if_pos e, if_neg (by omega)]
      exact tl_none
    · rw [if_neg e, if_pos (by omega), TL.tl_append, tl_e]
      rfl
  cases d with
  | fixed s r m l =>
    simp only [RD.mod, RD.leave] at m0 l0
    show TL.tl (lineC (.fixed s r m l)) = TL.tl ((((Str.empty ++ ("fixed " : Str)) ++ (toString s : Str)) ++ restT r m) ++ leaveT l)
    rw [TL.tl_append (((Str.empty ++ ("fixed " : Str)) ++ (toString s : Str)) ++ restT r m), TL.tl_append ((Str.empty ++ ("fixed " : Str)) ++ (toString s : Str)), TL.tl_append (Str.empty ++ ("fixed " : Str)), rT r m m0, lT l l0, ← kf]
    have eB : TL.tl (lineB (.fixed s r m l)) = (TL.tl (wFixed ++ (" " : Str)) ++ TL.tl (iT s)) ++ (if m > 1 then TL.tl (" rest " : Str) ++ (TL.tl (iT r) ++ (TL.tl (" of " : Str) ++ TL.tl (iT m))) else []) := by
      unfold lineB
      show TL.tl (if m > 1 then _ else _) = _
      by_cases e : m > 1
      · rw [if_pos e, if_pos e, TL.tl_append, TL.tl_append, TL.tl_append, TL.tl_append, List.append_assoc, List.append_assoc, List.append_assoc]
        show TL.tl ((wFixed ++ (" " : Str)) ++ iT s) ++ _ = _
        rw [TL.tl_append] <;> rfl
      · rw [if_neg e, if_neg e, List.append_nil]
        show TL.tl ((wFixed ++ (" " : Str)) ++ iT s) = _
        rw [TL.tl_append]
    unfold lineC
    show TL.tl (if l > 0 then _ else _) = _
    by_cases e : l > 0
    · rw [if_pos e, if_pos e, TL.tl_append, TL.tl_append, eB, List.append_assoc] <;> rfl
    · rw [if_neg e, if_neg e, List.append_nil, eB] <;> rfl
  | down t r m =>
    simp only [RD.mod] at m0
    show TL.tl (lineC (.down t r m)) = TL.tl (((Str.empty ++ ("down " : Str)) ++ (toString t : Str)) ++ restT r m)
    rw [TL.tl_append ((Str.empty ++ ("down " : Str)) ++ (toString t : Str)), TL.tl_append (Str.empty ++ ("down " : Str)), rT r m m0, ← kd]
    unfold lineC
    show TL.tl (if (0 : Int) > 0 then _ else _) = _
    rw [if_neg (by decide)]
    unfold lineB
    show TL.tl (if m > 1 then _ else _) = _
    by_cases e : m > 1
    · rw [if_pos e, if_pos e, TL.tl_append, TL.tl_append, TL.tl_append, TL.tl_append, List.append_assoc, List.append_assoc, List.append_assoc]
      show TL.tl ((wDown ++ (" " : Str)) ++ iT t) ++ _ = _
      rw [TL.tl_append] <;> rfl
    · rw [if_neg e, if_neg e, List.append_nil]
      show TL.tl ((wDown ++ (" " : Str)) ++ iT t) = _
      rw [TL.tl_append] <;> rfl
theorem lineA_len {d : RD} (wf : d.Wf) : d.kind.length ≤ 5 ∧ (lineA d).length ≤ 20 := by
  have n := num_in wf
  have a := num_short n.1 n.2
  have k : d.kind.length ≤ 5 := by
    unfold RD.kind
    split
    · decide +kernel
    · decide +kernel
  refine ⟨k, ?_⟩
  unfold lineA
  rw [strLen_append, strLen_append]
  have c1 : (" " : Str).length = 1 := by decide +kernel
  have a2 : (iT d.num).length ≤ 10 := a
  omega
theorem lineB_len {d : RD} (wf : d.Wf) : (lineB d).length ≤ 60 := by
  have h := (lineA_len wf).2
  have a : (iT d.rest).length ≤ 10 := num_short wf.r0 (by have := wf.r1; have := wf.m1; omega)
  have b : (iT d.mod).length ≤ 10 := num_short (by have := wf.m0; omega) (by have := wf.m1; omega)
  have c1 : (" rest " : Str).length = 6 := by decide +kernel
  have c2 : (" of " : Str).length = 4 := by decide +kernel
  unfold lineB
  split
  · rw [strLen_append, strLen_append, strLen_append, strLen_append]
    omega
  · omega
theorem ok_line {f : Addr} {fd : FuncData} (F : Fun K "_law_line" "_law_line" s_line f fd) (U : Blt mg) : FnOk P w K mg base CX0 1 f fd ["_law_parts_here"] spLine := by
  refine F.ok sc_line (fun vs H Q E h => ?_) (fun cdv A outer s H vs Q E hr h => ?_)
  · obtain ⟨tp, d, rfl, _⟩ := h
    rfl
  · obtain ⟨tp, d, rfl, ht, wf, fin⟩ := h
    refine ⟨_, (pss_cons (ps_set (i := 1) sc_line.nd rfl (Or.inl rfl) (pe_op op_add_str (pe_op op_add_str (pe_ix ix_tup (pv 0) pe_int (fun _ _ => rfl)) pe_str) (pe_callTy call_str_int rfl U.z_str (by decide +kernel) (pa_cons (pe_ix ix_tup (pv 0) pe_int (fun _ _ => rfl)) pa_nil))))
  (C8.pss_cut (ps_if (pt_cmpR op_gt (pe_ix ix_tup (pv 0) pe_int (fun _ _ => rfl)) pe_int (nomark _)) (pss_one (ps_set (i := 1) sc_line.nd rfl (Or.inl rfl) (pe_op op_add_str (pe_op op_add_str (pe_op op_add_str (pe_op op_add_str (pv 1) pe_str) (pe_callTy call_str_int rfl U.z_str (by decide +kernel) (pa_cons (pe_ix ix_tup (pv 0) pe_int (fun _ _ => rfl)) pa_nil))) pe_str) (pe_callTy call_str_int rfl U.z_str (by decide +kernel) (pa_cons (pe_ix ix_tup (pv 0) pe_int (fun _ _ => rfl)) pa_nil))))) pss_nil)
  (pss_one (ps_ret (pe_ifExp (pt_cmpR op_gt (pe_ix ix_tup (pv 0) pe_int (fun _ _ => rfl)) pe_int (nomark _)) (pe_op op_add_str (pe_op op_add_str (pv 1) pe_str) (pe_callTy call_str_int rfl U.z_str (by decide +kernel) (pa_cons (pe_ix ix_tup (pv 0) pe_int (fun _ _ => rfl)) pa_nil))) (pv 1)))))), ?_⟩
    rw [← line_text wf] at fin
    have n := num_in wf
    have r0 := wf.r0; have r1 := wf.r1; have m0 := wf.m0; have m1 := wf.m1; have l0 := wf.l0; have l1 := wf.l1
    have big : (200 : Nat) ≤ sizeLine := by show 200 ≤ 16777216; decide
    have kA := lineA_len wf
    have kB := lineB_len wf
    have kn : (iT d.num).length ≤ 10 := num_short n.1 n.2
    have kr : (iT d.rest).length ≤ 10 := num_short r0 (by omega)
    have km : (iT d.mod).length ≤ 10 := num_short (by omega) (by omega)
    have kl : (iT d.leave).length ≤ 10 := num_short l0 l1
    have c0 : (" " : Str).length = 1 := by decide +kernel
    have c1 : (" rest " : Str).length = 6 := by decide +kernel
    have c2 : (" of " : Str).length = 4 := by decide +kernel
    have c3 : (" leave " : Str).length = 7 := by decide +kernel
    have kd : (d.kind ++ (" " : Str)).length ≤ 6 := by rw [strLen_append, c0]; omega
    refine ⟨_, rfl, tp, _, _, _, rfl, rfl, SqT.of ht, rfl, _, _, rfl, rfl, by omega, _, rfl, tp, _, _, _, rfl, rfl, SqT.of ht, rfl, _, rfl, num_log n.1 n.2, _, _, rfl, rfl, by show (d.kind ++ (" " : Str)).length + (iT d.num).length ≤ sizeLine; omega, ?_⟩
    refine ⟨fun σ' H' => σ' = [some (.ref tp), some (.str (lineB d))] ∧ H' = H, ?_, ?_⟩
    · refine ⟨_, rfl, tp, _, _, _, rfl, rfl, SqT.of ht, rfl, _, _, rfl, rfl, _, rfl, ?_⟩
      refine ite2 (fun c => ?_) (fun c => ?_)
      · have c4 : d.mod > 1 := of_decide_eq_true c
        have eB : lineB d = (((lineA d ++ (" rest " : Str)) ++ iT d.rest) ++ (" of " : Str)) ++ iT d.mod := by unfold lineB; rw [if_pos c4]
        rw [eB, strLen_append, strLen_append, strLen_append, strLen_append] at kB
        refine ⟨_, rfl, _, _, rfl, rfl, by show (lineA d).length + _ ≤ _; omega, _, rfl, tp, _, _, _, rfl, rfl, SqT.of ht, rfl, _, rfl, num_log r0 (by omega), _, _, rfl, rfl, by show (lineA d ++ (" rest " : Str)).length + (iT d.rest).length ≤ sizeLine; rw [strLen_append]; omega, _, _, rfl, rfl, by show ((lineA d ++ (" rest " : Str)) ++ iT d.rest).length + _ ≤ sizeLine; rw [strLen_append, strLen_append]; omega, _, rfl, tp, _, _, _, rfl, rfl, SqT.of ht, rfl, _, rfl, num_log (by omega) (by omega), _, _, rfl, rfl, by show (((lineA d ++ (" rest " : Str)) ++ iT d.rest) ++ (" of " : Str)).length + (iT d.mod).length ≤ sizeLine; rw [strLen_append, strLen_append, strLen_append]; omega, ?_⟩
        exact ⟨by rw [eB]; rfl, rfl⟩
      · have c4 : ¬ d.mod > 1 := fun y => c (decide_eq_true y)
        have eB : lineB d = lineA d := by unfold lineB; rw [if_neg c4]
        exact ⟨by rw [eB]; rfl, rfl⟩
    rintro σ' H' ⟨rfl, rfl⟩
    refine ⟨_, rfl, tp, _, _, _, rfl, rfl, SqT.of ht, rfl, _, _, rfl, rfl, _, rfl, ?_⟩
    refine ite2 (fun c => ?_) (fun c => ?_)
    · have c4 : d.leave > 0 := of_decide_eq_true c
      have eC : lineC d = (lineB d ++ (" leave " : Str)) ++ iT d.leave := by unfold lineC; rw [if_pos c4]
      rw [eC] at fin
      exact ⟨_, rfl, _, _, rfl, rfl, by omega, _, rfl, tp, _, _, _, rfl, rfl, SqT.of ht, rfl, _, rfl, num_log l0 l1, _, _, rfl, rfl, by show (lineB d ++ (" leave " : Str)).length + (iT d.leave).length ≤ sizeLine; rw [strLen_append]; omega, fin⟩
    · have c4 : ¬ d.leave > 0 := fun y => c (decide_eq_true y)
      have eC : lineC d = lineB d := by unfold lineC; rw [if_neg c4]
      rw [eC] at fin
      exact ⟨_, rfl, fin⟩
end
end Fz
set_option Elab.async false
set_option linter.all false
set_option maxRecDepth 100000
set_option maxHeartbeats 2000000
namespace Fz
open PySem PySem.Spec PyProof.Rows L2
/-- one step of a reading -/
local macro_rules | `(tactic| walk_at "st") => `(tactic| first
  | refine ⟨_, rfl, ?_⟩
  | refine Or.inl ⟨_, rfl, ?_⟩
  | refine Or.inr ⟨_, rfl, ?_⟩
  | refine ⟨_, _, _, _, rfl, rfl, SqL.of (by first | assumption | exact upd_same), rfl, ?_⟩
  | refine ⟨_, _, _, _, rfl, rfl, (by first | assumption | exact upd_same), rfl, ?_⟩
  | refine ⟨_, _, rfl, .inl ⟨_, SqL.of (by first | assumption | exact upd_same), rfl⟩, ?_⟩
  | refine ⟨_, _, rfl, rfl, (show (0 : Int) < _ by first | decide | omega), ?_⟩
  | refine ⟨_, _, rfl, rfl, (show (0 : Int) < _ ∧ _ < _ by first | exact ⟨by decide, by decide⟩ | omega), ?_⟩
  | refine ⟨_, _, rfl, rfl, (show (_ < _ ∧ _ < _) ∨ (_ < _ ∧ _ < _) by first | exact .inl ⟨by decide, by decide⟩ | omega), ?_⟩
  | refine ⟨_, _, rfl, rfl, (show (0 : Int) ≤ _ ∧ _ ≤ _ ∧ _ < _ by first | exact ⟨by decide, by decide, by decide⟩ | exact ⟨by decide, by decide, by omega⟩), ?_⟩
  | refine ⟨_, _, rfl, rfl, ?_⟩)

section
variable {P : Program} {w : World} {K : PySem.W.Frag} {mg : Str → Option Value} {base : Heap}

abbrev s_isn : Stmt := topS 31
theorem sc_isn : FnScope ["_law_term", "_law_least", "_law_most", "_law_number"] ["_law_term", "_law_least", "_law_most"] (defScope s_isn) := ⟨rfl, rfl, rfl, by decide +kernel, rfl, by decide +kernel, by decide +kernel⟩
def spIsNum : Sp := fun vs H Q _ => ∃ (z : Str) (lo hi : Int), vs = [.str z, .int lo, .int hi] ∧ 0 ≤ lo ∧ lo ≤ 401 ∧ 0 ≤ hi ∧ hi ≤ 400 ∧ ∀ H', Same H H' → Q (.bl (numOf z lo hi).isSome) H'
def numWords (lo : Int) (n : Nat) : List Str := (List.range n).map fun k => iT (lo + (k : Nat))
theorem numWords_mem {z : Str} {lo hi : Int} (h0 : 0 ≤ lo) (h1 : hi ≤ 400) : decide (z ∈ numWords lo (hi + 1 - lo).toNat) = (numOf z lo hi).isSome := by
  have q := numOf_mem (z := z) h0 h1
  cases e : (numOf z lo hi).isSome with
  | true =>
    obtain ⟨i, a, b, rfl⟩ := q.mp e
    refine decide_eq_true ?_
    unfold numWords
    refine List.mem_map.mpr ⟨(i - lo).toNat, List.mem_range.mpr (by omega), ?_⟩
    rw [show lo + (((i - lo).toNat : Nat) : Int) = i by omega]
  | false =>
    refine decide_eq_false fun h => ?_
    unfold numWords at h
    obtain ⟨k, hk, rfl⟩ := List.mem_map.mp h
    have hk2 := List.mem_range.mp hk
    have y := q.mpr ⟨lo + (k : Nat), by omega, by omega, rfl⟩
    rw [e] at y
    cases y
theorem ok_isn {f : Addr} {fd : FuncData} (F : Fun K "_law_is_number" "_law_is_number" s_isn f fd) (U : Blt mg) : FnOk P w K mg base CX0 1 f fd ["_law_term", "_law_least", "_law_most"] spIsNum := by
  refine F.ok sc_isn (fun vs H Q E h => ?_) (fun cdv A outer s H vs Q E hr h => ?_)
  · obtain ⟨z, lo, hi, rfl, _⟩ := h
    rfl
  · obtain ⟨z, lo, hi, rfl, l0, l1, h0, h1, fin⟩ := h
    refine ⟨_, (pss_one (ps_ret (pe_cmpR op_in_seq (pv 0) (pe_lc (own := [("_law_number", 3)]) rfl sc_isn.nd (pi_range2 rfl U.z_range (by exact (pa_cons (pv 1) (pa_cons (pe_op op_add (pv 2) pe_int) pa_nil)))) (blkOk_by (by kernel_rfl)) (fun s_ H_ C_ cl_ fp_ => (pg_name (i := 3) sc_isn.nd rfl (Or.inl rfl))) (fun s_ H_ C_ cl_ fp_ => pts_nil) (fun s_ H_ C_ cl_ fp_ => (pe_callTy call_str_int rfl U.z_str (by decide +kernel) (pa_cons (pv 3) pa_nil)))) (by rfl)))), ?_⟩
    have big : (10000 : Nat) ≤ sizeLine := by show 10000 ≤ 16777216; decide
    refine ⟨_, rfl, _, rfl, _, rfl, _, _, rfl, rfl, lo, hi + 1, rfl, ⟨by omega, by omega, by omega, by omega⟩, fun D hD => ?_⟩
    refine lc_range (fun i H' => Same H H' ∧ H' D = some (.lst ((numWords lo i).map V.str))) ⟨Same.new hD, upd_same⟩ (fun i H' hi2 q => ?_) (fun H' q => ?_)
    · obtain ⟨s1, hd⟩ := q
      have ln : (numWords lo i).length = i := by unfold numWords; rw [List.length_map, List.length_range]
      refine ⟨rfl, ?_⟩
      refine iteT (B := Same H H' ∧ H' D = some (.lst ((numWords lo (i + 1)).map V.str))) ?_
      refine ⟨_, rfl, _, rfl, num_log (by omega) (by omega), _, hd, by rw [List.length_map, ln]; omega, ?_, ?_⟩
      · intro b o e
        rw [upd_ne (ne_of_none e hD)]
        exact s1 b o e
      · rw [upd_same]
        have e : (numWords lo (i + 1)).map V.str = (numWords lo i).map V.str ++ [.str (iT (lo + (i : Nat)))] := by
          unfold numWords
          rw [List.range_succ, List.map_append, List.map_append]
          rfl
        rw [e]
        rfl
    · obtain ⟨s1, hd⟩ := q
      refine ⟨D, _, rfl, .inl (SqL.of hd), rfl, flat_strs _, ?_⟩
      rw [if_neg Bool.false_ne_true, inV_strs, numWords_mem l0 h1]
      exact fin _ s1
end
end Fz
set_option Elab.async false
set_option linter.all false
set_option maxRecDepth 100000
set_option maxHeartbeats 2000000
namespace Fz
open PySem PySem.Spec PyProof.Rows L2
/-- one step of a reading -/
local macro_rules | `(tactic| walk_at "st") => `(tactic| first
  | refine ⟨_, rfl, ?_⟩
  | refine Or.inl ⟨_, rfl, ?_⟩
  | refine Or.inr ⟨_, rfl, ?_⟩
  | refine ⟨_, _, _, _, rfl, rfl, SqL.of (by first | assumption | exact upd_same), rfl, ?_⟩
  | refine ⟨_, _, _, _, rfl, rfl, (by first | assumption | exact upd_same), rfl, ?_⟩
  | refine ⟨_, _, rfl, .inl ⟨_, SqL.of (by first | assumption | exact upd_same), rfl⟩, ?_⟩
  | refine ⟨_, _, rfl, rfl, (show (0 : Int) < _ by first | decide | omega), ?_⟩
  | refine ⟨_, _, rfl, rfl, (show (0 : Int) < _ ∧ _ < _ by first | exact ⟨by decide, by decide⟩ | omega), ?_⟩
  | refine ⟨_, _, rfl, rfl, (show (_ < _ ∧ _ < _) ∨ (_ < _ ∧ _ < _) by first | exact .inl ⟨by decide, by decide⟩ | omega), ?_⟩
  | refine ⟨_, _, rfl, rfl, (show (0 : Int) ≤ _ ∧ _ ≤ _ ∧ _ < _ by first | exact ⟨by decide, by decide, by decide⟩ | exact ⟨by decide, by decide, by omega⟩), ?_⟩
  | refine ⟨_, _, rfl, rfl, ?_⟩)

section
variable {P : Program} {w : World} {K : PySem.W.Frag} {mg : Str → Option Value} {base : Heap}

abbrev s_wrong : Stmt := topS 32
theorem sc_wrong : FnScope ["_law_terms", "_law_spot"] ["_law_terms"] (defScope s_wrong) := ⟨rfl, rfl, rfl, by decide +kernel, rfl, by decide +kernel, by decide +kernel⟩
def spWrongL : Sp := fun vs H Q _ => ∃ (p : Addr) (ws : List Str), vs = [.ref p] ∧ WordsAt H p ws ∧ ws ≠ [] ∧ WsOk ws ∧ ∀ H', Same H H' → Q (optN (wrongL ws)) H'
theorem ne_words {K : PySem.W.Frag} {H : Hp} {Q : VK} {a b : Addr} {xs ys : List Str} (ha : H a = some (.lst (xs.map V.str))) (hb : H b = some (.lst (ys.map V.str))) (ox : ∀ z ∈ xs, PySem.PyData.strOk z = true) (oy : ∀ z ∈ ys, PySem.PyData.strOk z = true) (fin : Q (.bl (!decide (xs = ys))) H) : rNeD K (.ref a) (.ref b) H Q := by
  refine ⟨.list (xs.map PyData.str), .list (ys.map PyData.str), Dp.lst (SqL.of ha) (dp_strs xs), Dp.lst (SqL.of hb) (dp_strs ys), shaped_strs ox, shaped_strs oy, ?_⟩
  rw [show PyData.eqv (.list (xs.map PyData.str)) (.list (ys.map PyData.str)) = PyData.eqvAll (xs.map PyData.str) (ys.map PyData.str) from by simp [PyData.eqv], eqv_strs]
  exact fin
theorem cut_four (ws : List Str) : cutV (ws.map V.str) (some 4) (some 5) = ((ws.drop 4).take 1).map V.str := cut_strs ws 4 5
theorem ok_wrong {f fIn : Addr} {fd fdIn : FuncData} (F : Fun K "_law_wrong" "_law_wrong" s_wrong f fd) (U : Blt mg) (In : Fun K "_law_is_number" "_law_is_number" s_isn fIn fdIn) (gIn : mg "_law_is_number" = some (.ref fIn)) (b_isn : L2.Binds K fdIn ["_law_term", "_law_least", "_law_most"] []) : FnOk P w K mg base CX0 2 f fd ["_law_terms"] spWrongL := by
  have G_isn : FnOk P w K mg base CX0 1 fIn fdIn ["_law_term", "_law_least", "_law_most"] spIsNum := ok_isn In U
  refine F.ok sc_wrong (fun vs H Q E h => ?_) (fun cdv A outer s H vs Q E hr h => ?_)
  · obtain ⟨p, ws, rfl, _⟩ := h
    rfl
  · obtain ⟨p, ws, rfl, hw, ne, ok, fin⟩ := h
    match ws, ne, hw, ok, fin with
    | z0 :: t, ne, hw, ok, fin =>
    refine ⟨_, (pss_cons (ps_if (pt_cmpR op_notIn_seq (pe_ix ix_list (pv 0) pe_int (fun _ _ => rfl)) (pe_lst (pa_cons pe_str (pa_cons pe_str pa_nil))) (by rfl)) (pss_one (ps_ret pe_int)) pss_nil)
  (pss_cons (ps_if (PW.pt (pw_or (pt_cmpR op_lt (pe_callB call_len rfl U.z_len (by decide +kernel) (pa_cons (pv 0) pa_nil)) pe_int (nomark _)) (pw_or1 (pt_not (pt_val (pe_call G_isn (hr.mono (by decide)) rfl gIn In.kp b_isn .nil pass0 (by exact (pa_cons (pe_ix ix_list (pv 0) pe_int (fun _ _ => rfl)) (pa_cons (pe_callTy call_int1 rfl U.z_int (by decide +kernel) (pa_cons (pe_cmpR op_eq (pe_ix ix_list (pv 0) pe_int (fun _ _ => rfl)) pe_str (nomark _)) pa_nil)) (pa_cons pe_int pa_nil)))))))))) (pss_one (ps_ret pe_int)) pss_nil)
  (pss_cons (ps_set (i := 1) sc_wrong.nd rfl (Or.inl rfl) pe_int)
  (C8.pss_cut (ps_if (pt_cmpR (op_eqD hr.units) (pe_slice sl_list (pv 0) (po_some pe_int) (po_some pe_int)) (pe_lst (pa_cons pe_str pa_nil)) (nomark _)) (pss_cons (ps_if (PW.pt (pw_or (pt_cmpR op_lt (pe_callB call_len rfl U.z_len (by decide +kernel) (pa_cons (pv 0) pa_nil)) pe_int (nomark _)) (pw_or1 (pt_not (pt_val (pe_call G_isn (hr.mono (by decide)) rfl gIn In.kp b_isn .nil pass0 (by exact (pa_cons (pe_ix ix_list (pv 0) pe_int (fun _ _ => rfl)) (pa_cons pe_int (pa_cons pe_int pa_nil)))))))))) (pss_one (ps_ret pe_int)) pss_nil)
  (pss_cons (ps_if (pt_cmpR (op_neD hr.units) (pe_slice sl_list (pv 0) (po_some pe_int) (po_some pe_int)) (pe_lst (pa_cons pe_str pa_nil)) (nomark _)) (pss_one (ps_ret pe_int)) pss_nil)
  (pss_cons (ps_if (PW.pt (pw_or (pt_cmpR op_lt (pe_callB call_len rfl U.z_len (by decide +kernel) (pa_cons (pv 0) pa_nil)) pe_int (nomark _)) (pw_or1 (pt_not (pt_val (pe_call G_isn (hr.mono (by decide)) rfl gIn In.kp b_isn .nil pass0 (by exact (pa_cons (pe_ix ix_list (pv 0) pe_int (fun _ _ => rfl)) (pa_cons (pe_callB (call_max2 rfl) rfl U.z_max (by decide +kernel) (pa_cons pe_int (pa_cons (pe_op op_add (pe_callTy call_int_str rfl U.z_int (by decide +kernel) (pa_cons (pe_ix ix_list (pv 0) pe_int (fun _ _ => rfl)) pa_nil)) pe_int) pa_nil))) (pa_cons pe_int pa_nil)))))))))) (pss_one (ps_ret pe_int)) pss_nil)
  (pss_one (ps_set (i := 1) sc_wrong.nd rfl (Or.inl rfl) pe_int))))) pss_nil)
  (C8.pss_cut (ps_if (PW.pt (pw_and (pt_cmpR op_eq (pe_ix ix_list (pv 0) pe_int (fun _ _ => rfl)) pe_str (nomark _)) (pw_and1 (pt_cmpR (op_eqD hr.units) (pe_slice sl_list (pv 0) (po_some (pv 1)) (po_some (pe_op op_add (pv 1) pe_int))) (pe_lst (pa_cons pe_str pa_nil)) (nomark _))))) (pss_cons (ps_if (PW.pt (pw_or (pt_cmpR op_lt (pe_callB call_len rfl U.z_len (by decide +kernel) (pa_cons (pv 0) pa_nil)) (pe_op op_add (pv 1) pe_int) (nomark _)) (pw_or1 (pt_not (pt_val (pe_call G_isn (hr.mono (by decide)) rfl gIn In.kp b_isn .nil pass0 (by exact (pa_cons (pe_ix ix_list (pv 0) (pe_op op_add (pv 1) pe_int) (fun _ _ => rfl)) (pa_cons pe_int (pa_cons pe_int pa_nil)))))))))) (pss_one (ps_ret (pe_op op_add (pv 1) pe_int))) pss_nil)
  (pss_one (ps_set (i := 1) sc_wrong.nd rfl (Or.inl rfl) (pe_op op_add (pv 1) pe_int)))) pss_nil)
  (pss_one (ps_ret (pe_ifExp (pt_cmpR op_gt (pe_callB call_len rfl U.z_len (by decide +kernel) (pa_cons (pv 0) pa_nil)) (pv 1) (nomark _)) (pv 1) pe_non)))))))), ?_⟩
    have sz : ∀ n : Nat, n ≤ 100 → n ≤ sizeLine := fun n h => by have e : (100 : Nat) ≤ sizeLine := by { show 100 ≤ 16777216; decide }; omega
    have i0 : atI ((z0 :: t).map V.str) 0 = some (.str z0) := at_nat (i := 0) rfl
    have ln : (((z0 :: t).map V.str).length : Int) = (((z0 :: t).length : Nat) : Int) := by rw [List.length_map]
    refine ⟨_, rfl, p, _, _, _, rfl, rfl, SqL.of hw, i0, sz 2 (by decide), fun l0 hl0 => ?_⟩
    have s0 := Same.new (o := .lst [V.str "fixed", .str "down"]) hl0
    refine ⟨l0, _, rfl, .inl (SqL.of upd_same), rfl, rfl, _, rfl, ?_⟩
    rw [if_pos rfl, show inV (.str z0) [V.str "fixed", .str "down"] = decide (z0 ∈ [wFixed, wDown]) from inV_strs z0 [wFixed, wDown]]
    have hw0 := hw.same s0
    by_cases m0 : z0 ∈ [wFixed, wDown]
    rotate_left
    · rw [decide_eq_false m0]
      have e : wrongL (z0 :: t) = some 0 := by
        unfold wrongL
        dsimp only
        rw [if_neg m0]
      rw [e] at fin
      exact iteT (fin _ s0)
    rw [decide_eq_true m0]
    refine iteF ?_
    refine ⟨_, rfl, _, _, rfl, .inl ⟨_, SqL.of hw0, rfl⟩, _, _, rfl, rfl, _, rfl, ?_⟩
    match t, ne, hw, ok, fin, i0, ln, hw0 with
    | [], ne, hw, ok, fin, i0, ln, hw0 =>
      refine ite2 (fun c => ?_) (fun c => absurd (decide_eq_true (by show ((1 : Nat) : Int) < 2; decide)) c)
      have e : wrongL [z0] = some 1 := by
        unfold wrongL
        dsimp only
        rw [if_pos m0]
      rw [e] at fin
      exact iteT (fin _ s0)
    | z1 :: t1, ne, hw, ok, fin, i0, ln, hw0 =>
    refine ite2 (fun c => absurd (of_decide_eq_true c) (by rw [ln, List.length_cons, List.length_cons]; omega)) (fun c => ?_)
    have i1 : atI ((z0 :: z1 :: t1).map V.str) 1 = some (.str z1) := at_nat (i := 1) rfl
    refine ⟨_, rfl, p, _, _, _, rfl, rfl, SqL.of hw0, i1, _, rfl, p, _, _, _, rfl, rfl, SqL.of hw0, i0, rfl, .inr ⟨_, rfl, ?_⟩⟩
    rw [show (if decide (V.str z0 = V.str "fixed") = true then (1 : Int) else 0) = lowN z0 from by
      show (if decide (V.str z0 = V.str wFixed) = true then (1 : Int) else 0) = lowN z0
      rw [dec_strV]
      unfold lowN
      by_cases h : z0 = wFixed <;> simp [h]]
    have lo2 : 0 ≤ lowN z0 ∧ lowN z0 ≤ 401 := by unfold lowN; split <;> decide
    refine ⟨z1, lowN z0, 400, rfl, lo2.1, lo2.2, by decide, by decide, fun H1 s1 => ?_⟩
    have m1 := s0.trans s1
    refine ⟨_, rfl, ?_⟩
    cases n1 : (numOf z1 (lowN z0) 400).isSome with
    | false =>
      have e : wrongL (z0 :: z1 :: t1) = some 1 := by
        unfold wrongL
        dsimp only
        rw [if_pos m0, n1]
        rfl
      rw [e] at fin
      exact iteT (fin _ m1)
    | true =>
    refine iteF ?_
    have W : wrongL (z0 :: z1 :: t1) = if headIs t1 wRest = true then restL (decide (z0 = wFixed)) t1 else tailL (decide (z0 = wFixed)) t1 2 := by
      unfold wrongL
      dsimp only
      rw [if_pos m0, n1, if_pos rfl]
    -- the rest
    refine ⟨fun σ' H' => ∃ k : Nat, σ' = [some (.ref p), some (.int k)] ∧ Same H H' ∧ wrongL (z0 :: z1 :: t1) = tailL (decide (z0 = wFixed)) ((z0 :: z1 :: t1).drop k) k, ?_, ?_⟩
    · have hw1 := hw.same m1
      refine ⟨_, rfl, _, rfl, _, rfl, _, _, rfl, SqL.of hw1, fun l1 hl1 => ⟨sz 1 (by decide), fun l2 hl2 => ?_⟩⟩
      have s1' := Same.new (o := .lst (cutV ((z0 :: z1 :: t1).map V.str) (some 2) (some 3))) hl1
      have s2' := Same.new (o := .lst [V.str "rest"]) hl2
      have m2 := (m1.trans s1').trans s2'
      refine eq_words (xs := ((z0 :: z1 :: t1).drop 2).take 1) (ys := [wRest]) (by rw [← cut_two]; exact s2' _ _ upd_same) upd_same (ok.cut 2) (fun y hy => by rw [List.mem_singleton.mp hy]; exact strOk_rest) ⟨_, rfl, ?_⟩
      show if headIs t1 wRest = true then _ else _
      cases hr1 : headIs t1 wRest with
      | false =>
        rw [hr1] at W
        exact iteF ⟨2, rfl, m2, W⟩
      | true =>
        rw [hr1, if_pos rfl] at W
        refine iteT ?_
        have hw2 := hw.same m2
        refine ⟨_, rfl, _, _, rfl, .inl ⟨_, SqL.of hw2, rfl⟩, _, _, rfl, rfl, _, rfl, ?_⟩
        have ret : ∀ k : Nat, wrongL (z0 :: z1 :: t1) = some k → ∀ H', Same H H' → Q (.int (k : Int)) H' := fun k e H' s => by
          rw [e] at fin
          exact fin _ s
        match t1, ne, hw, ok, ln, W, hw2, ret with
        | [], ne, hw, ok, ln, W, hw2, ret => exact ite2 (fun c => iteT (ret 3 W _ m2)) (fun c => absurd (decide_eq_true (by show ((2 : Nat) : Int) < 4; decide)) c)
        | [z2], ne, hw, ok, ln, W, hw2, ret => exact ite2 (fun c => iteT (ret 3 W _ m2)) (fun c => absurd (decide_eq_true (by show ((3 : Nat) : Int) < 4; decide)) c)
        | z2 :: z3 :: t3, ne, hw, ok, ln, W, hw2, ret =>
        refine ite2 (fun c => absurd (of_decide_eq_true c) (by rw [ln, List.length_cons, List.length_cons, List.length_cons, List.length_cons]; omega)) (fun c => ?_)
        have i3 : atI ((z0 :: z1 :: z2 :: z3 :: t3).map V.str) 3 = some (.str z3) := at_nat (i := 3) rfl
        have W2 : wrongL (z0 :: z1 :: z2 :: z3 :: t3) = (match numOf z3 0 5 with
          | none => some 3
          | some r => if headIs t3 wOf = true then (match t3[1]? with
              | none => some 5
              | some z5 => if (numOf z5 (if r + 1 > 2 then r + 1 else 2) 6).isSome = true then tailL (decide (z0 = wFixed)) (t3.drop 2) 6 else some 5)
            else some 4) := W
        refine ⟨_, rfl, p, _, _, _, rfl, rfl, SqL.of hw2, i3, z3, 0, 5, rfl, by decide, by decide, by decide, by decide, fun H3 s3 => ?_⟩
        have m3 := m2.trans s3
        refine ⟨_, rfl, ?_⟩
        cases n3 : numOf z3 0 5 with
        | none =>
          rw [n3] at W2
          exact iteT (ret 3 W2 _ m3)
        | some r =>
        rw [n3] at W2
        dsimp only at W2
        refine iteF ?_
        obtain ⟨n, hn, rfl, rfl, ra, rb⟩ := numOf_some n3
        have hw3 := hw.same m3
        refine ⟨_, rfl, _, rfl, _, rfl, _, _, rfl, SqL.of hw3, fun l3 hl3 => ⟨sz 1 (by decide), fun l4 hl4 => ?_⟩⟩
        have s4 := Same.new (o := .lst (cutV ((z0 :: z1 :: z2 :: nT n :: t3).map V.str) (some 4) (some 5))) hl3
        have s5 := Same.new (o := .lst [V.str "of"]) hl4
        have m5 := (m3.trans s4).trans s5
        refine ne_words (xs := ((z0 :: z1 :: z2 :: nT n :: t3).drop 4).take 1) (ys := [wOf]) (by rw [← cut_four]; exact s5 _ _ upd_same) upd_same (ok.cut 4) (fun y hy => by rw [List.mem_singleton.mp hy]; exact strOk_of) ⟨_, rfl, ?_⟩
        show if (!headIs t3 wOf) = true then _ else _
        cases ho : headIs t3 wOf with
        | false =>
          rw [ho] at W2
          exact iteT (ret 4 W2 _ m5)
        | true =>
        rw [ho, if_pos rfl] at W2
        refine iteF ?_
        have hw5 := hw.same m5
        refine ⟨_, rfl, _, _, rfl, .inl ⟨_, SqL.of hw5, rfl⟩, _, _, rfl, rfl, _, rfl, ?_⟩
        match t3, ne, hw, ok, ln, W2, hw5, ret, i3 with
        | [], ne, hw, ok, ln, W2, hw5, ret, i3 => exact ite2 (fun c => iteT (ret 5 W2 _ m5)) (fun c => absurd (decide_eq_true (by show ((4 : Nat) : Int) < 6; decide)) c)
        | [z4], ne, hw, ok, ln, W2, hw5, ret, i3 => exact ite2 (fun c => iteT (ret 5 W2 _ m5)) (fun c => absurd (decide_eq_true (by show ((5 : Nat) : Int) < 6; decide)) c)
        | z4 :: z5 :: t5, ne, hw, ok, ln, W2, hw5, ret, i3 =>
        refine ite2 (fun c => absurd (of_decide_eq_true c) (by rw [ln, List.length_cons, List.length_cons, List.length_cons, List.length_cons, List.length_cons, List.length_cons]; omega)) (fun c => ?_)
        have i5 : atI ((z0 :: z1 :: z2 :: nT n :: z4 :: z5 :: t5).map V.str) 5 = some (.str z5) := at_nat (i := 5) rfl
        have W3 : wrongL (z0 :: z1 :: z2 :: nT n :: z4 :: z5 :: t5) = if (numOf z5 (if (n : Int) + 1 > 2 then (n : Int) + 1 else 2) 6).isSome = true then tailL (decide (z0 = wFixed)) t5 6 else some 5 := W2
        obtain ⟨q1, q2⟩ := iT_reads (i := (n : Int)) (by omega) (by omega)
        refine ⟨_, rfl, p, _, _, _, rfl, rfl, SqL.of hw5, i5, _, rfl, p, _, _, _, rfl, rfl, SqL.of hw5, i3, _, _, rfl, q1, q2, _, _, rfl, rfl, _, _, rfl, z5, (if (n : Int) + 1 > 2 then (n : Int) + 1 else 2), 6, rfl, by split <;> omega, by split <;> omega, by decide, by decide, fun H6 s6 => ?_⟩
        have m6 := m5.trans s6
        refine ⟨_, rfl, ?_⟩
        cases n5 : (numOf z5 (if (n : Int) + 1 > 2 then (n : Int) + 1 else 2) 6).isSome with
        | false =>
          rw [n5] at W3
          exact iteT (ret 5 W3 _ m6)
        | true =>
          rw [n5, if_pos rfl] at W3
          exact iteF ⟨6, rfl, m6, W3⟩
    rintro σ' H2 ⟨k, rfl, m2, W2⟩
    have hw2 := hw.same m2
    generalize e0 : z0 :: z1 :: t1 = ws at *
    have i0' : atI (ws.map V.str) 0 = some (.str z0) := i0
    -- the leave
    refine ⟨fun σ' H' => ∃ k : Nat, σ' = [some (.ref p), some (.int k)] ∧ Same H H' ∧ wrongL ws = (if ws.length > k then some k else none), ?_, ?_⟩
    · have lnk : ((ws.drop k).length > 0) = (ws.length > k) := propext (by rw [List.length_drop]; omega)
      refine ⟨_, rfl, p, _, _, _, rfl, rfl, SqL.of hw2, i0', rfl, _, rfl, ?_⟩
      show if decide (V.str z0 = V.str wFixed) = true then _ else _
      rw [dec_strV]
      refine ite2 (fun c => ?_) (fun c => ?_)
      rotate_left
      · refine iteF ⟨k, rfl, m2, ?_⟩
        rw [W2]
        unfold tailL
        rw [if_neg (fun y => c y.1)]
        simp only [lnk]
      · refine ⟨_, rfl, _, rfl, _, rfl, _, rfl, _, _, rfl, rfl, _, rfl, _, _, rfl, SqL.of hw2, fun l1 hl1 => ⟨sz 1 (by decide), fun l2 hl2 => ?_⟩⟩
        have s1' := Same.new (o := .lst (cutV (ws.map V.str) (some (k : Int)) (some ((k : Int) + 1)))) hl1
        have s2' := Same.new (o := .lst [V.str "leave"]) hl2
        have m3 := (m2.trans s1').trans s2'
        refine eq_words (xs := (ws.drop k).take 1) (ys := [wLeave]) (by rw [← cut_one]; exact s2' _ _ upd_same) upd_same (ok.cut k) (fun y hy => by rw [List.mem_singleton.mp hy]; exact strOk_leave) ⟨_, rfl, ?_⟩
        show if headIs (ws.drop k) wLeave = true then _ else _
        refine ite2 (fun d => ?_) (fun d => ?_)
        rotate_left
        · refine ⟨k, rfl, m3, ?_⟩
          rw [W2]
          unfold tailL
          rw [if_neg (fun y => d y.2)]
          simp only [lnk]
        · have W3 : wrongL ws = (match ws[k + 1]? with
            | some z => if (numOf z 1 400).isSome = true then (if (ws.drop k).length > 2 then some (k + 2) else none) else some (k + 1)
            | none => some (k + 1)) := by
            rw [W2]
            unfold tailL
            rw [if_pos ⟨c, d⟩, List.getElem?_drop] <;> rfl
          have hw3 := hw.same m3
          refine ⟨_, rfl, _, _, rfl, .inl ⟨_, SqL.of hw3, rfl⟩, _, rfl, _, _, rfl, rfl, _, _, rfl, rfl, _, rfl, ?_⟩
          refine ite2 (fun b => ?_) (fun b => ?_)
          · have b1 : ws.length < k + 2 := by
              have q : ((ws.map V.str).length : Int) < (k : Int) + 2 := of_decide_eq_true b
              rw [ln] at q
              omega
            rw [List.getElem?_eq_none (by omega)] at W3
            refine iteT ⟨_, rfl, _, _, rfl, rfl, ?_⟩
            rw [W3] at fin
            exact fin _ m3
          · have b1 : k + 1 < ws.length := by
              have q : ¬ ((ws.map V.str).length : Int) < (k : Int) + 2 := fun y => b (decide_eq_true y)
              rw [ln] at q
              omega
            have ek : ws[k + 1]? = some ws[k + 1] := List.getElem?_eq_getElem b1
            rw [ek] at W3
            dsimp only at W3
            refine ⟨_, rfl, _, rfl, _, _, rfl, rfl, p, _, _, _, rfl, rfl, SqL.of hw3, at_str (i := k + 1) ek, ws[k + 1], 1, 400, rfl, by decide, by decide, by decide, by decide, fun H4 s4 => ?_⟩
            have m4 := m3.trans s4
            refine ⟨_, rfl, ?_⟩
            cases n1' : (numOf ws[k + 1] 1 400).isSome with
            | false =>
              rw [n1'] at W3
              refine iteT ⟨_, rfl, _, _, rfl, rfl, ?_⟩
              rw [W3] at fin
              exact fin _ m4
            | true =>
              rw [n1', if_pos rfl] at W3
              refine iteF ⟨_, rfl, _, _, rfl, rfl, k + 2, rfl, m4, ?_⟩
              rw [W3]
              rw [List.length_drop]
              have q : (ws.length - k > 2) = (ws.length > k + 2) := propext (by omega)
              simp only [q]
    rintro σ' H3 ⟨k2, rfl, m3, W3⟩
    refine ⟨_, rfl, _, _, rfl, .inl ⟨_, SqL.of (hw.same m3), rfl⟩, _, rfl, _, _, rfl, rfl, _, rfl, ?_⟩
    refine ite2 (fun c => ?_) (fun c => ?_)
    · have c1 : ws.length > k2 := by
        have q : (k2 : Int) < ((ws.map V.str).length : Int) := of_decide_eq_true c
        rw [ln] at q
        omega
      rw [W3, if_pos c1] at fin
      exact ⟨_, rfl, fin _ m3⟩
    · have c1 : ¬ ws.length > k2 := fun y => c (decide_eq_true (by rw [ln]; omega))
      rw [W3, if_neg c1] at fin
      exact fin _ m3
end
end Fz
set_option Elab.async false
set_option linter.all false
set_option maxRecDepth 100000
set_option maxHeartbeats 2000000
namespace Fz
open PySem PySem.Spec PyProof.Rows L2
/-- one step of a reading -/
local macro_rules | `(tactic| walk_at "st") => `(tactic| first
  | refine ⟨_, rfl, ?_⟩
  | refine Or.inl ⟨_, rfl, ?_⟩
  | refine Or.inr ⟨_, rfl, ?_⟩
  | refine ⟨_, _, _, _, rfl, rfl, SqL.of (by first | assumption | exact upd_same), rfl, ?_⟩
  | refine ⟨_, _, _, _, rfl, rfl, (by first | assumption | exact upd_same), rfl, ?_⟩
  | refine ⟨_, _, rfl, .inl ⟨_, SqL.of (by first | assumption | exact upd_same), rfl⟩, ?_⟩
  | refine ⟨_, _, rfl, rfl, (show (0 : Int) < _ by first | decide | omega), ?_⟩
  | refine ⟨_, _, rfl, rfl, (show (0 : Int) < _ ∧ _ < _ by first | exact ⟨by decide, by decide⟩ | omega), ?_⟩
  | refine ⟨_, _, rfl, rfl, (show (_ < _ ∧ _ < _) ∨ (_ < _ ∧ _ < _) by first | exact .inl ⟨by decide, by decide⟩ | omega), ?_⟩
  | refine ⟨_, _, rfl, rfl, (show (0 : Int) ≤ _ ∧ _ ≤ _ ∧ _ < _ by first | exact ⟨by decide, by decide, by decide⟩ | exact ⟨by decide, by decide, by omega⟩), ?_⟩
  | refine ⟨_, _, rfl, rfl, ?_⟩)

abbrev s_heard : Stmt := topS 33
/-- what the hearing asks of the error -/
structure PrgH (K : PySem.W.Frag) (mg : Str → Option Value) (CX CT : Addr) : Prop where
  g_FreeError : mg "FreeError" = some (.ref CX)
  g_BadText : mg "BadText" = some (.ref CT)
  hit : PySem.W.exmOne K (.ref CT) (.ref CX) = some true
  exc : ExcC K CT
  xf : XfC K CT
  same : PySem.W.kitOne K (.ref CT) (.ref CT) = some true
  fL : PySem.W.findIn K (.ref CT) "line" = some none
  fW : PySem.W.findIn K (.ref CT) "word" = some none
/-- the strs of rules -/
structure StrM (P : Program) (w : World) (K : PySem.W.Frag) (mg : Str → Option Value) (base : Heap) (CF CD fF fD : Addr) (fdF fdD : FuncData) : Prop where
  oF : PySem.W.findIn K (.ref CF) "__str__" = some (some (.ref fF))
  iF : PySem.W.isFn K (.ref fF) = true
  GF : FnOk P w K mg base CX0 2 fF fdF ["self"] (spStrF CF CD)
  bF : L2.Binds K fdF ["self"] []
  oD : PySem.W.findIn K (.ref CD) "__str__" = some (some (.ref fD))
  iD : PySem.W.isFn K (.ref fD) = true
  GD : FnOk P w K mg base CX0 2 fD fdD ["self"] (spStrD CF CD)
  bD : L2.Binds K fdD ["self"] []
abbrev heardExT (CT : Addr) (Q : VK) : XK := fun cls d H' => cls = .ref CT ∧ ∃ (dd : Addr) (x y : V), d = some dd ∧ H' dd = some (.xd [("word", y), ("line", x)]) ∧ ∀ H'' t, Same H' H'' → H'' t = some (.tup [.str "text", x, y]) → Q (.ref t) H''
abbrev heardNxT (CF CD : Addr) (Q : VK) : VK := fun v H' => ∃ (z : Addr) (d : RD), v = .ref z ∧ RuleAt CF CD H' z d ∧ d.Wf ∧ ∀ H'' t, Same H' H'' → H'' t = some (.tup [.str "told", .str d.text]) → Q (.ref t) H''
def TTt (CT CF CD : Addr) : (XK → Hp → VK → Prop) → Hp → VK → Prop := fun tl H Q => ∀ H1, Same H H1 → tl (heardExT CT Q) H1 (heardNxT CF CD Q)
section
variable {X : Cx} {CX CT CF CD fSF fSD : Addr} {fdSF fdSD : FuncData}
theorem str_rule (S : StrM X.prog X.w X.K X.mg X.base CF CD fSF fSD fdSF fdSD) (hr : Room 4 X.A) : CallR X (.type "str") (fun xs H Q => rStrO CF (spStrF CF CD) xs H Q ∨ rStrO CD (spStrD CF CD) xs H Q) :=
  (call_strO S.oF S.iF S.GF S.bF hr).or (call_strO S.oD S.iD S.GD S.bD hr)
theorem str_of {z : Addr} {d : RD} {H : Hp} {Q : VK} (hz : RuleAt CF CD H z d) (wf : d.Wf) (fin : Q (.str d.text) H) : rStrO CF (spStrF CF CD) [.ref z] H Q ∨ rStrO CD (spStrD CF CD) [.ref z] H Q := by
  obtain ⟨dx, az⟩ := id hz
  cases d with
  | fixed s r m l => exact .inl ⟨z, dx, _, rfl, az, z, s, r, m, l, rfl, hz, wf, _, rfl, fin⟩
  | down t r m => exact .inr ⟨z, dx, _, rfl, az, z, t, r, m, rfl, hz, wf, _, rfl, fin⟩
theorem sc_heard : FnScope ["_law_ask", "error"] ["_law_ask"] (defScope s_heard) := ⟨rfl, rfl, rfl, by decide +kernel, rfl, by decide +kernel, by decide +kernel⟩
theorem heard_gives {g : Addr} {cdg : Value} {q : Str} (U : Blt X.mg) (Z : PrgH X.K X.mg CX CT) (S : StrM X.prog X.w X.K X.mg X.base CF CD fSF fSD fdSF fdSD) (hrX : Room 5 X.A) : LamX.GivesTo X ["_law_ask", "error"] "_law_heard" (defScope s_heard) g cdg (defBody s_heard) "_law_ask" q (TTt CT CF CD) := by
  intro f c' s H Q tl act hc h
  refine ⟨_, pss_one (ps_tryErr (i := 1) (c := .ref CX) (ts := fun _ _ _ => tRet (tIf (tB (tCB (rIsErr X.K) (tCons (tVar 1) (tCons (tC (.ref CT)) tNil)))) (tTup (tCons (tC (.str "text")) (tCons (tErrF X.K "line" (tVar 1)) (tCons (tErrF X.K "word" (tVar 1)) tNil)))) (tTup (tCons (tC (.str "other")) tNil)))) (tb := fun W D σ H => ∃ Ech : XK, (∀ cls d σ' H', Ech cls d H' → W cls d σ' H') ∧ σ[0]? = some (some (.ref f)) ∧ H c' = some (LamX.CodeO c' q) ∧ tl Ech H (heardNxT CF CD D.rt))
      rfl rfl rfl sc_heard.nd rfl rfl ⟨rfl, by decide, .inl Z.g_FreeError⟩ LamX.takes0 ?body
      ?suite), ?fin⟩
  case suite =>
    intro p cls d pn
    exact pss_one (ps_ret (pe_ifExp (pt_val (pe_callB call_isErr rfl U.z_isinstance (by decide +kernel) (pa_cons (pv 1) (pa_cons (pe_glob (v := .ref _) rfl Z.g_BadText rfl) pa_nil)))) (pe_tup (pa_cons pe_str (pa_cons (pe_errF (pv 1)) (pa_cons (pe_errF (pv 1)) pa_nil)))) (pe_tup (pa_cons pe_str pa_nil))))
  case body =>
    intro W pn xe tk own
    refine ⟨fun pins s' σ H' D I h' => ?_⟩
    obtain ⟨Ech, hW, h1, h2, h3⟩ := h'
    have hp := fun p1 p2 => act W pn xe Ech p1 p2 tk hW
    refine PSs.run (pss_one (ps_ret (pe_tup (by exact (pa_cons pe_str (pa_cons (pe_callTy (str_rule S (hrX.deeper _)) rfl U.z_str (by decide +kernel) (pa_cons (pe_weak (hp _ _)) pa_nil)) pa_nil)))))) pins s' σ H' D I ?_
    exact ⟨_, ⟨h1, h2, h3⟩, fun x H2 ⟨z, d, e, hz, wf, fin⟩ => by
        subst e
        exact str_of hz wf ⟨by show 2 ≤ sizeLine; decide, fun t ht => fin _ t (Same.new ht) upd_same⟩⟩
  case fin =>
    refine ⟨heardExT CT Q, fun cls d σ' H' hE => ?_, rfl, hc, h _ (fun _ _ z => z)⟩
    obtain ⟨rfl, dd, x, y, rfl, hd, fin⟩ := hE
    refine ⟨true, Z.hit, fun _ len a ha => ?_, fun z => by cases z⟩
    match σ', len with
    | [a0, a1], _ =>
      have hd2 : upd H' a (Err (.ref CT) (some dd) a) dd = some (.xd [("word", y), ("line", x)]) := by
        rw [upd_ne (ne_of_none hd ha)]
        exact hd
      refine ⟨_, rfl, a, CT, some dd, .ref CT, .ref CT, true, rfl, upd_same, fun d2 e => ⟨_, by cases e; exact hd2⟩, Z.exc, .own CT, Z.same, _, rfl, iteT ?_⟩
      refine ⟨_, rfl, a, CT, dd, _, x, rfl, upd_same, hd2, Z.xf, Z.fL, rfl, ?_⟩
      refine ⟨_, rfl, a, CT, dd, _, y, rfl, upd_same, hd2, Z.xf, Z.fW, rfl, (by show 3 ≤ sizeLine; decide), fun t ht => ?_⟩
      exact fin _ t (fun b o e => by rw [upd_ne (ne_of_none (by rw [upd_ne (ne_of_none e ha)]; exact e) ht), upd_ne (ne_of_none e ha)]; exact e) upd_same
end
end Fz
set_option Elab.async false
set_option linter.all false
set_option maxRecDepth 100000
set_option maxHeartbeats 2000000
namespace Fz
open PySem PySem.Spec PyProof.Rows L2
/-- one step of a reading -/
local macro_rules | `(tactic| walk_at "st") => `(tactic| first
  | refine ⟨_, rfl, ?_⟩
  | refine Or.inl ⟨_, rfl, ?_⟩
  | refine Or.inr ⟨_, rfl, ?_⟩
  | refine ⟨_, _, _, _, rfl, rfl, SqL.of (by first | assumption | exact upd_same), rfl, ?_⟩
  | refine ⟨_, _, _, _, rfl, rfl, (by first | assumption | exact upd_same), rfl, ?_⟩
  | refine ⟨_, _, rfl, .inl ⟨_, SqL.of (by first | assumption | exact upd_same), rfl⟩, ?_⟩
  | refine ⟨_, _, rfl, rfl, (show (0 : Int) < _ by first | decide | omega), ?_⟩
  | refine ⟨_, _, rfl, rfl, (show (0 : Int) < _ ∧ _ < _ by first | exact ⟨by decide, by decide⟩ | omega), ?_⟩
  | refine ⟨_, _, rfl, rfl, (show (_ < _ ∧ _ < _) ∨ (_ < _ ∧ _ < _) by first | exact .inl ⟨by decide, by decide⟩ | omega), ?_⟩
  | refine ⟨_, _, rfl, rfl, (show (0 : Int) ≤ _ ∧ _ ≤ _ ∧ _ < _ by first | exact ⟨by decide, by decide, by decide⟩ | exact ⟨by decide, by decide, by omega⟩), ?_⟩
  | refine ⟨_, _, rfl, rfl, ?_⟩)

/-- a class off which read is read -/
structure RdC (P : Program) (w : World) (K : PySem.W.Frag) (mg : Str → Option Value) (base : Heap) (CT CF CD C : Addr) (x : Str) (p g : Addr) (fd : FuncData) : Prop where
  g_ : mg x = some (.ref C)
  rd : ClX.CRead K C (.type "type")
  met : ClX.CMet K C (.type "type") "read" p g
  G : FnOk P w K mg base (L2.CX P w) 8 g fd ["cls", "text"] (spRead CT CF CD)
  B : L2.Binds K fd ["cls", "text"] []
  BK : KBn K fd ["cls", "text"] 1 ["text"] (fun us ws => us ++ ws) (fun vs zs => vs ++ zs)
theorem RdC.raw {P : Program} {w : World} {K : PySem.W.Frag} {mg : Str → Option Value} {base : Heap} {CT CF CD C : Addr} {x : Str} {p g : Addr} {fd : FuncData} (R : RdC P w K mg base CT CF CD C x p g fd) : FnR P w K mg base (L2.CX P w) 8 g (spRead CT CF CD) :=
  (R.G.raw R.B .nil).imp fun vs H Q E h => by rw [List.append_nil]; exact h
def tRd (CT CF CD C : Addr) (j : Nat) (E : XK) : TE := ClX.tCMeth C (spRead CT CF CD) E (tC (.ref C)) (tCons (tVar j) tNil)
def tRdK (CT CF CD C : Addr) (j : Nat) (E : XK) : TE := tCMethK C (["text"] : List Str).length (spRead CT CF CD) (fun vs zs => vs ++ zs) E (tC (.ref C)) (tCons (tVar j) tNil)
/-- what is heard of a text -/
def readTup : V → List V
  | .str z => match wrongL (Txt.split z sp1) with
    | none => [.str "told", .str z]
    | some k => [.str "text", .int 0, .int (k : Nat)]
  | _ => [.str "text", .int 0, .int 0]
def ReadOk (CF CD : Addr) (H : Hp) (v : V) : Prop := NoText CF CD H v ∨ ∃ z, v = .str z ∧ Plain 5000 z
theorem NoText.ext {CF CD : Addr} {H H' : Hp} {v : V} (h : NoText CF CD H v) (s : LamX.ExtN H H') : NoText CF CD H' v := by
  rcases h with rfl | ⟨b, rfl⟩ | ⟨i, rfl⟩ | ⟨a, xs, rfl, h⟩ | ⟨a, xs, rfl, h⟩ | ⟨a, rfl, h⟩ | ⟨x, d, rfl, h⟩
  · exact .inl rfl
  · exact .inr (.inl ⟨b, rfl⟩)
  · exact .inr (.inr (.inl ⟨i, rfl⟩))
  · exact .inr (.inr (.inr (.inl ⟨a, xs, rfl, s _ _ h fun _ z => nomatch z⟩)))
  · exact .inr (.inr (.inr (.inr (.inl ⟨a, xs, rfl, s _ _ h fun _ z => nomatch z⟩))))
  · exact .inr (.inr (.inr (.inr (.inr (.inl ⟨a, rfl, s _ _ h fun _ z => nomatch z⟩)))))
  · exact .inr (.inr (.inr (.inr (.inr (.inr ⟨x, d, rfl, h.ext s⟩)))))
theorem NoText.tup {CF CD : Addr} {H : Hp} {v : V} (h : NoText CF CD H v) : readTup v = [.str "text", .int 0, .int 0] := by
  rcases h with rfl | ⟨b, rfl⟩ | ⟨i, rfl⟩ | ⟨a, xs, rfl, h⟩ | ⟨a, xs, rfl, h⟩ | ⟨a, rfl, h⟩ | ⟨x, d, rfl, h⟩ <;> rfl
theorem ReadOk.ext {CF CD : Addr} {H H' : Hp} {v : V} (h : ReadOk CF CD H v) (s : LamX.ExtN H H') : ReadOk CF CD H' v := h.imp (fun n => n.ext s) id
theorem read_heard {CT CF CD : Addr} {H : Hp} {Q : VK} {v : V} (ok : ReadOk CF CD H v) (hQ : ∀ H' t, Same H H' → H' t = some (.tup (readTup v)) → Q (.ref t) H') : ReadV CT CF CD H (heardNxT CF CD Q) (heardExT CT Q) v := by
  rcases ok with nt | ⟨z, rfl, pl⟩
  · refine .inl ⟨nt, fun H' s d hd => ⟨rfl, d, _, _, rfl, upd_same, fun H'' t s2 at_ => hQ H'' t ((s.trans (Same.new hd)).trans s2) ?_⟩⟩
    rw [nt.tup]
    exact at_
  · refine .inr ⟨z, rfl, pl, fun k e H' s d hd => ⟨rfl, d, _, _, rfl, upd_same, fun H'' t s2 at_ => hQ H'' t ((s.trans (Same.new hd)).trans s2) ?_⟩, fun d wf ed e H' x s rx => ⟨x, d, rfl, rx, wf, fun H'' t s2 at_ => hQ H'' t (s.trans s2) ?_⟩⟩
    · unfold readTup
      dsimp only
      rw [e]
      exact at_
    · unfold readTup
      dsimp only
      rw [e, ed]
      exact at_
section
variable {CT CF CD C : Addr} {j : Nat} {E : XK} {σ : L2.St} {H : Hp} {Q : VK} {v : V} {TL : List (Addr × Str)}
theorem heard_rd (tabs : LamX.Tabs TL H) (vj : σ[j]? = some (some v)) (ok : ReadOk CF CD H v) (hQ : ∀ H' t, LamX.ExtN H H' → LamX.Tabs TL H' → H' t = some (.tup (readTup v)) → Q (.ref t) H') : Box (LamX.tLam TL (TTt CT CF CD) (tRd CT CF CD C j)) σ H Q := by
  refine ⟨tabs, fun H3 e3 tabs3 H4 s4 => ?_⟩
  have ext4 := extN_same e3 s4
  exact ⟨rfl, v, vj, C, v, rfl, read_heard (ok.ext ext4) fun H' t s at_ => hQ H' t (extN_same ext4 s) (tabs3.ext fun b o e => s b o (s4 b o e)) at_⟩
theorem heard_rdK (tabs : LamX.Tabs TL H) (vj : σ[j]? = some (some v)) (ok : ReadOk CF CD H v) (hQ : ∀ H' t, LamX.ExtN H H' → LamX.Tabs TL H' → H' t = some (.tup (readTup v)) → Q (.ref t) H') : Box (LamX.tLam TL (TTt CT CF CD) (tRdK CT CF CD C j)) σ H Q := by
  refine ⟨tabs, fun H3 e3 tabs3 H4 s4 => ?_⟩
  have ext4 := extN_same e3 s4
  exact ⟨rfl, v, vj, rfl, C, v, rfl, read_heard (ok.ext ext4) fun H' t s at_ => hQ H' t (extN_same ext4 s) (tabs3.ext fun b o e => s b o (s4 b o e)) at_⟩
end
abbrev s_lread : Stmt := topS 34
abbrev lamP : Str := (envOfC "_law_read" (defScope s_lread) 0 0 .none).qual ++ "<lambda>"
theorem sc_lread : FnScope ["_law_pen_here", "_law_line_here", "_law_way"] ["_law_pen_here", "_law_line_here"] (defScope s_lread) := ⟨rfl, rfl, rfl, by decide +kernel, rfl, by decide +kernel, by decide +kernel⟩
section
variable {P : Program} {w : World} {K : PySem.W.Frag} {mg : Str → Option Value} {base : Heap}

def spLRead (TL : List (Addr × Str)) : Sp := fun vs H Q _ => ∃ (n : Nat) (p q : Addr) (z : Str), vs = [.ref p, .str z] ∧ PenAt n H p q ∧ n < 90000 ∧ Plain 5000 z ∧ LamX.Tabs TL H ∧
  ∀ H' t, PenAt (n + 1) H' p q → MvN p H H' → LamX.Tabs TL H' → H' t = some (.tup (readTup (.str z))) → Q (.ref t) H'
theorem ok_lread {TL : List (Addr × Str)} {f fD fH fSF fSD CF CD CT CX CRs CSz CRl c Pt pF gF pD gD' pR gR pS gS pL gL : Addr} {fd fdD fdH fdSF fdSD fdRF fdRD fdRR fdRS fdRL : FuncData} (F : Fun K "_law_read" "_law_read" s_lread f fd) (code : fd.code = .ref c) (TB : LamX.TabB base mg c Pt) (mT : (Pt, lamP) ∈ TL) (uT : ∀ p ∈ TL, p.1 = Pt → p.2 = lamP)
    (U : Blt mg) (Z : PrgH K mg CX CT) (S : StrM P w K mg base CF CD fSF fSD fdSF fdSD)
    (D : Fun K "_law_draw" "_law_draw" s_draw fD fdD) (gD : mg "_law_draw" = some (.ref fD)) (b_draw : L2.Binds K fdD ["_law_pen_here", "_law_many"] [])
    (Hd : Fun K "_law_heard" "_law_heard" s_heard fH fdH) (gH : mg "_law_heard" = some (.ref fH)) (b_heard0 : L2.Binds K fdH ["_law_ask"] [])
    (RF : RdC P w K mg base CT CF CD CF "Fixed" pF gF fdRF)
    (RD : RdC P w K mg base CT CF CD CD "Down" pD gD' fdRD)
    (RR : RdC P w K mg base CT CF CD CRs "Rested" pR gR fdRR)
    (RS : RdC P w K mg base CT CF CD CSz "Sized" pS gS fdRS)
    (RL : RdC P w K mg base CT CF CD CRl "Rule" pL gL fdRL) : FnG P w K mg base CX0 12 f fd ["_law_pen_here", "_law_line_here"] (spLRead TL) := by
  have G_draw : FnOk P w K mg base CX0 1 fD fdD ["_law_pen_here", "_law_many"] spDraw := ok_draw D U
  obtain ⟨oc, od, kV, doc, pm, an, cdvH, ct, osl, rfl, lkH, codeH⟩ := Hd.ex
  have b_heard := b_heard0
  refine funG F sc_lread (fun vs H Q E h => ?_) (fun cdv A outer s H vs Q E hcdv hr hg h => ?_)
  · obtain ⟨n, p, q, z, rfl, _⟩ := h
    rfl
  · obtain ⟨n, p, q, z, rfl, hp, hn, pl, tabs, fin⟩ := h
    obtain rfl : cdv = .ref c := hcdv.symm.trans code
    have hcode : ∀ {X : Cx}, X.env.code = .ref c → X.env.code = .ref c := id
    refine ⟨_, (pss_cons (ps_set (i := 2) sc_lread.nd rfl (Or.inl rfl) (pe_call G_draw (hr.mono (by decide)) rfl gD D.kp b_draw .nil pass0 (by exact (pa_cons (pv 0) (pa_cons pe_int pa_nil)))))
  (pss_cons (ps_if (pt_cmpR op_eq (pv 2) pe_int (nomark _)) (pss_one (ps_ret (pe_box (LamX.pe_lamcall (k := 9) (t := tRd CT CF CD CF 1) (T := TL) rfl gH Hd.kp lkH codeH b_heard sc_heard rfl (Or.inl rfl) (heard_gives U Z S (hr.mono (by decide))) TB (hcode rfl) mT uT (hr.mono (by decide)) (LamX.lamS_by (by kernel_rfl)) rfl (fun _ _ _ _ _ => rfl) (fun A2 outer2 s2 H2 E2 f2 c2 hr2 => (ClX.pe_cmeth (pe_glob (v := .ref _) rfl RF.g_ rfl) RF.rd RF.met RF.raw (hr2.mono (by decide)) (passes_call (takes_of rfl rfl rfl rfl) (fun _ _ _ _ h => h)) (by exact (pa_cons (pv 1) pa_nil)))))))) pss_nil)
  (pss_cons (ps_if (pt_cmpR op_eq (pv 2) pe_int (nomark _)) (pss_one (ps_ret (pe_box (LamX.pe_lamcall (k := 9) (t := tRdK CT CF CD CD 1) (T := TL) rfl gH Hd.kp lkH codeH b_heard sc_heard rfl (Or.inl rfl) (heard_gives U Z S (hr.mono (by decide))) TB (hcode rfl) mT uT (hr.mono (by decide)) (LamX.lamS_by (by kernel_rfl)) rfl (fun _ _ _ _ _ => rfl) (fun A2 outer2 s2 H2 E2 f2 c2 hr2 => (pe_cmethK0 (pe_glob (v := .ref _) rfl RD.g_ rfl) RD.rd RD.met RD.G (hr2.mono (by decide)) RD.BK (passes_call (takes_of rfl rfl rfl rfl) (fun _ _ _ _ h => h)) (by exact (pk_cons (pv 1) pk_nil)))))))) pss_nil)
  (pss_cons (ps_if (pt_cmpR op_eq (pv 2) pe_int (nomark _)) (pss_one (ps_ret (pe_box (LamX.pe_lamcall (k := 9) (t := tRd CT CF CD CRs 1) (T := TL) rfl gH Hd.kp lkH codeH b_heard sc_heard rfl (Or.inl rfl) (heard_gives U Z S (hr.mono (by decide))) TB (hcode rfl) mT uT (hr.mono (by decide)) (LamX.lamS_by (by kernel_rfl)) rfl (fun _ _ _ _ _ => rfl) (fun A2 outer2 s2 H2 E2 f2 c2 hr2 => (ClX.pe_cmeth (pe_glob (v := .ref _) rfl RR.g_ rfl) RR.rd RR.met RR.raw (hr2.mono (by decide)) (passes_call (takes_of rfl rfl rfl rfl) (fun _ _ _ _ h => h)) (by exact (pa_cons (pv 1) pa_nil)))))))) pss_nil)
  (pss_cons (ps_if (pt_cmpR op_eq (pv 2) pe_int (nomark _)) (pss_one (ps_ret (pe_box (LamX.pe_lamcall (k := 9) (t := tRd CT CF CD CSz 1) (T := TL) rfl gH Hd.kp lkH codeH b_heard sc_heard rfl (Or.inl rfl) (heard_gives U Z S (hr.mono (by decide))) TB (hcode rfl) mT uT (hr.mono (by decide)) (LamX.lamS_by (by kernel_rfl)) rfl (fun _ _ _ _ _ => rfl) (fun A2 outer2 s2 H2 E2 f2 c2 hr2 => (ClX.pe_cmeth (pe_glob (v := .ref _) rfl RS.g_ rfl) RS.rd RS.met RS.raw (hr2.mono (by decide)) (passes_call (takes_of rfl rfl rfl rfl) (fun _ _ _ _ h => h)) (by exact (pa_cons (pv 1) pa_nil)))))))) pss_nil)
  (pss_one (ps_ret (pe_box (LamX.pe_lamcall (k := 9) (t := tRd CT CF CD CRl 1) (T := TL) rfl gH Hd.kp lkH codeH b_heard sc_heard rfl (Or.inl rfl) (heard_gives U Z S (hr.mono (by decide))) TB (hcode rfl) mT uT (hr.mono (by decide)) (LamX.lamS_by (by kernel_rfl)) rfl (fun _ _ _ _ _ => rfl) (fun A2 outer2 s2 H2 E2 f2 c2 hr2 => (ClX.pe_cmeth (pe_glob (v := .ref _) rfl RL.g_ rfl) RL.rd RL.met RL.raw (hr2.mono (by decide)) (passes_call (takes_of rfl rfl rfl rfl) (fun _ _ _ _ h => h)) (by exact (pa_cons (pv 1) pa_nil))))))))))))), ?_⟩
    refine ⟨_, rfl, n, p, q, 5, rfl, hp, by omega, by decide, small_log (by decide) (by decide), fun H1 i p1 m1 i0 i1 => ?_⟩
    obtain ⟨xs0, hp0⟩ := hp.lst
    have tabs1 := tabs_mv hp0 m1 tabs
    have go : ∀ H' t, LamX.ExtN H1 H' → LamX.Tabs TL H' → H' t = some (.tup (readTup (.str z))) → Q (.ref t) H' := fun H' t e tb at_ => fin H' t (p1.ext e) (m1.toN.trans (ext_mvN e)) tb at_
    have ok : ReadOk CF CD H1 (.str z) := .inr ⟨z, rfl, pl⟩
    refine ⟨_, rfl, rfl, _, rfl, ?_⟩
    refine ite2 (fun _ => heard_rd tabs1 rfl ok go) (fun _ => ?_)
    refine ⟨_, rfl, rfl, _, rfl, ?_⟩
    refine ite2 (fun _ => heard_rdK tabs1 rfl ok go) (fun _ => ?_)
    refine ⟨_, rfl, rfl, _, rfl, ?_⟩
    refine ite2 (fun _ => heard_rd tabs1 rfl ok go) (fun _ => ?_)
    refine ⟨_, rfl, rfl, _, rfl, ?_⟩
    refine ite2 (fun _ => heard_rd tabs1 rfl ok go) (fun _ => ?_)
    exact heard_rd tabs1 rfl ok go
end
end Fz
set_option Elab.async false
set_option linter.all false
set_option maxRecDepth 100000
set_option maxHeartbeats 2000000
/-! Own layer: a text several times over; parts of lists of words. -/
namespace Fz
open PySem PySem.Spec PyProof.Rows L2 TL
theorem rep_size (a : Array Nat) : ∀ (n : Nat) (b : Array Nat), (List.foldl (· ++ ·) b (List.replicate n a)).size = b.size + n * a.size
  | 0, b => by simp
  | n + 1, b => by
    rw [List.replicate_succ, List.foldl_cons, rep_size a n (b ++ a), Array.size_append, Nat.add_mul]
    omega
section
variable {X : Cx}
theorem op_mulStr : OpR X (binaryOp .Mult) (fun x y H Q => ∃ (z : Str) (k : Int), x = .str z ∧ y = .int k ∧ 2 ≤ k ∧ k ≤ 1000 ∧ 1 ≤ z.length ∧ z.length ≤ 1000 ∧ Q (.str ⟨(List.replicate k.toNat z.cps).foldl (· ++ ·) #[]⟩) H) := by
  intro pins s σ H x y v u Q I rx ry h
  obtain ⟨z, k, rfl, rfl, k0, k1, z0, z1, q⟩ := h
  obtain ⟨t, rfl⟩ := rx
  obtain ⟨t', rfl⟩ := ry
  have e2 : (k == 1 || z.length == 0) = false := by
    rw [beq_eq_false_iff_ne.mpr (show k ≠ 1 by omega), beq_eq_false_iff_ne.mpr (show z.length ≠ 0 by omega)]
    rfl
  refine PySem.P.mul_str (by rw [decide_eq_false (by omega), decide_eq_false (by omega)]; rfl) (fun _ _ => ?_) (fun _ _ => ?_) ?_
  · have a : (1000 : Int) ≤ (2 ^ 63 - 1) / k := Int.le_ediv_of_mul_le (by omega) (by omega)
    omega
  · have a : z.length * k.toNat ≤ 1000 * 1000 := Nat.mul_le_mul z1 (by omega)
    unfold PySem.Builtin.Str.tooLong
    refine decide_eq_false ?_
    have e := sizeLine_eq
    omega
  · rw [if_neg (by omega), e2, if_neg Bool.false_ne_true]
    refine ⟨?_, .str _, H, I.tok _, ⟨_, rfl⟩, q⟩
    show (List.foldl (· ++ ·) #[] (List.replicate k.toNat z.cps)).size ≤ sizeLine
    rw [rep_size]
    have a : k.toNat * z.cps.size ≤ 1000 * 1000 := Nat.mul_le_mul (by omega) z1
    have e := sizeLine_eq
    simp only [Array.size_empty]
    omega
end
/-! ### parts of lists of words -/
theorem cut_take (ws : List Str) (s : Nat) : cutV (ws.map V.str) none (some (s : Int)) = (ws.take s).map V.str := by
  unfold cutV
  rw [HT.sIx_nat, HT.sIx_none, List.length_map, ← List.map_drop, ← List.map_take, List.drop_zero]
  congr 1
  rcases Nat.le_total s ws.length with h | h
  · rw [Nat.min_eq_left h] <;> rfl
  · rw [Nat.min_eq_right h, List.take_of_length_le h, List.take_of_length_le (by omega)]
theorem cut_drop (ws : List Str) (s : Nat) : cutV (ws.map V.str) (some (s : Int)) none = (ws.drop s).map V.str := by
  unfold cutV
  rw [HT.sIx_nat, HT.sIx_none, List.length_map, ← List.map_drop, ← List.map_take]
  congr 1
  rcases Nat.le_total s ws.length with h | h
  · rw [Nat.min_eq_left h, List.take_of_length_le (by rw [List.length_drop]; omega)]
  · rw [Nat.min_eq_right h, List.drop_length, List.drop_eq_nil_of_le h]
    simp
/-- the words of a bent text: short and plain, few -/
structure Bent (m : Nat) (ws : List Str) : Prop where
  each : ∀ z ∈ ws, Plain 40 z
  few : ws.length ≤ m
theorem Bent.text {m : Nat} {ws : List Str} (h : Bent m ws) (few : m ≤ 100) : Plain 5000 (Str.join sp1 ws) := by
  have q := plain_join h.each h.few
  have e : m * (40 + 1) ≤ 5000 := by omega
  exact ⟨Nat.le_trans q.len e, q.asc⟩
theorem Bent.of {m : Nat} {ws : List Str} (few : ws.length ≤ m) (h : ∀ z ∈ ws, Plain 40 z) : Bent m ws := ⟨h, few⟩
theorem Plain.of {n : Nat} {z : Str} (h : (decide (z.length ≤ n) && z.cps.all (· < 128)) = true) : Plain n z := by
  rw [Bool.and_eq_true] at h
  refine ⟨of_decide_eq_true h.1, fun c hc => ?_⟩
  have q := h.2
  rw [← Array.all_toList, List.all_eq_true] at q
  exact of_decide_eq_true (q c hc)
theorem plain_num {i : Int} (h0 : 0 ≤ i) (h1 : i ≤ 400) : Plain 40 (iT i) := by
  have l : (iT i).length ≤ 10 := num_short h0 h1
  refine ⟨by omega, fun c hc => ?_⟩
  obtain ⟨n, e⟩ := iT_tl h0
  rw [e] at hc
  have q := numL_digits n c hc
  omega
theorem plain_words {d : RD} (wf : d.Wf) : Bent 8 (wordsOf d) := by
  have k0 : Plain 40 wFixed := .of (by decide +kernel)
  have k1 : Plain 40 wDown := .of (by decide +kernel)
  have k2 : Plain 40 wRest := .of (by decide +kernel)
  have k3 : Plain 40 wOf := .of (by decide +kernel)
  have k4 : Plain 40 wLeave := .of (by decide +kernel)
  have a0 := wf.n0; have a1 := wf.n1
  have r0 := wf.r0; have r1 := wf.r1; have m0 := wf.m0; have m1 := wf.m1; have l0 := wf.l0; have l1 := wf.l1
  cases d with
  | fixed s r m l =>
    simp only [RD.isF, RD.num, RD.rest, RD.mod, RD.leave, if_true] at a0 a1 r0 r1 m0 m1 l0 l1
    refine .of ?_ fun z hz => ?_
    · unfold wordsOf restW leaveW
      dsimp only
      split <;> split <;> simp
    · unfold wordsOf restW leaveW at hz
      simp only [List.mem_cons, List.mem_append] at hz
      rcases hz with rfl | rfl | hz | hz
      · exact k0
      · exact plain_num (by omega) a1
      · split at hz
        · cases hz
        · simp only [List.mem_cons, List.not_mem_nil, or_false] at hz
          rcases hz with rfl | rfl | rfl | rfl
          · exact k2
          · exact plain_num r0 (by omega)
          · exact k3
          · exact plain_num (by omega) (by omega)
      · split at hz
        · cases hz
        · simp only [List.mem_cons, List.not_mem_nil, or_false] at hz
          rcases hz with rfl | rfl
          · exact k4
          · exact plain_num l0 l1
  | down t r m =>
    simp only [RD.isF, RD.num, RD.rest, RD.mod, RD.leave, Bool.false_eq_true, if_false] at a0 a1 r0 r1 m0 m1 l0 l1
    refine .of ?_ fun z hz => ?_
    · unfold wordsOf restW
      dsimp only
      split <;> simp
    · unfold wordsOf restW at hz
      simp only [List.mem_cons] at hz
      rcases hz with rfl | rfl | hz
      · exact k1
      · exact plain_num (by omega) a1
      · split at hz
        · cases hz
        · simp only [List.mem_cons, List.not_mem_nil, or_false] at hz
          rcases hz with rfl | rfl | rfl | rfl
          · exact k2
          · exact plain_num r0 (by omega)
          · exact k3
          · exact plain_num (by omega) (by omega)
theorem plain_text {d : RD} (wf : d.Wf) : Plain 5000 d.text := by
  have q := (plain_words wf).text (by decide)
  rw [join_words] at q
  exact q
end Fz

set_option Elab.async false
set_option linter.all false
set_option maxRecDepth 100000
set_option maxHeartbeats 2000000
namespace Fz
open PySem PySem.Spec PyProof.Rows L2
/-- one step of a reading -/
local macro_rules | `(tactic| walk_at "st") => `(tactic| first
  | refine ⟨_, rfl, ?_⟩
  | refine Or.inl ⟨_, rfl, ?_⟩
  | refine Or.inr ⟨_, rfl, ?_⟩
  | refine ⟨_, _, _, _, rfl, rfl, SqL.of (by first | assumption | exact upd_same), rfl, ?_⟩
  | refine ⟨_, _, _, _, rfl, rfl, (by first | assumption | exact upd_same), rfl, ?_⟩
  | refine ⟨_, _, rfl, .inl ⟨_, SqL.of (by first | assumption | exact upd_same), rfl⟩, ?_⟩
  | refine ⟨_, _, rfl, rfl, (show (0 : Int) < _ by first | decide | omega), ?_⟩
  | refine ⟨_, _, rfl, rfl, (show (0 : Int) < _ ∧ _ < _ by first | exact ⟨by decide, by decide⟩ | omega), ?_⟩
  | refine ⟨_, _, rfl, rfl, (show (_ < _ ∧ _ < _) ∨ (_ < _ ∧ _ < _) by first | exact .inl ⟨by decide, by decide⟩ | omega), ?_⟩
  | refine ⟨_, _, rfl, rfl, (show (0 : Int) ≤ _ ∧ _ ≤ _ ∧ _ < _ by first | exact ⟨by decide, by decide, by decide⟩ | exact ⟨by decide, by decide, by omega⟩), ?_⟩
  | refine ⟨_, _, rfl, rfl, ?_⟩)

abbrev s_bent : Stmt := topS 35
theorem sc_bent : FnScope ["_law_pen_here", "_law_line_here", "_law_terms", "_law_turn", "_law_some", "_law_spot", "_law_way"] ["_law_pen_here", "_law_line_here"] (defScope s_bent) := ⟨rfl, rfl, rfl, by decide +kernel, rfl, by decide +kernel, by decide +kernel⟩
section
variable {P : Program} {w : World} {K : PySem.W.Frag} {mg : Str → Option Value} {base : Heap}

def spBent : Sp := fun vs H Q _ => ∃ (n : Nat) (p q : Addr) (z : Str), vs = [.ref p, .str z] ∧ PenAt n H p q ∧ n < 90000 ∧ z.length ≤ 5000 ∧ Bent 8 (Txt.split z sp1) ∧ ∀ H' y, PenAt (n + 7) H' p q → Mv p H H' → Plain 5000 y → Q (.str y) H'
def bentWords : List Str := ["fixed", "down", "rest", "of", "leave", "0", "1", "2", "6", "7", "400", "401", "", "01", "-1", "Fixed"]
def bentMore : List Str := ["+1", "1.0", "rest 0 of 2", "leave 0", ⟨(List.replicate 40 ("9" : Str).cps).foldl (· ++ ·) #[]⟩, ",", "fixed,"]
theorem bent_plain : ∀ y ∈ bentWords ++ bentMore, Plain 40 y := by
  have q : (bentWords ++ bentMore).all (fun y => decide (y.length ≤ 40) && y.cps.all (· < 128)) = true := by decide +kernel
  intro y hy
  exact .of (List.all_eq_true.mp q y hy)
theorem ok_bent {f fD fP : Addr} {fd fdD fdP : FuncData} (F : Fun K "_law_bent" "_law_bent" s_bent f fd) (U : Blt mg) (D : Fun K "_law_draw" "_law_draw" s_draw fD fdD) (gD : mg "_law_draw" = some (.ref fD)) (b_draw : L2.Binds K fdD ["_law_pen_here", "_law_many"] [])
    (Pk : Fun K "_law_pick" "_law_pick" s_pick fP fdP) (gP : mg "_law_pick" = some (.ref fP)) (b_pick : L2.Binds K fdP ["_law_pen_here", "_law_some"] []) : FnOk P w K mg base CX0 3 f fd ["_law_pen_here", "_law_line_here"] spBent := by
  have G_draw : FnOk P w K mg base CX0 1 fD fdD ["_law_pen_here", "_law_many"] spDraw := ok_draw D U
  have G_pick : FnOk P w K mg base CX0 2 fP fdP ["_law_pen_here", "_law_some"] (spPick K) := ok_pick Pk U D gD b_draw
  refine F.ok sc_bent (fun vs H Q E h => ?_) (fun cdv A outer s H vs Q E hr h => ?_)
  · obtain ⟨n, p, q, z, rfl, _⟩ := h
    rfl
  · obtain ⟨n, p, q, z, rfl, hp, hn, zl, bz, fin⟩ := h
    refine ⟨_, (pss_cons (ps_set (i := 2) sc_bent.nd rfl (Or.inl rfl) (pe_split (pv 1) pe_str))
  (pss_cons (ps_for PassesOwn.never rfl (pi_range1 rfl U.z_range (by exact (pa_cons (pe_op op_add pe_int (pe_call G_draw (hr.mono (by decide)) rfl gD D.kp b_draw .nil pass0 (by exact (pa_cons (pv 0) (pa_cons pe_int pa_nil))))) pa_nil))) (pg_name (i := 3) sc_bent.nd rfl (Or.inl rfl)) (C8.pss_cut (ps_par (i := 5) (j := 6) (by rfl) sc_bent.nd rfl rfl (by decide) rfl rfl (pa_cons (pe_call G_draw (hr.mono (by decide)) rfl gD D.kp b_draw .nil pass0 (by exact (pa_cons (pv 0) (pa_cons (pe_op op_add (pe_callB call_len rfl U.z_len (by decide +kernel) (pa_cons (pv 2) pa_nil)) pe_int) pa_nil)))) (pa_cons (pe_call G_draw (hr.mono (by decide)) rfl gD D.kp b_draw .nil pass0 (by exact (pa_cons (pv 0) (pa_cons pe_int pa_nil)))) pa_nil)) (by rfl))
  (C8.pss_cut (ps_set (i := 4) sc_bent.nd rfl (Or.inl rfl) (pe_lst (pa_cons pe_str (pa_cons pe_str (pa_cons pe_str (pa_cons pe_str (pa_cons pe_str (pa_cons pe_str (pa_cons pe_str (pa_cons pe_str (pa_cons pe_str (pa_cons pe_str (pa_cons pe_str (pa_cons pe_str (pa_cons pe_str (pa_cons pe_str (pa_cons pe_str (pa_cons pe_str pa_nil))))))))))))))))))
  (C8.pss_cut (ps_set (i := 4) sc_bent.nd rfl (Or.inl rfl) (pe_op op_cat (pv 4) (pe_lst (pa_cons pe_str (pa_cons pe_str (pa_cons pe_str (pa_cons pe_str (pa_cons (pe_op op_mulStr pe_str pe_int) (pa_cons pe_str (pa_cons pe_str pa_nil))))))))))
  (pss_one (ps_if (pt_cmpR op_eq (pv 6) pe_int (nomark _)) (pss_one (ps_set (i := 2) sc_bent.nd rfl (Or.inl rfl) (pe_op op_cat (pe_slice sl_list (pv 2) po_none (po_some (pv 5))) (pe_slice sl_list (pv 2) (po_some (pe_op op_add (pv 5) pe_int)) po_none)))) (pss_one (ps_if (pt_cmpR op_eq (pv 6) pe_int (nomark _)) (pss_one (ps_set (i := 2) sc_bent.nd rfl (Or.inl rfl) (pe_op op_cat (pe_slice sl_list (pv 2) po_none (po_some (pe_op op_add (pv 5) pe_int))) (pe_slice sl_list (pv 2) (po_some (pv 5)) po_none)))) (pss_one (ps_if (pt_cmpR op_lt (pv 6) pe_int (nomark _)) (pss_one (ps_set (i := 2) sc_bent.nd rfl (Or.inl rfl) (pe_op op_cat (pe_op op_cat (pe_slice sl_list (pv 2) po_none (po_some (pv 5))) (pe_lst (pa_cons (pe_call G_pick (hr.mono (by decide)) rfl gP Pk.kp b_pick .nil pass0 (by exact (pa_cons (pv 0) (pa_cons (pv 4) pa_nil)))) pa_nil))) (pe_slice sl_list (pv 2) (po_some (pe_op op_add (pv 5) pe_int)) po_none)))) (pss_one (ps_set (i := 2) sc_bent.nd rfl (Or.inl rfl) (pe_op op_cat (pe_op op_cat (pe_slice sl_list (pv 2) po_none (po_some (pv 5))) (pe_lst (pa_cons (pe_call G_pick (hr.mono (by decide)) rfl gP Pk.kp b_pick .nil pass0 (by exact (pa_cons (pv 0) (pa_cons (pv 4) pa_nil)))) pa_nil))) (pe_slice sl_list (pv 2) (po_some (pv 5)) po_none))))))))))))))
  (pss_one (ps_ret (pe_join pe_str (pv 2)))))), ?_⟩
    have big : (100000 : Nat) ≤ sizeLine := by show 100000 ≤ 16777216; decide
    refine ⟨_, rfl, ⟨_, rfl⟩, z, _, rfl, rfl, (by decide +kernel), by omega, fun l hl => ?_⟩
    have hp1 := hp.new (o := .lst ((Txt.split z sp1).map V.str)) hl
    refine ⟨_, rfl, n, p, q, 2, rfl, hp1, by omega, by decide, small_log (by decide) (by decide), fun H1 r p1 m1 r0 r1 => ?_⟩
    refine ⟨_, _, rfl, rfl, 1 + r, rfl, by omega, by omega, ?_⟩
    have m01 := (Mv.new (p := p) (o := .lst ((Txt.split z sp1).map V.str)) hl).trans m1
    have lp := (hp.fresh hl).1
    refine for_range (lo := 0) (n := (1 + r).toNat) (fun i σ' H' => ∃ (l : Addr) (ws : List Str) (v_turn v_some v_spot v_way : Option V), σ' = [some (.ref p), some (.str z), some (.ref l), v_turn, v_some, v_spot, v_way] ∧ PenAt (n + 1 + 3 * i) H' p q ∧ Mv p H H' ∧ l ≠ p ∧ H' l = some (.lst (ws.map V.str)) ∧ Bent (8 + i) ws) ?_ ?_ ?_
    · exact ⟨l, _, none, none, none, none, rfl, p1, m01, lp, m1 _ _ lp upd_same, bz⟩
    · rintro i σ' H' hi ⟨l, ws, v_turn, v_some, v_spot, v_way, rfl, pi, mi, lp, hl, bw⟩
      have i2 : i < 2 := by omega
      have few := bw.few
      obtain ⟨xs0, hp0⟩ := pi.lst
      -- where and how
      refine ⟨fun σ' H2 => ∃ (sn : Nat) (wy : Int), σ' = [some (.ref p), some (.str z), some (.ref l), some (.int (0 + (i : Nat))), v_some, some (.int sn), some (.int wy)] ∧ sn ≤ ws.length ∧ PenAt (n + 3 + 3 * i) H2 p q ∧ Mv p H H2 ∧ H2 l = some (.lst (ws.map V.str)), ?_, ?_⟩
      · refine ⟨_, rfl, _, rfl, _, _, rfl, .inl ⟨_, SqL.of hl, rfl⟩, _, _, rfl, rfl, n + 1 + 3 * i, p, q, _, rfl, pi, by omega, by omega, small_log (by omega) (by rw [List.length_map]; omega), fun H2 sI p2 m2 s0 s1 => ?_⟩
        refine ⟨_, rfl, n + 1 + 3 * i + 1, p, q, 6, rfl, p2, by omega, by decide, small_log (by decide) (by decide), fun H3 wy p3 m3 w0 w1 => ?_⟩
        obtain ⟨sn, rfl⟩ := Int.eq_ofNat_of_zero_le s0
        rw [List.length_map] at s1
        exact ⟨_, _, rfl, sn, wy, rfl, by omega, p3.more (by omega), (mi.trans m2).trans m3, m3 _ _ lp (m2 _ _ lp hl)⟩
      rintro σ' H2 ⟨sn, wy, rfl, sl, p2, m2, hl2⟩
      refine ⟨fun σ' H3 => ∃ so : Addr, σ' = [some (.ref p), some (.str z), some (.ref l), some (.int (0 + (i : Nat))), some (.ref so), some (.int sn), some (.int wy)] ∧ PenAt (n + 3 + 3 * i) H3 p q ∧ Mv p H H3 ∧ H3 l = some (.lst (ws.map V.str)) ∧ so ≠ p ∧ H3 so = some (.lst (bentWords.map V.str)), ?_, ?_⟩
      · refine ⟨by show 16 ≤ sizeLine; omega, fun so hso => ?_⟩
        exact ⟨so, rfl, p2.new hso, m2.trans (Mv.new hso), Same.new hso _ _ hl2, (p2.fresh hso).1, upd_same⟩
      rintro σ' H3 ⟨so, rfl, p3, m3, hl3, sop, hso⟩
      refine ⟨fun σ' H4 => ∃ so : Addr, σ' = [some (.ref p), some (.str z), some (.ref l), some (.int (0 + (i : Nat))), some (.ref so), some (.int sn), some (.int wy)] ∧ PenAt (n + 3 + 3 * i) H4 p q ∧ Mv p H H4 ∧ H4 l = some (.lst (ws.map V.str)) ∧ so ≠ p ∧ H4 so = some (.lst ((bentWords ++ bentMore).map V.str)), ?_, ?_⟩
      · refine ⟨_, rfl, _, _, rfl, rfl, by decide, by decide, by decide +kernel, by decide +kernel, by show 7 ≤ sizeLine; omega, fun l1 hl1 => ?_⟩
        refine ⟨so, l1, _, _, rfl, rfl, Same.new hl1 _ _ hso, upd_same, by show 16 + 7 ≤ sizeLine; omega, fun l2 hl2' => ?_⟩
        have p4 := p3.new (o := .lst (bentMore.map V.str)) hl1
        refine ⟨l2, rfl, p4.new hl2', (m3.trans (Mv.new hl1)).trans (Mv.new hl2'), Same.new hl2' _ _ (Same.new hl1 _ _ hl3), (p4.fresh hl2').1, ?_⟩
        rw [List.map_append]
        exact upd_same
      rintro σ' H4 ⟨so, rfl, p4, m4, hl4, sop, hso⟩
      have cl : ∀ lo hi : Option Int, (cutV (ws.map V.str) lo hi).length ≤ 100 := fun lo hi => by
        have a := cutV_length (ws.map V.str) lo hi
        rw [List.length_map] at a
        omega
      have ct := cut_take ws sn
      have ct1 : cutV (ws.map V.str) none (some ((sn : Int) + 1)) = (ws.take (sn + 1)).map V.str := cut_take ws (sn + 1)
      have cd := cut_drop ws sn
      have cd1 : cutV (ws.map V.str) (some ((sn : Int) + 1)) none = (ws.drop (sn + 1)).map V.str := cut_drop ws (sn + 1)
      have tk : ∀ (k : Nat) (y : Str), y ∈ ws.take k → Plain 40 y := fun k y hy => bw.each y (List.mem_of_mem_take hy)
      have dr : ∀ (k : Nat) (y : Str), y ∈ ws.drop k → Plain 40 y := fun k y hy => bw.each y (List.mem_of_mem_drop hy)
      refine ⟨_, rfl, rfl, _, rfl, ?_⟩
      refine ite2 (fun _ => ?_) (fun _ => ?_)
      · refine ⟨_, rfl, _, rfl, _, rfl, _, _, rfl, SqL.of hl4, fun a1 ha1 => ?_⟩
        refine ⟨_, rfl, _, rfl, _, _, rfl, rfl, _, rfl, _, _, rfl, SqL.of (Same.new ha1 _ _ hl4), fun a2 ha2 => ?_⟩
        refine ⟨a1, a2, _, _, rfl, rfl, Same.new ha2 _ _ upd_same, upd_same, Nat.le_trans (Nat.add_le_add (cl _ _) (cl _ _)) (by omega), fun a3 ha3 => ?_⟩
        have q1 := p4.new (o := .lst (cutV (ws.map V.str) none (some (sn : Int)))) ha1
        have q2 := q1.new (o := .lst (cutV (ws.map V.str) (some ((sn : Int) + 1)) none)) ha2
        refine ⟨a3, ws.take sn ++ ws.drop (sn + 1), _, _, _, _, rfl, (q2.new ha3).more (by omega), ((m4.trans (Mv.new ha1)).trans (Mv.new ha2)).trans (Mv.new ha3), (q2.fresh ha3).1, by rw [upd_same, ct, cd1, List.map_append], .of ?_ fun y hy => ?_⟩
        · rw [List.length_append, List.length_take, List.length_drop]
          omega
        · rcases List.mem_append.mp hy with h | h
          · exact tk _ y h
          · exact dr _ y h
      refine ⟨_, rfl, rfl, _, rfl, ?_⟩
      refine ite2 (fun _ => ?_) (fun _ => ?_)
      · refine ⟨_, rfl, _, rfl, _, _, rfl, rfl, _, rfl, _, _, rfl, SqL.of hl4, fun a1 ha1 => ?_⟩
        refine ⟨_, rfl, _, rfl, _, rfl, _, _, rfl, SqL.of (Same.new ha1 _ _ hl4), fun a2 ha2 => ?_⟩
        refine ⟨a1, a2, _, _, rfl, rfl, Same.new ha2 _ _ upd_same, upd_same, Nat.le_trans (Nat.add_le_add (cl _ _) (cl _ _)) (by omega), fun a3 ha3 => ?_⟩
        have q1 := p4.new (o := .lst (cutV (ws.map V.str) none (some ((sn : Int) + 1)))) ha1
        have q2 := q1.new (o := .lst (cutV (ws.map V.str) (some (sn : Int)) none)) ha2
        refine ⟨a3, ws.take (sn + 1) ++ ws.drop sn, _, _, _, _, rfl, (q2.new ha3).more (by omega), ((m4.trans (Mv.new ha1)).trans (Mv.new ha2)).trans (Mv.new ha3), (q2.fresh ha3).1, by rw [upd_same, ct1, cd, List.map_append], .of ?_ fun y hy => ?_⟩
        · rw [List.length_append, List.length_take, List.length_drop]
          omega
        · rcases List.mem_append.mp hy with h | h
          · exact tk _ y h
          · exact dr _ y h
      refine ⟨_, rfl, _, _, rfl, rfl, _, rfl, ?_⟩
      have pick : ∀ (k : Nat) (C : Option Int), (C = some ((sn : Int) + 1) ∧ k = sn + 1) ∨ (C = some (sn : Int) ∧ k = sn) → ∀ (a1 : Addr) (Ha : Hp), H4 a1 = none → Ha = upd H4 a1 (.lst (cutV (ws.map V.str) none (some (sn : Int)))) → ∀ (H5 : Hp) (y : V), PenAt (n + 3 + 3 * i + 1) H5 p q → Mv p Ha H5 → y ∈ (bentWords ++ bentMore).map V.str → ∀ b, H5 b = none → ∀ c, upd H5 b (.lst [y]) c = none → ∀ a2, upd (upd H5 b (.lst [y])) c (.lst (cutV (ws.map V.str) none (some (sn : Int)) ++ [y])) a2 = none → ∀ a3, upd (upd (upd H5 b (.lst [y])) c (.lst (cutV (ws.map V.str) none (some (sn : Int)) ++ [y]))) a2 (.lst (cutV (ws.map V.str) C none)) a3 = none →
          ∃ (l : Addr) (ws' : List Str) (v_turn v_some v_spot v_way : Option V), [some (V.ref p), some (.str z), some (.ref a3), some (.int (0 + (i : Nat))), some (.ref so), some (.int sn), some (.int wy)] = [some (.ref p), some (.str z), some (.ref l), v_turn, v_some, v_spot, v_way] ∧ PenAt (n + 1 + 3 * (i + 1)) (upd (upd (upd (upd H5 b (.lst [y])) c (.lst (cutV (ws.map V.str) none (some (sn : Int)) ++ [y]))) a2 (.lst (cutV (ws.map V.str) C none))) a3 (.lst (cutV (ws.map V.str) none (some (sn : Int)) ++ [y] ++ cutV (ws.map V.str) C none))) p q ∧
            Mv p H (upd (upd (upd (upd H5 b (.lst [y])) c (.lst (cutV (ws.map V.str) none (some (sn : Int)) ++ [y]))) a2 (.lst (cutV (ws.map V.str) C none))) a3 (.lst (cutV (ws.map V.str) none (some (sn : Int)) ++ [y] ++ cutV (ws.map V.str) C none))) ∧ l ≠ p ∧
            (upd (upd (upd (upd H5 b (.lst [y])) c (.lst (cutV (ws.map V.str) none (some (sn : Int)) ++ [y]))) a2 (.lst (cutV (ws.map V.str) C none))) a3 (.lst (cutV (ws.map V.str) none (some (sn : Int)) ++ [y] ++ cutV (ws.map V.str) C none))) l = some (.lst (ws'.map V.str)) ∧ Bent (8 + (i + 1)) ws' := by
        rintro k C hC a1 Ha ha1 rfl H5 y p5 m5 hy b hb c hc a2 ha2 a3 ha3
        obtain ⟨yw, hyw, rfl⟩ := List.mem_map.mp hy
        have q1 := p5.new (o := .lst [.str yw]) hb
        have q2 := q1.new (o := .lst (cutV (ws.map V.str) none (some (sn : Int)) ++ [.str yw])) hc
        have q3 := q2.new (o := .lst (cutV (ws.map V.str) C none)) ha2
        have eC : cutV (ws.map V.str) C none = (ws.drop k).map V.str := by
          rcases hC with ⟨rfl, rfl⟩ | ⟨rfl, rfl⟩
          · exact cd1
          · exact cd
        have kl : sn ≤ k := by rcases hC with ⟨_, rfl⟩ | ⟨_, rfl⟩ <;> omega
        refine ⟨a3, ws.take sn ++ [yw] ++ ws.drop k, _, _, _, _, rfl, (q3.new ha3).more (by omega), (((((m4.trans (Mv.new ha1)).trans m5).trans (Mv.new hb)).trans (Mv.new hc)).trans (Mv.new ha2)).trans (Mv.new ha3), (q3.fresh ha3).1, by rw [upd_same, ct, eC, List.map_append, List.map_append] <;> rfl, .of ?_ fun y hy => ?_⟩
        · rw [List.length_append, List.length_append, List.length_take, List.length_drop]
          show min sn ws.length + 1 + (ws.length - k) ≤ 8 + (i + 1)
          omega
        · rcases List.mem_append.mp hy with h | h
          · rcases List.mem_append.mp h with h | h
            · exact tk _ y h
            · rw [List.mem_singleton.mp h]
              exact bent_plain yw hyw
          · exact dr _ y h
      refine ite2 (fun _ => ?_) (fun _ => ?_)
      · refine ⟨_, rfl, _, rfl, _, rfl, _, _, rfl, SqL.of hl4, fun a1 ha1 => ?_⟩
        have l1 := (p4.fresh ha1).1
        refine ⟨_, rfl, _, rfl, n + 3 + 3 * i, p, q, so, _, rfl, p4.new ha1, by omega, sop, Same.new ha1 _ _ hso, by decide +kernel, by decide +kernel, fun H5 y p5 m5 hy => ?_⟩
        refine ⟨by show 1 ≤ sizeLine; omega, fun b hb => ?_⟩
        refine ⟨a1, b, _, _, rfl, rfl, Same.new hb _ _ (m5 _ _ l1 upd_same), upd_same, Nat.le_trans (Nat.add_le_add (cl _ _) (Nat.le_refl 1)) (by omega), fun c hc => ?_⟩
        refine ⟨_, rfl, _, rfl, _, _, rfl, rfl, _, rfl, _, _, rfl, SqL.of (Same.new hc _ _ (Same.new hb _ _ (m5 _ _ lp (Same.new ha1 _ _ hl4)))), fun a2 ha2 => ?_⟩
        refine ⟨c, a2, _, _, rfl, rfl, Same.new ha2 _ _ upd_same, upd_same, by rw [List.length_append]; exact Nat.le_trans (Nat.add_le_add (Nat.add_le_add (cl _ _) (Nat.le_refl 1)) (cl _ _)) (by omega), fun a3 ha3 => ?_⟩
        exact pick _ _ (.inl ⟨rfl, rfl⟩) a1 _ ha1 rfl H5 y p5 m5 hy b hb c hc a2 ha2 a3 ha3
      · refine ⟨_, rfl, _, rfl, _, rfl, _, _, rfl, SqL.of hl4, fun a1 ha1 => ?_⟩
        have l1 := (p4.fresh ha1).1
        refine ⟨_, rfl, _, rfl, n + 3 + 3 * i, p, q, so, _, rfl, p4.new ha1, by omega, sop, Same.new ha1 _ _ hso, by decide +kernel, by decide +kernel, fun H5 y p5 m5 hy => ?_⟩
        refine ⟨by show 1 ≤ sizeLine; omega, fun b hb => ?_⟩
        refine ⟨a1, b, _, _, rfl, rfl, Same.new hb _ _ (m5 _ _ l1 upd_same), upd_same, Nat.le_trans (Nat.add_le_add (cl _ _) (Nat.le_refl 1)) (by omega), fun c hc => ?_⟩
        refine ⟨_, rfl, _, rfl, _, rfl, _, _, rfl, SqL.of (Same.new hc _ _ (Same.new hb _ _ (m5 _ _ lp (Same.new ha1 _ _ hl4)))), fun a2 ha2 => ?_⟩
        refine ⟨c, a2, _, _, rfl, rfl, Same.new ha2 _ _ upd_same, upd_same, by rw [List.length_append]; exact Nat.le_trans (Nat.add_le_add (Nat.add_le_add (cl _ _) (Nat.le_refl 1)) (cl _ _)) (by omega), fun a3 ha3 => ?_⟩
        exact pick _ _ (.inr ⟨rfl, rfl⟩) a1 _ ha1 rfl H5 y p5 m5 hy b hb c hc a2 ha2 a3 ha3
    · rintro σ' H' ⟨l, ws, v_turn, v_some, v_spot, v_way, rfl, pi, mi, lp, hl, bw⟩
      have i2 : (1 + r).toNat ≤ 2 := by omega
      have few := bw.few
      have sum : ∀ xs : List Str, (∀ y ∈ xs, Plain 40 y) → (xs.map (·.length)).sum ≤ xs.length * 40 := fun xs => by
        induction xs with
        | nil => intro _; simp
        | cons y r ih =>
          intro h
          have a := (h y (List.mem_cons_self ..)).len
          have b := ih fun x hx => h x (List.mem_cons_of_mem _ hx)
          rw [List.map_cons, List.sum_cons, List.length_cons]
          omega
      have sm := sum ws bw.each
      refine ⟨⟨_, rfl⟩, _, rfl, _, l, ws, rfl, rfl, .inl (SqL.of hl), ?_, ?_⟩
      · have e1 : (" " : Str).length = 1 := by decide +kernel
        rw [e1]
        omega
      · refine fin H' _ (pi.more (by omega)) mi ?_
        rw [TL.join_eq]
        exact bw.text (by omega)
end
end Fz
set_option Elab.async false
set_option linter.all false
set_option maxRecDepth 100000
set_option maxHeartbeats 2000000
namespace Fz
open PySem PySem.Spec PyProof.Rows L2
/-- one step of a reading -/
local macro_rules | `(tactic| walk_at "st") => `(tactic| first
  | refine ⟨_, rfl, ?_⟩
  | refine Or.inl ⟨_, rfl, ?_⟩
  | refine Or.inr ⟨_, rfl, ?_⟩
  | refine ⟨_, _, _, _, rfl, rfl, SqL.of (by first | assumption | exact upd_same), rfl, ?_⟩
  | refine ⟨_, _, _, _, rfl, rfl, (by first | assumption | exact upd_same), rfl, ?_⟩
  | refine ⟨_, _, rfl, .inl ⟨_, SqL.of (by first | assumption | exact upd_same), rfl⟩, ?_⟩
  | refine ⟨_, _, rfl, rfl, (show (0 : Int) < _ by first | decide | omega), ?_⟩
  | refine ⟨_, _, rfl, rfl, (show (0 : Int) < _ ∧ _ < _ by first | exact ⟨by decide, by decide⟩ | omega), ?_⟩
  | refine ⟨_, _, rfl, rfl, (show (_ < _ ∧ _ < _) ∨ (_ < _ ∧ _ < _) by first | exact .inl ⟨by decide, by decide⟩ | omega), ?_⟩
  | refine ⟨_, _, rfl, rfl, (show (0 : Int) ≤ _ ∧ _ ≤ _ ∧ _ < _ by first | exact ⟨by decide, by decide, by decide⟩ | exact ⟨by decide, by decide, by omega⟩), ?_⟩
  | refine ⟨_, _, rfl, rfl, ?_⟩)

abbrev s_law : Stmt := topS 36
abbrev lamL : Str := (envOfC "law" (defScope s_law) 0 0 .none).qual ++ "<lambda>"
theorem sc_law : FnScope ["_law_script", "_law_pen_here", "_law_turn", "_law_some", "_law_line_here", "_law_odd", "_law_parts_here", "_law_again", "_law_rule_here", "_law_bent_here", "_law_wrong_here", "_law_heard_here"] ["_law_script"] (defScope s_law) := ⟨rfl, rfl, rfl, by decide +kernel, rfl, by decide +kernel, by decide +kernel⟩
def spLaw (K : PySem.W.Frag) (P1 P2 : Addr) : Sp := fun vs H Q _ => ∃ (a : Addr) (ns : List Int), vs = [.ref a] ∧ SqL K H a (ns.map V.int) ∧ ns.length ≤ 63 ∧ H P1 = some (.tbl #[]) ∧ H P2 = some (.tbl #[]) ∧ ∀ H', Q (.bl true) H'
/-- the data of what is heard -/
def readDat (v : V) : List PyData := match v with
  | .str z => match wrongL (Txt.split z sp1) with
    | none => [.str "told", .str z]
    | some k => [.str "text", .int 0, .int (k : Nat)]
  | _ => [.str "text", .int 0, .int 0]
theorem read_dp {K : PySem.W.Frag} {H : Hp} (v : V) : DpAll K H (readTup v) (readDat v) := by
  have e0 : DpAll K H [V.str "text", .int 0, .int 0] [PyData.str "text", .int 0, .int 0] := .cons (.str _) (.cons (.int _) (.cons (.int _) .nil))
  cases v with
  | str z =>
    unfold readTup readDat
    dsimp only
    cases wrongL (Txt.split z sp1) with
    | none => exact .cons (.str _) (.cons (.str _) .nil)
    | some k => exact .cons (.str _) (.cons (.int _) (.cons (.int _) .nil))
  | _ => exact e0
theorem read_shaped {CF CD : Addr} {H : Hp} {v : V} (ok : ReadOk CF CD H v) : SeqAt.shaped (.tuple (readDat v)) = true := by
  have e0 : SeqAt.shaped (.tuple [PyData.str "text", .int 0, .int 0]) = true := by decide +kernel
  rcases ok with nt | ⟨z, rfl, pl⟩
  · rcases nt with rfl | ⟨b, rfl⟩ | ⟨i, rfl⟩ | ⟨a, xs, rfl, h⟩ | ⟨a, xs, rfl, h⟩ | ⟨a, rfl, h⟩ | ⟨x, d, rfl, h⟩ <;> exact e0
  · unfold readDat
    dsimp only
    cases wrongL (Txt.split z sp1) with
    | none =>
      have o1 : PySem.PyData.strOk ("told" : Str) = true := by decide +kernel
      unfold SeqAt.shaped
      simp [PyData.canLay0, PyData.canLayAll0, PyData.depth, PyData.depthAll, o1, pl.ok]
    | some k =>
      have o1 : PySem.PyData.strOk ("text" : Str) = true := by decide +kernel
      unfold SeqAt.shaped
      simp [PyData.canLay0, PyData.canLayAll0, PyData.depth, PyData.depthAll, o1]
theorem read_same {CF CD : Addr} {H : Hp} {v : V} (ok : ReadOk CF CD H v) : PyData.eqv (.tuple (readDat v)) (.tuple (readDat v)) = true := by
  have q := read_shaped ok
  unfold SeqAt.shaped at q
  rw [Bool.and_eq_true] at q
  exact PySem.SeqAt.eqv_refl _ q.1
theorem ne_read {K : PySem.W.Frag} {CF CD : Addr} {H H' : Hp} {Q : VK} {v : V} {a b : Addr} (ok : ReadOk CF CD H v) (ha : H' a = some (.tup (readTup v))) (hb : H' b = some (.tup (readTup v))) (fin : Q (.bl false) H') : rNeD K (.ref a) (.ref b) H' Q := by
  refine ⟨.tuple (readDat v), .tuple (readDat v), Dp.tup (SqT.of ha) (read_dp v), Dp.tup (SqT.of hb) (read_dp v), read_shaped ok, read_shaped ok, ?_⟩
  rw [read_same ok]
  exact fin
theorem eq_read {K : PySem.W.Frag} {CF CD : Addr} {H H' : Hp} {Q : VK} {v : V} {a b : Addr} (ok : ReadOk CF CD H v) (ha : H' a = some (.tup (readTup v))) (hb : H' b = some (.tup (readTup v))) (fin : Q (.bl true) H') : rEqD K (.ref a) (.ref b) H' Q := by
  refine ⟨.tuple (readDat v), .tuple (readDat v), Dp.tup (SqT.of ha) (read_dp v), Dp.tup (SqT.of hb) (read_dp v), read_shaped ok, read_shaped ok, ?_⟩
  rw [read_same ok]
  exact fin
theorem iT_inj {i j : Int} (hi : 0 ≤ i) (hj : 0 ≤ j) (h : iT i = iT j) : i = j := by
  obtain ⟨m, rfl⟩ := Int.eq_ofNat_of_zero_le hi
  obtain ⟨n, rfl⟩ := Int.eq_ofNat_of_zero_le hj
  rw [nT_inj (m := m) (n := n) h]
theorem leaveW_inj {l k : Int} (hl : 0 ≤ l) (hk : 0 ≤ k) (h : leaveW l = leaveW k) : l = k := by
  unfold leaveW at h
  by_cases a : l = 0
  · by_cases b : k = 0
    · omega
    · rw [if_pos a, if_neg b] at h; cases h
  · by_cases b : k = 0
    · rw [if_neg a, if_pos b] at h; cases h
    · rw [if_neg a, if_neg b] at h
      exact iT_inj hl hk (List.cons.inj (List.cons.inj h).2).1
theorem leave_ne_rest : wLeave ≠ wRest := by decide +kernel
theorem restW_inj {r m r' m' : Int} {t t' : List Str} (r0 : 0 ≤ r) (r1 : r ≤ m - 1) (m0 : 1 ≤ m) (r0' : 0 ≤ r') (r1' : r' ≤ m' - 1) (m0' : 1 ≤ m') (ht : headIs t wRest = false) (ht' : headIs t' wRest = false) (h : restW r m ++ t = restW r' m' ++ t') : r = r' ∧ m = m' ∧ t = t' := by
  unfold restW at h
  by_cases a : m = 1
  · by_cases b : m' = 1
    · rw [if_pos a, if_pos b] at h
      exact ⟨by omega, by omega, h⟩
    · rw [if_pos a, if_neg b] at h
      have h2 : t = wRest :: iT r' :: wOf :: iT m' :: t' := h
      rw [h2, headIs_cons, decide_eq_true rfl] at ht
      cases ht
  · by_cases b : m' = 1
    · rw [if_neg a, if_pos b] at h
      have h2 : wRest :: iT r :: wOf :: iT m :: t = t' := h
      rw [← h2, headIs_cons, decide_eq_true rfl] at ht'
      cases ht'
    · rw [if_neg a, if_neg b] at h
      have h2 : wRest :: iT r :: wOf :: iT m :: t = wRest :: iT r' :: wOf :: iT m' :: t' := h
      have h3 := (List.cons.inj h2).2
      have h4 := (List.cons.inj (List.cons.inj h3).2).2
      exact ⟨iT_inj r0 r0' (List.cons.inj h3).1, iT_inj (by omega) (by omega) (List.cons.inj h4).1, (List.cons.inj h4).2⟩
theorem leave_head (l : Int) : headIs (leaveW l) wRest = false := by
  unfold leaveW
  by_cases z : l = 0
  · rw [if_pos z, headIs_nil]
  · rw [if_neg z, headIs_cons, leave_rest]
theorem words_inj {d e : RD} (wd : d.Wf) (we : e.Wf) (h : wordsOf d = wordsOf e) : d = e := by
  have a0 := (num_in wd).1; have r0 := wd.r0; have r1 := wd.r1; have m0 := wd.m0; have l0 := wd.l0
  have b0 := (num_in we).1; have q0 := we.r0; have q1 := we.r1; have n0 := we.m0; have k0 := we.l0
  have fd : wFixed ≠ wDown := by decide +kernel
  cases d with
  | fixed s r m l =>
    cases e with
    | fixed s' r' m' l' =>
      simp only [RD.num, RD.rest, RD.mod, RD.leave] at a0 r0 r1 m0 l0 b0 q0 q1 n0 k0
      have h1 : wFixed :: iT s :: (restW r m ++ leaveW l) = wFixed :: iT s' :: (restW r' m' ++ leaveW l') := h
      have h2 := (List.cons.inj h1).2
      obtain ⟨e1, e2, e3⟩ := restW_inj r0 r1 m0 q0 q1 n0 (leave_head l) (leave_head l') (List.cons.inj h2).2
      rw [iT_inj a0 b0 (List.cons.inj h2).1, e1, e2, leaveW_inj l0 k0 e3]
    | down t r' m' => exact absurd (List.cons.inj (show wFixed :: _ = wDown :: _ from h)).1 fd
  | down t r m =>
    cases e with
    | fixed s' r' m' l' => exact absurd (List.cons.inj (show wDown :: _ = wFixed :: _ from h)).1 (Ne.symm fd)
    | down t' r' m' =>
      simp only [RD.num, RD.rest, RD.mod] at a0 r0 r1 m0 b0 q0 q1 n0
      have h1 : wDown :: iT t :: restW r m = wDown :: iT t' :: restW r' m' := h
      have h2 := (List.cons.inj h1).2
      obtain ⟨e1, e2, _⟩ := restW_inj (t := []) (t' := []) r0 r1 m0 q0 q1 n0 headIs_nil headIs_nil (by rw [List.append_nil, List.append_nil]; exact (List.cons.inj h2).2)
      rw [iT_inj a0 b0 (List.cons.inj h2).1, e1, e2]
theorem text_inj {d e : RD} (wd : d.Wf) (we : e.Wf) (h : d.text = e.text) : d = e := words_inj wd we (by rw [← split_text wd, ← split_text we, h])
theorem fixed_ruleG {CF CD CB : Addr} {H : Hp} {G : Hp → Prop} {x dx : Addr} {E : XK} {s r m l : Int} (wf : (RD.fixed s r m l).Wf) (hx : H x = none) (hd : H dx = none) (hQ : ∀ H', Same H H' → RuleAt CF CD H' x (.fixed s r m l) → G H') :
    spFixed CB CF [.ref x, .int s, .int r, .int m, .int l] (upd (upd H dx (.own x)) x (.ins CF dx [])) (fun v H' => v = .non ∧ G H') E := fixed_rule (CF := CF) (CD := CD) (Q := fun _ H' => G H') wf hx hd hQ
def oddLines : List Str := (["fixed 1\n", "\nfixed 1", "fixed\n1", "fixed 1_0", "down 0\n", "fixed 1 rest 1_0 of 3"] : List Str) ++ (["fixed 1 leave 2\n"] : List Str)
theorem odd_wrong : ∀ y ∈ oddLines, Plain 5000 y ∧ ∃ k, wrongL (Txt.split y sp1) = some k := by
  have q : oddLines.all (fun y => (decide (y.length ≤ 5000) && y.cps.all (· < 128)) && (wrongL (Txt.split y sp1)).isSome) = true := by decide +kernel
  intro y hy
  have z := List.all_eq_true.mp q y hy
  rw [Bool.and_eq_true] at z
  exact ⟨.of z.1, Option.isSome_iff_exists.mp z.2⟩
theorem empty_wrong : wrongL (Txt.split ("" : Str) sp1) = some 0 := by decide +kernel
theorem empty_plain : Plain 5000 ("" : Str) := .of (by decide +kernel)
section
variable {P : Program} {w : World} {K : PySem.W.Frag} {mg : Str → Option Value} {base : Heap} {CF CD CT CRl CB : Addr}
theorem ok_law {f fH fFx fPn fD fPk fPa fRu fLi fIn fWr fBe fLr fSF fSD fEqF fEqD CX c P1 P2 pL gL : Addr} {fd fdH fdFx fdPn fdD fdPk fdPa fdRu fdLi fdIn fdWr fdBe fdLr fdSF fdSD fdEqF fdEqD fdRL : FuncData} (F : Fun K "law" "law" s_law f fd) (code : fd.code = .ref c) (TB : LamX.TabB base mg c P2) (pne : P1 ≠ P2) (U : Blt mg) (PQ : PrgQ K CF CD) (Z : PrgH K mg CX CT) (SM : StrM P w K mg base CF CD fSF fSD fdSF fdSD)
    (Pn : Fun K "_law_pen" "_law_pen" s_pen fPn fdPn) (g_pen : mg "_law_pen" = some (.ref fPn)) (b_pen : L2.Binds K fdPn ["_law_script"] [])
    (D : Fun K "_law_draw" "_law_draw" s_draw fD fdD) (g_draw : mg "_law_draw" = some (.ref fD)) (b_draw : L2.Binds K fdD ["_law_pen_here", "_law_many"] [])
    (Pk : Fun K "_law_pick" "_law_pick" s_pick fPk fdPk) (g_pick : mg "_law_pick" = some (.ref fPk)) (b_pick : L2.Binds K fdPk ["_law_pen_here", "_law_some"] [])
    (Pa : Fun K "_law_parts" "_law_parts" s_parts fPa fdPa) (g_parts : mg "_law_parts" = some (.ref fPa)) (b_parts : L2.Binds K fdPa ["_law_pen_here", "_law_most"] [])
    (Ru : Fun K "_law_rule" "_law_rule" s_rule fRu fdRu) (g_rule : mg "_law_rule" = some (.ref fRu)) (b_rule : L2.Binds K fdRu ["_law_parts_here"] [])
    (Li : Fun K "_law_line" "_law_line" s_line fLi fdLi) (g_line : mg "_law_line" = some (.ref fLi)) (b_line : L2.Binds K fdLi ["_law_parts_here"] [])
    (In : Fun K "_law_is_number" "_law_is_number" s_isn fIn fdIn) (g_isn : mg "_law_is_number" = some (.ref fIn)) (b_isn : L2.Binds K fdIn ["_law_term", "_law_least", "_law_most"] [])
    (Wr : Fun K "_law_wrong" "_law_wrong" s_wrong fWr fdWr) (g_wrong : mg "_law_wrong" = some (.ref fWr)) (b_wrong : L2.Binds K fdWr ["_law_terms"] [])
    (Be : Fun K "_law_bent" "_law_bent" s_bent fBe fdBe) (g_bent : mg "_law_bent" = some (.ref fBe)) (b_bent : L2.Binds K fdBe ["_law_pen_here", "_law_line_here"] [])
    (Lr : Fun K "_law_read" "_law_read" s_lread fLr fdLr) (g_lread : mg "_law_read" = some (.ref fLr)) (b_lread : L2.Binds K fdLr ["_law_pen_here", "_law_line_here"] [])
    (G_rule : FnOk P w K mg base CX0 7 fRu fdRu ["_law_parts_here"] (spRule CF CD)) (G_lread : FnG P w K mg base CX0 12 fLr fdLr ["_law_pen_here", "_law_line_here"] (spLRead [(P1, lamP), (P2, lamL)]))
    (Hd : Fun K "_law_heard" "_law_heard" s_heard fH fdH) (gH : mg "_law_heard" = some (.ref fH)) (b_heard0 : L2.Binds K fdH ["_law_ask"] [])
    (RL : RdC P w K mg base CT CF CD CRl "Rule" pL gL fdRL)
    (Fx : FunFixed K fFx fdFx) (G_fixed : FnOk P w K mg base (L2.CX P w) 5 fFx fdFx pFx (spFixed CB CF)) (MkF : Mk K CF fFx) (gFx : mg "Fixed" = some (.ref CF))
    (oF : PySem.W.findIn K (.ref CF) "__eq__" = some (some (.ref fEqF))) (iF : PySem.W.isFn K (.ref fEqF) = true) (sF : PySem.W.findIn K (.ref CF) "__ne__" = some (some (.builtin "object.__ne__"))) (G_eqF : FnOk P w K mg base CX0 1 fEqF fdEqF ["self", "other"] (spEqR K CF)) (bF : L2.Binds K fdEqF ["self", "other"] [])
    (oD : PySem.W.findIn K (.ref CD) "__eq__" = some (some (.ref fEqD))) (iD : PySem.W.isFn K (.ref fEqD) = true) (sD : PySem.W.findIn K (.ref CD) "__ne__" = some (some (.builtin "object.__ne__"))) (G_eqD : FnOk P w K mg base CX0 1 fEqD fdEqD ["self", "other"] (spEqR K CD)) (bD : L2.Binds K fdEqD ["self", "other"] []) :
    FnG P w K mg base CX0 14 f fd ["_law_script"] (spLaw K P1 P2) := by
  have G_pen : FnOk P w K mg base CX0 1 fPn fdPn ["_law_script"] (spPen K) := ok_pen Pn U
  have G_pick : FnOk P w K mg base CX0 2 fPk fdPk ["_law_pen_here", "_law_some"] (spPick K) := ok_pick Pk U D g_draw b_draw
  have G_parts : FnOk P w K mg base CX0 3 fPa fdPa ["_law_pen_here", "_law_most"] spParts := ok_parts Pa U D g_draw b_draw Pk g_pick b_pick
  have G_line : FnOk P w K mg base CX0 1 fLi fdLi ["_law_parts_here"] spLine := ok_line Li U
  have G_wrong : FnOk P w K mg base CX0 2 fWr fdWr ["_law_terms"] spWrongL := ok_wrong Wr U In g_isn b_isn
  have G_bent : FnOk P w K mg base CX0 3 fBe fdBe ["_law_pen_here", "_law_line_here"] spBent := ok_bent Be U D g_draw b_draw Pk g_pick b_pick
  obtain ⟨ds1, rd1, b_f1⟩ := bf_one Fx
  obtain ⟨oc, od, kV, doc, pm, an, cdvH, ct, osl, rfl, lkH, codeH⟩ := Hd.ex
  have b_heard := b_heard0
  have mT : (P2, lamL) ∈ [(P1, lamP), (P2, lamL)] := List.mem_cons_of_mem _ List.mem_cons_self
  have uT : ∀ b ∈ [(P1, lamP), (P2, lamL)], b.1 = P2 → b.2 = lamL := fun b hb e => by
    simp only [List.mem_cons, List.not_mem_nil, or_false] at hb
    rcases hb with rfl | rfl
    · exact absurd e pne
    · rfl
  refine funG F sc_law (fun vs H Q E h => ?_) (fun cdv A outer s H vs Q E hcdv hr hg h => ?_)
  · obtain ⟨a, ns, rfl, _⟩ := h
    rfl
  · obtain ⟨a, ns, rfl, hs, few, htab1, htab2, fin⟩ := h
    obtain rfl : cdv = .ref c := hcdv.symm.trans code
    have hcode : ∀ {X : Cx}, X.env.code = .ref c → X.env.code = .ref c := id
    refine ⟨_, (pss_cons (ps_set (i := 1) sc_law.nd rfl (Or.inl rfl) (pe_call G_pen (hr.mono (by decide)) rfl g_pen Pn.kp b_pen .nil pass0 (by exact (pa_cons (pv 0) pa_nil))))
  (C8.pss_cut (ps_for PassesOwn.never rfl (pi_range1 rfl U.z_range (by exact (pa_cons pe_int pa_nil))) (pg_name (i := 2) sc_law.nd rfl (Or.inl rfl)) (pss_cons (ps_set (i := 6) sc_law.nd rfl (Or.inl rfl) (pe_call G_parts (hr.mono (by decide)) rfl g_parts Pa.kp b_parts .nil pass0 (by exact (pa_cons (pv 1) (pa_cons (pe_call G_pick (hr.mono (by decide)) rfl g_pick Pk.kp b_pick .nil pass0 (by exact (pa_cons (pv 1) (pa_cons (pe_lst (pa_cons pe_int (pa_cons pe_int (pa_cons pe_int pa_nil)))) pa_nil)))) pa_nil)))))
  (pss_cons (ps_asg (pe_tup (by exact (pa_cons (pe_call G_rule (hr.mono (by decide)) rfl g_rule Ru.kp b_rule .nil pass0 (by exact (pa_cons (pv 6) pa_nil))) (pa_cons (pe_call G_line (hr.mono (by decide)) rfl g_line Li.kp b_line .nil pass0 (by exact (pa_cons (pv 6) pa_nil))) pa_nil)))) (pg_tup rfl (pgs_cons (pg_name (i := 8) sc_law.nd rfl (Or.inl rfl)) (pgs_cons (pg_name (i := 4) sc_law.nd rfl (Or.inr rfl)) pgs_nil))))
  (pss_cons (ps_if (PW.pt (pw_or (pt_cmpR op_ne (pe_callTy (str_rule SM (hr.mono (by decide))) rfl U.z_str (by decide +kernel) (pa_cons (pv 8) pa_nil)) (pv 4) (nomark _)) (pw_or (pt_cmpR (op_neR oF iF sF PQ.tyF.gm G_eqF bF oD iD sD PQ.tyD.gm G_eqD bD (hr.mono (by decide))) (ClX.pe_cmeth (pe_glob (v := .ref _) rfl RL.g_ rfl) RL.rd RL.met RL.raw (hr.mono (by decide)) (passes_call LamX.takes0 (fun _ _ _ _ h => h)) (by exact (pa_cons (pv 4) pa_nil))) (pv 8) (nomark _)) (pw_or1 (pt_cmpR (op_neD hr.units) (pe_callG G_lread (hr.mono (by decide)) hg rfl g_lread Lr.kp b_lread .nil pass0 (by exact (pa_cons (pv 1) (pa_cons (pv 4) pa_nil)))) (pe_tup (pa_cons pe_str (pa_cons (pv 4) pa_nil))) (nomark _)))))) (pss_one (ps_ret pe_bl)) pss_nil)
  (pss_one (ps_for PassesOwn.never rfl (pi_range1 rfl U.z_range (by exact (pa_cons pe_int pa_nil))) (pg_name (i := 7) sc_law.nd rfl (Or.inl rfl)) (pss_cons (ps_set (i := 9) sc_law.nd rfl (Or.inl rfl) (pe_call G_bent (hr.mono (by decide)) rfl g_bent Be.kp b_bent .nil pass0 (by exact (pa_cons (pv 1) (pa_cons (pv 4) pa_nil)))))
  (pss_cons (ps_set (i := 10) sc_law.nd rfl (Or.inl rfl) (pe_call G_wrong (hr.mono (by decide)) rfl g_wrong Wr.kp b_wrong .nil pass0 (by exact (pa_cons (pe_split (pv 9) pe_str) pa_nil))))
  (pss_cons (ps_set (i := 11) sc_law.nd rfl (Or.inl rfl) (pe_callG G_lread (hr.mono (by decide)) hg rfl g_lread Lr.kp b_lread .nil pass0 (by exact (pa_cons (pv 1) (pa_cons (pv 9) pa_nil)))))
  (pss_one (ps_if (PW.pt (pw_or (PW.pt (pw_and (pt_cmpR op_notN (pv 10) pe_non (nomark _)) (pw_and1 (pt_cmpR (op_neD hr.units) (pv 11) (pe_tup (pa_cons pe_str (pa_cons pe_int (pa_cons (pv 10) pa_nil)))) (nomark _))))) (pw_or1 (PW.pt (pw_and (pt_cmpR op_isN (pv 10) pe_non (nomark _)) (pw_and1 (pt_cmpR (op_neD hr.units) (pv 11) (pe_tup (pa_cons pe_str (pa_cons (pv 9) pa_nil))) (nomark _)))))))) (pss_one (ps_ret pe_bl)) pss_nil)))))))))))
  (pss_cons (ps_set (i := 3) sc_law.nd rfl (Or.inl rfl) (pe_lst (pa_cons pe_str (pa_cons pe_str (pa_cons pe_str (pa_cons pe_str (pa_cons pe_str (pa_cons pe_str pa_nil))))))))
  (C8.pss_cut (ps_for PassesOwn.never rfl (pi_list (pe_op op_cat (pv 3) (pe_lst (pa_cons pe_str pa_nil)))) (pg_name (i := 4) sc_law.nd rfl (Or.inr rfl)) (pss_one (ps_if (pt_cmpR (op_neD hr.units) (pe_box (LamX.pe_lamcall (k := 9) (t := tRd CT CF CD CRl 4) (T := [(P1, lamP), (P2, lamL)]) rfl gH Hd.kp lkH codeH b_heard sc_heard rfl (Or.inl rfl) (heard_gives U Z SM (hr.mono (by decide))) TB (hcode rfl) mT uT (hr.mono (by decide)) (LamX.lamS_by (by kernel_rfl)) rfl (fun _ _ _ _ _ => rfl) (fun A2 outer2 s2 H2 E2 f2 c2 hr2 => (ClX.pe_cmeth (pe_glob (v := .ref _) rfl RL.g_ rfl) RL.rd RL.met RL.raw (hr2.mono (by decide)) (passes_call (takes_of rfl rfl rfl rfl) (fun _ _ _ _ h => h)) (by exact (pa_cons (pv 4) pa_nil)))))) (pe_tup (pa_cons pe_str (pa_cons pe_int (pa_cons (pe_call G_wrong (hr.mono (by decide)) rfl g_wrong Wr.kp b_wrong .nil pass0 (by exact (pa_cons (pe_split (pv 4) pe_str) pa_nil))) pa_nil)))) (nomark _)) (pss_one (ps_ret pe_bl)) pss_nil)))
  (C8.pss_cut (ps_set (i := 5) sc_law.nd rfl (Or.inr rfl) (pe_call G_pick (hr.mono (by decide)) rfl g_pick Pk.kp b_pick .nil pass0 (by exact (pa_cons (pv 1) (pa_cons (pe_lst (pa_cons pe_non (pa_cons pe_bl (pa_cons pe_int (pa_cons (pe_lst (pa_cons pe_str pa_nil)) (pa_cons (pe_tup (pa_cons pe_str (pa_cons pe_str pa_nil))) (pa_cons pe_dnewK (pa_cons (pe_box (pe_make MkF G_fixed (hr.mono (by decide)) rfl gFx b_f1 rd1 (passes_call LamX.takes0 (fun _ _ _ _ h => h)) (by exact (pa_cons pe_int pa_nil)))) (pa_cons (pe_op op_pow pe_int pe_int) (pa_cons pe_str pa_nil)))))))))) pa_nil)))))
  (pss_one (ps_ret (pe_cmpR (op_eqD hr.units) (pe_box (LamX.pe_lamcall (k := 9) (t := tRd CT CF CD CRl 5) (T := [(P1, lamP), (P2, lamL)]) rfl gH Hd.kp lkH codeH b_heard sc_heard rfl (Or.inl rfl) (heard_gives U Z SM (hr.mono (by decide))) TB (hcode rfl) mT uT (hr.mono (by decide)) (LamX.lamS_by (by kernel_rfl)) rfl (fun _ _ _ _ _ => rfl) (fun A2 outer2 s2 H2 E2 f2 c2 hr2 => (ClX.pe_cmeth (pe_glob (v := .ref _) rfl RL.g_ rfl) RL.rd RL.met RL.raw (hr2.mono (by decide)) (passes_call (takes_of rfl rfl rfl rfl) (fun _ _ _ _ h => h)) (by exact (pa_cons (pv 5) pa_nil)))))) (pe_tup (pa_cons pe_str (pa_cons pe_int (pa_cons pe_int pa_nil)))) (nomark _))))))))), ?_⟩
    refine ⟨_, rfl, a, ns, rfl, hs, few, fun H0 p q hp0 hq0 pen0 same0 => ?_⟩
    have tabs0 : LamX.Tabs [(P1, lamP), (P2, lamL)] H0 := fun b hb => by
      simp only [List.mem_cons, List.not_mem_nil, or_false] at hb
      rcases hb with rfl | rfl
      · exact LamX.TabS.nil (same0 _ _ htab1)
      · exact LamX.TabS.nil (same0 _ _ htab2)
    have big : (100000 : Nat) ≤ sizeLine := by show 100000 ≤ 16777216; decide
    have spl : (sp1.length == 0) = false := by decide +kernel
    -- the turns
    refine ⟨fun σ' H' => ∃ v2 v4 v6 v7 v8 v9 v10 v11 : Option V, σ' = [some (.ref a), some (.ref p), v2, none, v4, none, v6, v7, v8, v9, v10, v11] ∧ PenAt 720 H' p q ∧ LamX.Tabs [(P1, lamP), (P2, lamL)] H', ?_, ?_⟩
    · refine ⟨12, rfl, by decide, by decide, for_range (lo := 0) (n := 12) (fun i σ' H' => ∃ v2 v4 v6 v7 v8 v9 v10 v11 : Option V, σ' = [some (.ref a), some (.ref p), v2, none, v4, none, v6, v7, v8, v9, v10, v11] ∧ PenAt (60 * i) H' p q ∧ LamX.Tabs [(P1, lamP), (P2, lamL)] H')
        ⟨_, _, _, _, _, _, _, _, rfl, pen0, tabs0⟩ ?_ ?_⟩
      rotate_left
      · rintro σ' H' ⟨v2, v4, v6, v7, v8, v9, v10, v11, rfl, pen, tabs⟩
        exact ⟨_, _, _, _, _, _, _, _, rfl, pen.more (by decide), tabs⟩
      rintro i σ' H1 hi ⟨v2, v4, v6, v7, v8, v9, v10, v11, rfl, pen1, tabs1⟩
      refine ⟨_, rfl, _, rfl, by show 3 ≤ sizeLine; decide, fun l0 hl0 => ?_⟩
      refine ⟨60 * i, p, q, l0, _, rfl, pen1.new hl0, by omega, (pen1.fresh hl0).1, upd_same, by show 0 < 3; decide, by show 3 ≤ 1000; decide, fun H2 y p2 m2 hy => ?_⟩
      have m12 := (Mv.new hl0).trans m2
      obtain ⟨most, rfl, o0, o1⟩ : ∃ most, y = .int most ∧ 3 ≤ most ∧ most ≤ 400 := by
        simp only [List.mem_cons, List.not_mem_nil, or_false] at hy
        rcases hy with rfl | rfl | rfl <;> exact ⟨_, rfl, by decide, by decide⟩
      refine ⟨60 * i + 1, p, q, most, rfl, p2, by omega, by omega, by omega, fun H3 tp d pen3 mv3 un3 at3 wf hF hD => ?_⟩
      refine ⟨_, rfl, tp, d, rfl, at3, wf, fun H4 x s4 unx rx => ?_⟩
      obtain ⟨xs1, hpl⟩ := pen1.lst
      have tabs4 := (tabs_mv hpl (m12.trans mv3) tabs1).ext s4
      have pen4 := pen3.same s4
      have at4 := s4 _ _ at3
      refine ⟨_, rfl, tp, d, rfl, at4, wf, by show 2 ≤ sizeLine; decide, fun t ht => ?_⟩
      have s5 := Same.new (o := .tup [V.ref x, .str d.text]) ht
      have rx5 := rx.same s5
      have pen5 := pen4.new (o := .tup [V.ref x, .str d.text]) ht
      have tabs5 := tabs4.ext s5
      refine ⟨t, _, rfl, SqT.of upd_same, rfl, _, _, rfl, _, _, rfl, rfl, ?_⟩
      have rw5 := wrong_words wf
      have st5 := split_text wf
      have ok5 : ∀ Hx, ReadOk CF CD Hx (.str d.text) := fun Hx => .inr ⟨_, rfl, plain_text wf⟩
      refine ⟨_, rfl, str_of rx5 wf ⟨_, rfl, rfl, _, rfl, ?_⟩⟩
      rw [decide_eq_true rfl]
      refine iteF ?_
      refine ⟨rfl, _, rfl, CRl, _, rfl, .inr ⟨d.text, rfl, plain_text wf, fun k e => ?_, fun d2 wf2 ed e H6 y s6 ry => ?_⟩⟩
      · rw [st5, rw5] at e
        cases e
      obtain rfl : d2 = d := text_inj wf2 wf ed.symm
      refine ⟨_, rfl, ne_rules PQ ry (rx5.same s6) wf wf ⟨_, rfl, ?_⟩⟩
      rw [decide_eq_true rfl]
      refine iteF ?_
      have pen6 := pen5.same s6
      have tabs6 := tabs5.ext s6
      refine ⟨_, rfl, _, rfl, 60 * i + 7, p, q, d2.text, rfl, pen6, by omega, plain_text wf, tabs6, fun H7 t7 pen7 mv7 tabs7 at7 => ?_⟩
      refine ⟨_, rfl, by show 2 ≤ sizeLine; decide, fun t8 ht8 => ?_⟩
      have s8 := Same.new (o := .tup [V.str "told", .str d2.text]) ht8
      have rt : readTup (.str d2.text) = [V.str "told", .str d2.text] := by
        unfold readTup
        dsimp only
        rw [st5, rw5]
      refine ne_read (ok5 H7) (s8 _ _ at7) (by rw [rt]; exact upd_same) ⟨_, rfl, iteF ?_⟩
      -- the bent texts
      refine ⟨5, rfl, by decide, by decide, for_range (lo := 0) (n := 5) (fun j σ' H' => ∃ v7 v9 v10 v11 : Option V, σ' = [some (.ref a), some (.ref p), some (.int (0 + (i : Nat))), none, some (.str d2.text), none, some (.ref tp), v7, some (.ref x), v9, v10, v11] ∧ PenAt (60 * i + 8 + 8 * j) H' p q ∧ LamX.Tabs [(P1, lamP), (P2, lamL)] H')
        ⟨_, _, _, _, rfl, pen7.new ht8, tabs7.ext s8⟩ ?_ ?_⟩
      · rintro j σ' H8 hj ⟨v7, v9, v10, v11, rfl, pen8, tabs8⟩
        obtain ⟨xs8, hp8⟩ := pen8.lst
        refine ⟨_, rfl, _, rfl, 60 * i + 8 + 8 * j, p, q, d2.text, rfl, pen8, by omega, (plain_text wf).len, by rw [st5]; exact plain_words wf, fun H9 y pen9 mv9 ply => ?_⟩
        have tabs9 := tabs_mv hp8 mv9 tabs8
        have okb : ∀ Hx, ReadOk CF CD Hx (.str y) := fun Hx => .inr ⟨_, rfl, ply⟩
        refine ⟨_, rfl, ⟨_, rfl⟩, y, _, rfl, rfl, spl, by have := ply.len; omega, fun l hl => ?_⟩
        have s9 := Same.new (o := .lst ((Txt.split y sp1).map V.str)) hl
        refine ⟨l, Txt.split y sp1, rfl, upd_same, split_ne y, ply.ws, fun H10 s10 => ?_⟩
        have pen10 := pen9.same (s9.trans s10)
        have tabs10 := tabs9.ext (s9.trans s10)
        refine ⟨_, rfl, _, rfl, 60 * i + 8 + 8 * j + 7, p, q, y, rfl, pen10, by omega, ply, tabs10, fun H11 t11 pen11 mv11 tabs11 at11 => ?_⟩
        refine ⟨_, rfl, rfl, _, rfl, ?_⟩
        cases e : wrongL (Txt.split y sp1) with
        | none =>
          refine iteF (iteF ?_)
          refine ⟨_, rfl, rfl, _, rfl, iteT ?_⟩
          refine ⟨_, rfl, _, rfl, by show 2 ≤ sizeLine; decide, fun t12 ht12 => ?_⟩
          have s12 := Same.new (o := .tup [V.str "told", .str y]) ht12
          have rt2 : readTup (.str y) = [V.str "told", .str y] := by
            unfold readTup
            dsimp only
            rw [e]
          refine ne_read (okb H11) (s12 _ _ at11) (by rw [rt2]; exact upd_same) ⟨_, rfl, iteF ?_⟩
          exact ⟨_, _, _, _, rfl, (pen11.new ht12).more (by omega), tabs11.ext s12⟩
        | some k =>
          refine iteT ?_
          refine ⟨_, rfl, _, rfl, by show 3 ≤ sizeLine; decide, fun t12 ht12 => ?_⟩
          have s12 := Same.new (o := .tup [V.str "text", .int 0, .int (k : Nat)]) ht12
          have rt2 : readTup (.str y) = [V.str "text", .int 0, .int (k : Nat)] := by
            unfold readTup
            dsimp only
            rw [e]
          refine ne_read (okb H11) (s12 _ _ at11) (by rw [rt2]; exact upd_same) ⟨_, rfl, iteF ?_⟩
          refine ⟨_, rfl, rfl, _, rfl, iteF (iteF ?_)⟩
          exact ⟨_, _, _, _, rfl, (pen11.new ht12).more (by omega), tabs11.ext s12⟩
      · rintro σ' H' ⟨v7, v9, v10, v11, rfl, pen, tabs⟩
        exact ⟨_, _, _, _, _, _, _, _, rfl, pen.more (by omega), tabs⟩
    rintro σ' H1 ⟨v2, v4, v6, v7, v8, v9, v10, v11, rfl, pen1, tabs1⟩
    -- the odd lines
    refine ⟨by show 6 ≤ sizeLine; decide, fun so hso => ?_⟩
    have s1 := Same.new (o := .lst ((["fixed 1\n", "\nfixed 1", "fixed\n1", "fixed 1_0", "down 0\n", "fixed 1 rest 1_0 of 3"] : List Str).map V.str)) hso
    refine ⟨fun σ' H' => ∃ v4 : Option V, σ' = [some (.ref a), some (.ref p), v2, some (.ref so), v4, none, v6, v7, v8, v9, v10, v11] ∧ PenAt 720 H' p q ∧ LamX.Tabs [(P1, lamP), (P2, lamL)] H', ?_, ?_⟩
    · refine ⟨_, rfl, by show 1 ≤ sizeLine; decide, fun l1 hl1 => ?_⟩
      have s2 := Same.new (o := .lst ((["fixed 1 leave 2\n"] : List Str).map V.str)) hl1
      refine ⟨so, l1, _, _, rfl, rfl, s2 _ _ upd_same, upd_same, by show 6 + 1 ≤ sizeLine; decide, fun l2 hl2 => ?_⟩
      have s3 := Same.new (o := .lst (oddLines.map V.str)) hl2
      have s123 := (s1.trans s2).trans s3
      refine ⟨l2, rfl, ⟨_, SqL.of upd_same⟩, ?_⟩
      refine for_list (K := K) (a := l2) (xs := oddLines.map V.str) (fun i σ' H' => ∃ v4 : Option V, σ' = [some (.ref a), some (.ref p), v2, some (.ref so), v4, none, v6, v7, v8, v9, v10, v11] ∧ PenAt 720 H' p q ∧ LamX.Tabs [(P1, lamP), (P2, lamL)] H' ∧ H' l2 = some (.lst (oddLines.map V.str))) ⟨_, rfl, pen1.same s123, tabs1.ext s123, upd_same⟩ ?_ ?_ ?_
      · rintro i σ' H' _ ⟨v4, rfl, _, _, h⟩
        exact SqL.of h
      · rintro i y σ' H' hy ⟨v4, rfl, pen, tabs, hl⟩
        obtain ⟨z, hz, rfl⟩ := List.mem_map.mp (List.mem_of_getElem? hy)
        obtain ⟨ply, k, e⟩ := odd_wrong z hz
        have okz : ∀ Hx, ReadOk CF CD Hx (.str z) := fun Hx => .inr ⟨_, rfl, ply⟩
        refine heard_rd tabs rfl (okz _) fun H2 t e2 tabs2 at2 => ?_
        refine ⟨_, rfl, ⟨_, rfl⟩, z, _, rfl, rfl, spl, by have := ply.len; omega, fun l hl3 => ?_⟩
        have s9 := Same.new (o := .lst ((Txt.split z sp1).map V.str)) hl3
        refine ⟨l, Txt.split z sp1, rfl, upd_same, split_ne z, ply.ws, fun H10 s10 => ?_⟩
        rw [e]
        refine ⟨by show 3 ≤ sizeLine; decide, fun t12 ht12 => ?_⟩
        have s12 := Same.new (o := .tup [V.str "text", .int 0, .int (k : Nat)]) ht12
        have rt2 : readTup (.str z) = [V.str "text", .int 0, .int (k : Nat)] := by
          unfold readTup
          dsimp only
          rw [e]
        have sx := (s9.trans s10).trans s12
        refine ne_read (okz H2) (sx _ _ at2) (by rw [rt2]; exact upd_same) ⟨_, rfl, iteF ?_⟩
        exact ⟨_, rfl, (pen.ext e2).same sx, tabs2.ext sx, sx _ _ (e2 _ _ hl fun _ z => nomatch z)⟩
      · rintro σ' H' ⟨v4, rfl, pen, tabs, _⟩
        exact ⟨_, rfl, pen, tabs⟩
    rintro σ' H2 ⟨v4, rfl, pen2, tabs2⟩
    -- an odd value
    refine ⟨fun σ' H' => ∃ v : V, σ' = [some (.ref a), some (.ref p), v2, some (.ref so), v4, some v, v6, v7, v8, v9, v10, v11] ∧ LamX.Tabs [(P1, lamP), (P2, lamL)] H' ∧ ReadOk CF CD H' v ∧ readTup v = [.str "text", .int 0, .int 0], ?_, ?_⟩
    · refine ⟨_, rfl, by show 1 ≤ sizeLine; decide, fun l0 hl0 => ⟨by show 2 ≤ sizeLine; decide, fun t0 ht0 => fun d0 hd0 => ⟨fun x dx hx hdx ne => ?_⟩⟩⟩
      show spFixed CB CF [V.ref x, V.int 1, V.int 0, V.int 1, V.int 0] _ _ _
      refine fixed_ruleG (CF := CF) (CD := CD) (s := 1) (r := 0) (m := 1) (l := 0) ⟨by decide, by decide, by decide, by decide, by decide, by decide, by decide, by decide⟩ hx hdx fun H3 s3 rx => ?_
      refine ⟨_, _, rfl, rfl, ⟨by decide, by decide, by decide⟩, by show 9 ≤ sizeLine; decide, fun l1 hl1 => ?_⟩
      have u1 := Same.new (o := .lst [V.str "fixed 1"]) hl0
      have u2 := Same.new (o := .tup [V.str "fixed", .str "1"]) ht0
      have u3 := Same.new (o := .dK []) hd0
      have u4 := Same.new (o := .lst [V.non, .bl true, .int 1, .ref l0, .ref t0, .ref d0, .ref x, .int (10 ^ 30), .str ""]) hl1
      have ua := ((u1.trans u2).trans u3).trans s3
      have pen3 := pen2.same ua
      obtain ⟨xs0, hp0⟩ := pen3.lst
      refine ⟨720, p, q, l1, _, rfl, pen3.new hl1, by omega, (pen3.fresh hl1).1, upd_same, by show 0 < 9; decide, by show 9 ≤ 1000; decide, fun H4 y p4 m4 hy => ?_⟩
      have tabs3 := tabs2.ext ua
      have tabs4 : LamX.Tabs [(P1, lamP), (P2, lamL)] H4 := tabs_mv (u4 _ _ hp0) m4 (tabs3.ext u4)
      have none0 : ∀ {b : Addr} {o : HO} {Hx : Hp}, Hx b = none → PenAt 720 Hx p q → b ≠ p := fun hb pn => (pn.fresh hb).1
      have pn1 := pen2.new (o := .lst [V.str "fixed 1"]) hl0
      have pn2 := pn1.new (o := .tup [V.str "fixed", .str "1"]) ht0
      have cN : ∀ v, NoText CF CD H4 v → ∃ v' : V, [some (V.ref a), some (.ref p), v2, some (.ref so), v4, some v, v6, v7, v8, v9, v10, v11] = [some (.ref a), some (.ref p), v2, some (.ref so), v4, some v', v6, v7, v8, v9, v10, v11] ∧ LamX.Tabs [(P1, lamP), (P2, lamL)] H4 ∧ ReadOk CF CD H4 v' ∧ readTup v' = [.str "text", .int 0, .int 0] := fun v nt => ⟨v, rfl, tabs4, .inl nt, nt.tup⟩
      simp only [List.mem_cons, List.not_mem_nil, or_false] at hy
      rcases hy with rfl | rfl | rfl | rfl | rfl | rfl | rfl | rfl | rfl
      · exact cN _ (.inl rfl)
      · exact cN _ (.inr (.inl ⟨_, rfl⟩))
      · exact cN _ (.inr (.inr (.inl ⟨_, rfl⟩)))
      · exact cN _ (.inr (.inr (.inr (.inl ⟨_, _, rfl, m4 _ _ (pen2.fresh hl0).1 (u4 _ _ (s3 _ _ (u3 _ _ (u2 _ _ upd_same))))⟩))))
      · exact cN _ (.inr (.inr (.inr (.inr (.inl ⟨_, _, rfl, m4 _ _ (pn1.fresh ht0).1 (u4 _ _ (s3 _ _ (u3 _ _ upd_same)))⟩)))))
      · exact cN _ (.inr (.inr (.inr (.inr (.inr (.inl ⟨_, rfl, m4 _ _ (pn2.fresh hd0).1 (u4 _ _ (s3 _ _ upd_same))⟩))))))
      · exact cN _ (.inr (.inr (.inr (.inr (.inr (.inr ⟨_, _, rfl, (rx.same u4).mv (pen3.new hl1) m4⟩))))))
      · exact cN _ (.inr (.inr (.inl ⟨_, rfl⟩)))
      · refine ⟨_, rfl, tabs4, .inr ⟨_, rfl, empty_plain⟩, ?_⟩
        unfold readTup
        dsimp only
        rw [empty_wrong]
        rfl
    rintro σ' H3 ⟨v, rfl, tabs3, okv, rt⟩
    refine heard_rd tabs3 rfl okv fun H4 t e4 tabs4 at4 => ?_
    refine ⟨by show 3 ≤ sizeLine; decide, fun t5 ht5 => ?_⟩
    have s5 := Same.new (o := .tup [V.str "text", .int 0, .int 0]) ht5
    exact eq_read okv (s5 _ _ at4) (by rw [rt]; exact upd_same) (fin _)
end
end Fz
set_option Elab.async false
set_option linter.all false
set_option maxRecDepth 100000
set_option maxHeartbeats 2000000
namespace Fz
open PySem PySem.Spec PyProof.Rows L2
/-- one step of a reading -/
local macro_rules | `(tactic| walk_at "st") => `(tactic| first
  | refine ⟨_, rfl, ?_⟩
  | refine Or.inl ⟨_, rfl, ?_⟩
  | refine Or.inr ⟨_, rfl, ?_⟩
  | refine ⟨_, _, _, _, rfl, rfl, SqL.of (by first | assumption | exact upd_same), rfl, ?_⟩
  | refine ⟨_, _, _, _, rfl, rfl, (by first | assumption | exact upd_same), rfl, ?_⟩
  | refine ⟨_, _, rfl, .inl ⟨_, SqL.of (by first | assumption | exact upd_same), rfl⟩, ?_⟩
  | refine ⟨_, _, rfl, rfl, (show (0 : Int) < _ by first | decide | omega), ?_⟩
  | refine ⟨_, _, rfl, rfl, (show (0 : Int) < _ ∧ _ < _ by first | exact ⟨by decide, by decide⟩ | omega), ?_⟩
  | refine ⟨_, _, rfl, rfl, (show (_ < _ ∧ _ < _) ∨ (_ < _ ∧ _ < _) by first | exact .inl ⟨by decide, by decide⟩ | omega), ?_⟩
  | refine ⟨_, _, rfl, rfl, (show (0 : Int) ≤ _ ∧ _ ≤ _ ∧ _ < _ by first | exact ⟨by decide, by decide, by decide⟩ | exact ⟨by decide, by decide, by omega⟩), ?_⟩
  | refine ⟨_, _, rfl, rfl, ?_⟩)

theorem all_mk {l : PySem.W.OpenLaw} {w : World} {K : PySem.W.Frag} {h : Heap} {mg mb : Str → Option Value} {fa : Addr} {qp : Program} {lo : List Str} {mean : ExcName → Option Value} (X : K.In h) (Tp : Top qp lo mean mg mb h) (hfa : mg "law" = some (.ref fa)) {dLr : DefRec} (hrLr : (recsOf qp).find? (fun e : DefRec => e.name == ("_law_read" : Str)) = some dLr) {dL : DefRec} (hrL : (recsOf qp).find? (fun e : DefRec => e.name == ("law" : Str)) = some dL)
    {kodLr PLr kodL PL : Addr}
    {CRl : Addr}
    {CRs : Addr}
    {CF : Addr}
    {CD : Addr}
    {CSz : Addr}
    {CB : Addr}
    {CX : Addr}
    {fN : Addr}
    {odN anN : Option Addr} {slN : Array (Option Value)} {ocN kVN dcN pmN cdN ctN : Value}
    {fRK : Addr}
    {odRK anRK : Option Addr} {slRK : Array (Option Value)} {ocRK kVRK dcRK pmRK cdRK ctRK : Value}
    {fB : Addr}
    {odB anB : Option Addr} {slB : Array (Option Value)} {ocB kVB dcB pmB cdB ctB : Value}
    {fRs : Addr}
    {odRs anRs : Option Addr} {slRs : Array (Option Value)} {ocRs kVRs dcRs pmRs cdRs ctRs : Value}
    {fSz : Addr}
    {odSz anSz : Option Addr} {slSz : Array (Option Value)} {ocSz kVSz dcSz pmSz cdSz ctSz : Value}
    {fFx : Addr}
    {odFx anFx : Option Addr} {slFx : Array (Option Value)} {ocFx kVFx dcFx pmFx cdFx ctFx : Value}
    {fDn : Addr}
    {odDn anDn : Option Addr} {slDn : Array (Option Value)} {ocDn kVDn dcDn pmDn cdDn ctDn : Value}
    {TdFx : Addr} {ocdFx : Value} {oddFx : Option Addr} {ndFx : Nat} {sldFx : Array (Option Value)} {tdFx0 tdFx1 tdFx2 : Tok}
    {TdDn : Addr} {ocdDn : Value} {oddDn : Option Addr} {ndDn : Nat} {sldDn : Array (Option Value)} {tdDn0 tdDn1 : Tok}
    {t_CRl_MOST : Tok}
    {t_CRl_MOST_MODULUS : Tok}
    {nmCB q_CB : Str} {N_CB : Addr} {bsCB bmCB : List Value} {snCB : List Str} {subCB : List Value} {abCB : Bool} {colCB : Option Bool} {ddCB : Option Addr} {m0CB m1CB m2CB m3CB m5CB : Option Value}
    {fEF : Addr}
    {odEF anEF : Option Addr} {slEF : Array (Option Value)} {ocEF kVEF dcEF pmEF cdEF ctEF : Value}
    {fED : Addr}
    {odED anED : Option Addr} {slED : Array (Option Value)} {ocED kVED dcED pmED cdED ctED : Value}
    {fRT : Addr}
    {odRT anRT : Option Addr} {slRT : Array (Option Value)} {ocRT kVRT dcRT pmRT cdRT ctRT : Value}
    {fLT : Addr}
    {odLT anLT : Option Addr} {slLT : Array (Option Value)} {ocLT kVLT dcLT pmLT cdLT ctLT : Value}
    {fSF : Addr}
    {odSF anSF : Option Addr} {slSF : Array (Option Value)} {ocSF kVSF dcSF pmSF cdSF ctSF : Value}
    {fSD : Addr}
    {odSD anSD : Option Addr} {slSD : Array (Option Value)} {ocSD kVSD dcSD pmSD cdSD ctSD : Value}
    {fPn : Addr}
    {odPn anPn : Option Addr} {slPn : Array (Option Value)} {ocPn kVPn dcPn pmPn cdPn ctPn : Value}
    {fD : Addr}
    {odD anD : Option Addr} {slD : Array (Option Value)} {ocD kVD dcD pmD cdD ctD : Value}
    {fPk : Addr}
    {odPk anPk : Option Addr} {slPk : Array (Option Value)} {ocPk kVPk dcPk pmPk cdPk ctPk : Value}
    {fNo : Addr}
    {odNo anNo : Option Addr} {slNo : Array (Option Value)} {ocNo kVNo dcNo pmNo cdNo ctNo : Value}
    {fLm : Addr}
    {odLm anLm : Option Addr} {slLm : Array (Option Value)} {ocLm kVLm dcLm pmLm cdLm ctLm : Value}
    {fRw : Addr}
    {odRw anRw : Option Addr} {slRw : Array (Option Value)} {ocRw kVRw dcRw pmRw cdRw ctRw : Value}
    {fFi : Addr}
    {odFi anFi : Option Addr} {slFi : Array (Option Value)} {ocFi kVFi dcFi pmFi cdFi ctFi : Value}
    {fWa : Addr}
    {odWa anWa : Option Addr} {slWa : Array (Option Value)} {ocWa kVWa dcWa pmWa cdWa ctWa : Value}
    {fWw : Addr}
    {odWw anWw : Option Addr} {slWw : Array (Option Value)} {ocWw kVWw dcWw pmWw cdWw ctWw : Value}
    {fRo : Addr}
    {odRo anRo : Option Addr} {slRo : Array (Option Value)} {ocRo kVRo dcRo pmRo cdRo ctRo : Value}
    {fPa : Addr}
    {odPa anPa : Option Addr} {slPa : Array (Option Value)} {ocPa kVPa dcPa pmPa cdPa ctPa : Value}
    {fRu : Addr}
    {odRu anRu : Option Addr} {slRu : Array (Option Value)} {ocRu kVRu dcRu pmRu cdRu ctRu : Value}
    {fHd : Addr}
    {odHd anHd : Option Addr} {slHd : Array (Option Value)} {ocHd kVHd dcHd pmHd cdHd ctHd : Value}
    {fLi : Addr}
    {odLi anLi : Option Addr} {slLi : Array (Option Value)} {ocLi kVLi dcLi pmLi cdLi ctLi : Value}
    {fIn : Addr}
    {odIn anIn : Option Addr} {slIn : Array (Option Value)} {ocIn kVIn dcIn pmIn cdIn ctIn : Value}
    {fWr : Addr}
    {odWr anWr : Option Addr} {slWr : Array (Option Value)} {ocWr kVWr dcWr pmWr cdWr ctWr : Value}
    {fBe : Addr}
    {odBe anBe : Option Addr} {slBe : Array (Option Value)} {ocBe kVBe dcBe pmBe cdBe ctBe : Value}
    {fLr : Addr}
    {odLr anLr : Option Addr} {slLr : Array (Option Value)} {ocLr kVLr dcLr pmLr  ctLr : Value}
    {CT : Addr}
    {fBt : Addr}
    {odBt anBt : Option Addr} {slBt : Array (Option Value)} {ocBt kVBt dcBt pmBt cdBt ctBt : Value}
    {nmCT q_CT : Str} {N_CT : Addr} {bsCT bmCT : List Value} {snCT : List Str} {subCT : List Value} {abCT : Bool} {colCT : Option Bool} {ddCT : Option Addr} {m0CT m1CT m2CT m3CT m5CT : Option Value}
    {pRd : Addr}
    {restRd : List Value}
    {fRd : Addr}
    {odRd anRd : Option Addr} {slRd : Array (Option Value)} {ocRd kVRd dcRd pmRd cdRd ctRd : Value}
    {fL : Addr}
    {odL anL : Option Addr} {slL : Array (Option Value)} {ocL kVL dcL pmL  ctL : Value}
    {occLr : Value} {odccLr : Option Addr} {vscLr : Array Value} {slccLr : Array (Option Value)}
    {occL : Value} {odccL : Option Addr} {vscL : Array Value} {slccL : Array (Option Value)}
    (gRl : PySem.W.nsIn K mainGlobals "Rule" = some (some (.ref CRl)))
    (gRs : PySem.W.nsIn K mainGlobals "Rested" = some (some (.ref CRs)))
    (gF : PySem.W.nsIn K mainGlobals "Fixed" = some (some (.ref CF)))
    (gDn : PySem.W.nsIn K mainGlobals "Down" = some (some (.ref CD)))
    (gSz : PySem.W.nsIn K mainGlobals "Sized" = some (some (.ref CSz)))
    (gB : PySem.W.nsIn K mainGlobals "BadRule" = some (some (.ref CB)))
    (gX : PySem.W.nsIn K mainGlobals "FreeError" = some (some (.ref CX)))
    (aN : PySem.W.nsIn K mainGlobals "is_number" = some (some (.ref fN)))
    (lN : K.lookup fN = some ⟨ocN, odN, .func (PySem.W.fnOf "is_number" "is_number" (defArgs s_is_number) (defBody s_is_number) (defScope s_is_number) .none kVN dcN pmN anN cdN ctN), slN⟩)
    (cN : PySem.W.codeIn K cdN "is_number" = true)
    (kN : PySem.W.keepIn K (.ref fN) = true)
    (aRK : PySem.W.nsIn K mainGlobals "rank_of" = some (some (.ref fRK)))
    (lRK : K.lookup fRK = some ⟨ocRK, odRK, .func (PySem.W.fnOf "rank_of" "rank_of" (defArgs s_rank_of) (defBody s_rank_of) (defScope s_rank_of) .none kVRK dcRK pmRK anRK cdRK ctRK), slRK⟩)
    (cRK : PySem.W.codeIn K cdRK "rank_of" = true)
    (kRK : PySem.W.keepIn K (.ref fRK) = true)
    (aB : PySem.W.findIn K (.ref CB) "__init__" = some (some (.ref fB)))
    (lB : K.lookup fB = some ⟨ocB, odB, .func (PySem.W.fnOf "__init__" "BadRule.__init__" (defArgs s_badI) (defBody s_badI) (defScope s_badI) .none kVB dcB pmB anB cdB ctB), slB⟩)
    (cB : PySem.W.codeIn K cdB "BadRule.__init__" = true)
    (kB : PySem.W.keepIn K (.ref fB) = true)
    (aRs : PySem.W.findCls K (.ref CRs) (.type "type") "__init__" = some (.val (.ref fRs)))
    (lRs : K.lookup fRs = some ⟨ocRs, odRs, .func (PySem.W.fnOf "__init__" "Rested.__init__" (defArgs s_rested) (defBody s_rested) (defScope s_rested) .none kVRs dcRs pmRs anRs cdRs ctRs), slRs⟩)
    (cRs : PySem.W.codeIn K cdRs "Rested.__init__" = true)
    (kRs : PySem.W.keepIn K (.ref fRs) = true)
    (aSz : PySem.W.findCls K (.ref CSz) (.type "type") "__init__" = some (.val (.ref fSz)))
    (lSz : K.lookup fSz = some ⟨ocSz, odSz, .func (PySem.W.fnOf "__init__" "Sized.__init__" (defArgs s_sized) (defBody s_sized) (defScope s_sized) .none kVSz dcSz pmSz anSz cdSz ctSz), slSz⟩)
    (cSz : PySem.W.codeIn K cdSz "Sized.__init__" = true)
    (kSz : PySem.W.keepIn K (.ref fSz) = true)
    (aFx : PySem.W.findIn K (.ref CF) "__init__" = some (some (.ref fFx)))
    (lFx : K.lookup fFx = some ⟨ocFx, odFx, .func (PySem.W.fnOf "__init__" "Fixed.__init__" (defArgs s_fixed) (defBody s_fixed) (defScope s_fixed) (.ref TdFx) kVFx dcFx pmFx anFx cdFx ctFx), slFx⟩)
    (cFx : PySem.W.codeIn K cdFx "Fixed.__init__" = true)
    (kFx : PySem.W.keepIn K (.ref fFx) = true)
    (aDn : PySem.W.findIn K (.ref CD) "__init__" = some (some (.ref fDn)))
    (lDn : K.lookup fDn = some ⟨ocDn, odDn, .func (PySem.W.fnOf "__init__" "Down.__init__" (defArgs s_down) (defBody s_down) (defScope s_down) (.ref TdDn) kVDn dcDn pmDn anDn cdDn ctDn), slDn⟩)
    (cDn : PySem.W.codeIn K cdDn "Down.__init__" = true)
    (kDn : PySem.W.keepIn K (.ref fDn) = true)
    (ldFx : K.lookup TdFx = some ⟨ocdFx, oddFx, .seq ([.int 0 tdFx0, .int 1 tdFx1, .int 0 tdFx2] : List Value).toArray ndFx, sldFx⟩)
    (ldDn : K.lookup TdDn = some ⟨ocdDn, oddDn, .seq ([.int 0 tdDn0, .int 1 tdDn1] : List Value).toArray ndDn, sldDn⟩)
    (rdCRl : PySem.W.readsIn K CRl (.type "type") = true)
    (gaCRl : PySem.W.specialIn K (.ref CRl) "__getattribute__" = some (some (.builtin "type.__getattribute__")))
    (rdCRs : PySem.W.readsIn K CRs (.type "type") = true)
    (gaCRs : PySem.W.specialIn K (.ref CRs) "__getattribute__" = some (some (.builtin "type.__getattribute__")))
    (rdCSz : PySem.W.readsIn K CSz (.type "type") = true)
    (gaCSz : PySem.W.specialIn K (.ref CSz) "__getattribute__" = some (some (.builtin "type.__getattribute__")))
    (pgCF : PySem.W.plainGet K CF Str.empty = true)
    (hdCF : PySem.W.hasDictIn K CF = true)
    (poCF : PySem.W.plainOver K CF = true)
    (saCF : PySem.W.findIn K (.ref CF) "__setattr__" = some (some (.builtin "object.__setattr__")))
    (ntoCF : PySem.W.findIn K (.ref CF) "to" = some none)
    (nsizeCF : PySem.W.findIn K (.ref CF) "size" = some none)
    (nleaveCF : PySem.W.findIn K (.ref CF) "leave" = some none)
    (nrestCF : PySem.W.findIn K (.ref CF) "rest" = some none)
    (nmodulusCF : PySem.W.findIn K (.ref CF) "modulus" = some none)
    (nstartCF : PySem.W.findIn K (.ref CF) "start" = some none)
    (nrankCF : PySem.W.findIn K (.ref CF) "rank" = some none)
    (pgCD : PySem.W.plainGet K CD Str.empty = true)
    (hdCD : PySem.W.hasDictIn K CD = true)
    (poCD : PySem.W.plainOver K CD = true)
    (saCD : PySem.W.findIn K (.ref CD) "__setattr__" = some (some (.builtin "object.__setattr__")))
    (ntoCD : PySem.W.findIn K (.ref CD) "to" = some none)
    (nsizeCD : PySem.W.findIn K (.ref CD) "size" = some none)
    (nleaveCD : PySem.W.findIn K (.ref CD) "leave" = some none)
    (nrestCD : PySem.W.findIn K (.ref CD) "rest" = some none)
    (nmodulusCD : PySem.W.findIn K (.ref CD) "modulus" = some none)
    (nstartCD : PySem.W.findIn K (.ref CD) "start" = some none)
    (nrankCD : PySem.W.findIn K (.ref CD) "rank" = some none)
    (haCF : PySem.W.findIn K (.ref CF) "__class__" = some (some (.builtin "object.__class__")))
    (hn : PySem.W.specialIn K (.builtin "object.__class__") "__get__" = some (some (.builtin "getset_descriptor.__get__")))
    (htk : PySem.W.takesIn K (.builtin "object.__class__") = some true)
    (hmCF : PySem.W.mroIn K CF (.type "object") = some true)
    (haCD : PySem.W.findIn K (.ref CD) "__class__" = some (some (.builtin "object.__class__")))
    (hmCD : PySem.W.mroIn K CD (.type "object") = some true)
    (mkCF : PySem.W.makesIn K CF = true)
    (kpCF : PySem.W.keepIn K (.ref CF) = true)
    (iFFx : PySem.W.isFn K (.ref fFx) = true)
    (mkCD : PySem.W.makesIn K CD = true)
    (kpCD : PySem.W.keepIn K (.ref CD) = true)
    (iFDn : PySem.W.isFn K (.ref fDn) = true)
    (m_CRl_MOST : PySem.W.findCls K (.ref CRl) (.type "type") "MOST" = some (.val (.int 400 t_CRl_MOST)))
    (m_CRl_MOST_MODULUS : PySem.W.findCls K (.ref CRl) (.type "type") "MOST_MODULUS" = some (.val (.int 6 t_CRl_MOST_MODULUS)))
    (xBCB : K.lookup CB = some (excClassObj nmCB q_CB CB N_CB bsCB bmCB true snCB subCB abCB colCB ddCB m0CB m1CB m2CB m3CB m5CB "ValueError.__new__"))
    (rBCB : PySem.HandSPX.refsVE bmCB = true)
    (saCB : PySem.W.findIn K (.ref CB) "__setattr__" = some (some (.builtin "object.__setattr__")))
    (exCB : PySem.W.subIn K (.ref CB) (.type "BaseException") = some true)
    (tyCB : PySem.W.typeIn K (.ref CB) = some (.type "type"))
    (kpCB : PySem.W.keepIn K (.ref CB) = true)
    (npCB : PySem.W.findIn K (.ref CB) "part" = some none)
    (tfCB : PySem.W.typeIn K (.ref fB) = some (.type "function"))
    (gaCB : PySem.W.findIn K (.ref CB) "__getattribute__" = some (some (.builtin "BaseException.__getattribute__")))
    (ggCB : PySem.W.findIn K (.ref CB) "__getattr__" = some none)
    (hdCB : PySem.W.hasDictIn K CB = true)
    (haCB : PySem.W.findIn K (.ref CB) "__class__" = some (some (.builtin "object.__class__")))
    (hmCB : PySem.W.mroIn K CB (.type "object") = some true)
    (exCX : PySem.W.subIn K (.ref CX) (.type "BaseException") = some true)
    (hdCX : PySem.W.hasDictIn K CX = true)
    (tyCX : PySem.W.typeIn K (.ref CX) = some (.type "type"))
    (s_CB_CX : PySem.W.subIn K (.ref CB) (.ref CX) = some true)
    (kt_CB_CB : PySem.W.kitOne K (.ref CB) (.ref CB) = some true)
    (z_int : PySem.W.nsIn K mainGlobals "int" = some none)
    (z_len : PySem.W.nsIn K mainGlobals "len" = some none)
    (z_abs : PySem.W.nsIn K mainGlobals "abs" = some none)
    (z_list : PySem.W.nsIn K mainGlobals "list" = some none)
    (z_range : PySem.W.nsIn K mainGlobals "range" = some none)
    (z_isinstance : PySem.W.nsIn K mainGlobals "isinstance" = some none)
    (z_repr : PySem.W.nsIn K mainGlobals "repr" = some none)
    (z_bool : PySem.W.nsIn K mainGlobals "bool" = some none)
    (z_tuple : PySem.W.nsIn K mainGlobals "tuple" = some none)
    (z_str : PySem.W.nsIn K mainGlobals "str" = some none)
    (z_max : PySem.W.nsIn K mainGlobals "max" = some none)
    (z_min : PySem.W.nsIn K mainGlobals "min" = some none)
    (z_dict : PySem.W.nsIn K mainGlobals "dict" = some none)
    (z_set : PySem.W.nsIn K mainGlobals "set" = some none)
    (z_sorted : PySem.W.nsIn K mainGlobals "sorted" = some none)
    (z_sum : PySem.W.nsIn K mainGlobals "sum" = some none)
    (z_all : PySem.W.nsIn K mainGlobals "all" = some none)
    (z_any : PySem.W.nsIn K mainGlobals "any" = some none)
    (z_zip : PySem.W.nsIn K mainGlobals "zip" = some none)
    (z_enumerate : PySem.W.nsIn K mainGlobals "enumerate" = some none)
    (z_reversed : PySem.W.nsIn K mainGlobals "reversed" = some none)
    (aEF : PySem.W.findIn K (.ref CF) "__eq__" = some (some (.ref fEF)))
    (lEF : K.lookup fEF = some ⟨ocEF, odEF, .func (PySem.W.fnOf "__eq__" "Fixed.__eq__" (defArgs s_eqF) (defBody s_eqF) (defScope s_eqF) .none kVEF dcEF pmEF anEF cdEF ctEF), slEF⟩)
    (cEF : PySem.W.codeIn K cdEF "Fixed.__eq__" = true)
    (kEF : PySem.W.keepIn K (.ref fEF) = true)
    (aED : PySem.W.findIn K (.ref CD) "__eq__" = some (some (.ref fED)))
    (lED : K.lookup fED = some ⟨ocED, odED, .func (PySem.W.fnOf "__eq__" "Down.__eq__" (defArgs s_eqD) (defBody s_eqD) (defScope s_eqD) .none kVED dcED pmED anED cdED ctED), slED⟩)
    (cED : PySem.W.codeIn K cdED "Down.__eq__" = true)
    (kED : PySem.W.keepIn K (.ref fED) = true)
    (iFEF : PySem.W.isFn K (.ref fEF) = true)
    (neCF : PySem.W.findIn K (.ref CF) "__ne__" = some (some (.builtin "object.__ne__")))
    (tyCF : PySem.W.typeIn K (.ref CF) = some (.type "type"))
    (iFED : PySem.W.isFn K (.ref fED) = true)
    (neCD : PySem.W.findIn K (.ref CD) "__ne__" = some (some (.builtin "object.__ne__")))
    (tyCD : PySem.W.typeIn K (.ref CD) = some (.type "type"))
    (nFD : PySem.W.notFirst K CF (.ref CD) = true)
    (nDF : PySem.W.notFirst K CD (.ref CF) = true)
    (kt_CF_CF : PySem.W.kitOne K (.ref CF) (.ref CF) = some true)
    (kt_CF_CD : PySem.W.kitOne K (.ref CF) (.ref CD) = some false)
    (kt_CD_CF : PySem.W.kitOne K (.ref CD) (.ref CF) = some false)
    (kt_CD_CD : PySem.W.kitOne K (.ref CD) (.ref CD) = some true)
    (aRT : PySem.W.nsIn K mainGlobals "rest_text" = some (some (.ref fRT)))
    (lRT : K.lookup fRT = some ⟨ocRT, odRT, .func (PySem.W.fnOf "rest_text" "rest_text" (defArgs s_restT) (defBody s_restT) (defScope s_restT) .none kVRT dcRT pmRT anRT cdRT ctRT), slRT⟩)
    (cRT : PySem.W.codeIn K cdRT "rest_text" = true)
    (kRT : PySem.W.keepIn K (.ref fRT) = true)
    (aLT : PySem.W.nsIn K mainGlobals "leave_text" = some (some (.ref fLT)))
    (lLT : K.lookup fLT = some ⟨ocLT, odLT, .func (PySem.W.fnOf "leave_text" "leave_text" (defArgs s_leaveT) (defBody s_leaveT) (defScope s_leaveT) .none kVLT dcLT pmLT anLT cdLT ctLT), slLT⟩)
    (cLT : PySem.W.codeIn K cdLT "leave_text" = true)
    (kLT : PySem.W.keepIn K (.ref fLT) = true)
    (aSF : PySem.W.findIn K (.ref CF) "__str__" = some (some (.ref fSF)))
    (lSF : K.lookup fSF = some ⟨ocSF, odSF, .func (PySem.W.fnOf "__str__" "Fixed.__str__" (defArgs s_strF) (defBody s_strF) (defScope s_strF) .none kVSF dcSF pmSF anSF cdSF ctSF), slSF⟩)
    (cSF : PySem.W.codeIn K cdSF "Fixed.__str__" = true)
    (kSF : PySem.W.keepIn K (.ref fSF) = true)
    (aSD : PySem.W.findIn K (.ref CD) "__str__" = some (some (.ref fSD)))
    (lSD : K.lookup fSD = some ⟨ocSD, odSD, .func (PySem.W.fnOf "__str__" "Down.__str__" (defArgs s_strD) (defBody s_strD) (defScope s_strD) .none kVSD dcSD pmSD anSD cdSD ctSD), slSD⟩)
    (cSD : PySem.W.codeIn K cdSD "Down.__str__" = true)
    (kSD : PySem.W.keepIn K (.ref fSD) = true)
    (iFSF : PySem.W.isFn K (.ref fSF) = true)
    (iFSD : PySem.W.isFn K (.ref fSD) = true)
    (aPn : PySem.W.nsIn K mainGlobals "_law_pen" = some (some (.ref fPn)))
    (lPn : K.lookup fPn = some ⟨ocPn, odPn, .func (PySem.W.fnOf "_law_pen" "_law_pen" (defArgs s_pen) (defBody s_pen) (defScope s_pen) .none kVPn dcPn pmPn anPn cdPn ctPn), slPn⟩)
    (cPn : PySem.W.codeIn K cdPn "_law_pen" = true)
    (kPn : PySem.W.keepIn K (.ref fPn) = true)
    (aD : PySem.W.nsIn K mainGlobals "_law_draw" = some (some (.ref fD)))
    (lD : K.lookup fD = some ⟨ocD, odD, .func (PySem.W.fnOf "_law_draw" "_law_draw" (defArgs s_draw) (defBody s_draw) (defScope s_draw) .none kVD dcD pmD anD cdD ctD), slD⟩)
    (cD : PySem.W.codeIn K cdD "_law_draw" = true)
    (kD : PySem.W.keepIn K (.ref fD) = true)
    (aPk : PySem.W.nsIn K mainGlobals "_law_pick" = some (some (.ref fPk)))
    (lPk : K.lookup fPk = some ⟨ocPk, odPk, .func (PySem.W.fnOf "_law_pick" "_law_pick" (defArgs s_pick) (defBody s_pick) (defScope s_pick) .none kVPk dcPk pmPk anPk cdPk ctPk), slPk⟩)
    (cPk : PySem.W.codeIn K cdPk "_law_pick" = true)
    (kPk : PySem.W.keepIn K (.ref fPk) = true)
    (aNo : PySem.W.nsIn K mainGlobals "number_of" = some (some (.ref fNo)))
    (lNo : K.lookup fNo = some ⟨ocNo, odNo, .func (PySem.W.fnOf "number_of" "number_of" (defArgs s_no) (defBody s_no) (defScope s_no) .none kVNo dcNo pmNo anNo cdNo ctNo), slNo⟩)
    (cNo : PySem.W.codeIn K cdNo "number_of" = true)
    (kNo : PySem.W.keepIn K (.ref fNo) = true)
    (aLm : PySem.W.nsIn K mainGlobals "least_modulus" = some (some (.ref fLm)))
    (lLm : K.lookup fLm = some ⟨ocLm, odLm, .func (PySem.W.fnOf "least_modulus" "least_modulus" (defArgs s_lm) (defBody s_lm) (defScope s_lm) .none kVLm dcLm pmLm anLm cdLm ctLm), slLm⟩)
    (cLm : PySem.W.codeIn K cdLm "least_modulus" = true)
    (kLm : PySem.W.keepIn K (.ref fLm) = true)
    (aRw : PySem.W.nsIn K mainGlobals "rule_slots" = some (some (.ref fRw)))
    (lRw : K.lookup fRw = some ⟨ocRw, odRw, .func (PySem.W.fnOf "rule_slots" "rule_slots" (defArgs s_rs) (defBody s_rs) (defScope s_rs) .none kVRw dcRw pmRw anRw cdRw ctRw), slRw⟩)
    (cRw : PySem.W.codeIn K cdRw "rule_slots" = true)
    (kRw : PySem.W.keepIn K (.ref fRw) = true)
    (aFi : PySem.W.nsIn K mainGlobals "fits" = some (some (.ref fFi)))
    (lFi : K.lookup fFi = some ⟨ocFi, odFi, .func (PySem.W.fnOf "fits" "fits" (defArgs s_fi) (defBody s_fi) (defScope s_fi) .none kVFi dcFi pmFi anFi cdFi ctFi), slFi⟩)
    (cFi : PySem.W.codeIn K cdFi "fits" = true)
    (kFi : PySem.W.keepIn K (.ref fFi) = true)
    (aWa : PySem.W.nsIn K mainGlobals "wrong_among" = some (some (.ref fWa)))
    (lWa : K.lookup fWa = some ⟨ocWa, odWa, .func (PySem.W.fnOf "wrong_among" "wrong_among" (defArgs s_wa) (defBody s_wa) (defScope s_wa) .none kVWa dcWa pmWa anWa cdWa ctWa), slWa⟩)
    (cWa : PySem.W.codeIn K cdWa "wrong_among" = true)
    (kWa : PySem.W.keepIn K (.ref fWa) = true)
    (aWw : PySem.W.nsIn K mainGlobals "wrong_word" = some (some (.ref fWw)))
    (lWw : K.lookup fWw = some ⟨ocWw, odWw, .func (PySem.W.fnOf "wrong_word" "wrong_word" (defArgs s_ww) (defBody s_ww) (defScope s_ww) .none kVWw dcWw pmWw anWw cdWw ctWw), slWw⟩)
    (cWw : PySem.W.codeIn K cdWw "wrong_word" = true)
    (kWw : PySem.W.keepIn K (.ref fWw) = true)
    (aRo : PySem.W.nsIn K mainGlobals "rule_of" = some (some (.ref fRo)))
    (lRo : K.lookup fRo = some ⟨ocRo, odRo, .func (PySem.W.fnOf "rule_of" "rule_of" (defArgs s_ro) (defBody s_ro) (defScope s_ro) .none kVRo dcRo pmRo anRo cdRo ctRo), slRo⟩)
    (cRo : PySem.W.codeIn K cdRo "rule_of" = true)
    (kRo : PySem.W.keepIn K (.ref fRo) = true)
    (aPa : PySem.W.nsIn K mainGlobals "_law_parts" = some (some (.ref fPa)))
    (lPa : K.lookup fPa = some ⟨ocPa, odPa, .func (PySem.W.fnOf "_law_parts" "_law_parts" (defArgs s_parts) (defBody s_parts) (defScope s_parts) .none kVPa dcPa pmPa anPa cdPa ctPa), slPa⟩)
    (cPa : PySem.W.codeIn K cdPa "_law_parts" = true)
    (kPa : PySem.W.keepIn K (.ref fPa) = true)
    (aRu : PySem.W.nsIn K mainGlobals "_law_rule" = some (some (.ref fRu)))
    (lRu : K.lookup fRu = some ⟨ocRu, odRu, .func (PySem.W.fnOf "_law_rule" "_law_rule" (defArgs s_rule) (defBody s_rule) (defScope s_rule) .none kVRu dcRu pmRu anRu cdRu ctRu), slRu⟩)
    (cRu : PySem.W.codeIn K cdRu "_law_rule" = true)
    (kRu : PySem.W.keepIn K (.ref fRu) = true)
    (aHd : PySem.W.nsIn K mainGlobals "_law_heard" = some (some (.ref fHd)))
    (lHd : K.lookup fHd = some ⟨ocHd, odHd, .func (PySem.W.fnOf "_law_heard" "_law_heard" (defArgs s_heard) (defBody s_heard) (defScope s_heard) .none kVHd dcHd pmHd anHd cdHd ctHd), slHd⟩)
    (cHd : PySem.W.codeIn K cdHd "_law_heard" = true)
    (kHd : PySem.W.keepIn K (.ref fHd) = true)
    (aLi : PySem.W.nsIn K mainGlobals "_law_line" = some (some (.ref fLi)))
    (lLi : K.lookup fLi = some ⟨ocLi, odLi, .func (PySem.W.fnOf "_law_line" "_law_line" (defArgs s_line) (defBody s_line) (defScope s_line) .none kVLi dcLi pmLi anLi cdLi ctLi), slLi⟩)
    (cLi : PySem.W.codeIn K cdLi "_law_line" = true)
    (kLi : PySem.W.keepIn K (.ref fLi) = true)
    (aIn : PySem.W.nsIn K mainGlobals "_law_is_number" = some (some (.ref fIn)))
    (lIn : K.lookup fIn = some ⟨ocIn, odIn, .func (PySem.W.fnOf "_law_is_number" "_law_is_number" (defArgs s_isn) (defBody s_isn) (defScope s_isn) .none kVIn dcIn pmIn anIn cdIn ctIn), slIn⟩)
    (cIn : PySem.W.codeIn K cdIn "_law_is_number" = true)
    (kIn : PySem.W.keepIn K (.ref fIn) = true)
    (aWr : PySem.W.nsIn K mainGlobals "_law_wrong" = some (some (.ref fWr)))
    (lWr : K.lookup fWr = some ⟨ocWr, odWr, .func (PySem.W.fnOf "_law_wrong" "_law_wrong" (defArgs s_wrong) (defBody s_wrong) (defScope s_wrong) .none kVWr dcWr pmWr anWr cdWr ctWr), slWr⟩)
    (cWr : PySem.W.codeIn K cdWr "_law_wrong" = true)
    (kWr : PySem.W.keepIn K (.ref fWr) = true)
    (aBe : PySem.W.nsIn K mainGlobals "_law_bent" = some (some (.ref fBe)))
    (lBe : K.lookup fBe = some ⟨ocBe, odBe, .func (PySem.W.fnOf "_law_bent" "_law_bent" (defArgs s_bent) (defBody s_bent) (defScope s_bent) .none kVBe dcBe pmBe anBe cdBe ctBe), slBe⟩)
    (cBe : PySem.W.codeIn K cdBe "_law_bent" = true)
    (kBe : PySem.W.keepIn K (.ref fBe) = true)
    (aLr : PySem.W.nsIn K mainGlobals "_law_read" = some (some (.ref fLr)))
    (lLr : K.lookup fLr = some ⟨ocLr, odLr, .func (PySem.W.fnOf "_law_read" "_law_read" (defArgs s_lread) (defBody s_lread) (defScope s_lread) .none kVLr dcLr pmLr anLr (.ref kodLr) ctLr), slLr⟩)
    (cLr : PySem.W.codeIn K (.ref kodLr) "_law_read" = true)
    (kLr : PySem.W.keepIn K (.ref fLr) = true)
    (gT : PySem.W.nsIn K mainGlobals "BadText" = some (some (.ref CT)))
    (aBt : PySem.W.findIn K (.ref CT) "__init__" = some (some (.ref fBt)))
    (lBt : K.lookup fBt = some ⟨ocBt, odBt, .func (PySem.W.fnOf "__init__" "BadText.__init__" (defArgs s_bt) (defBody s_bt) (defScope s_bt) .none kVBt dcBt pmBt anBt cdBt ctBt), slBt⟩)
    (cBt : PySem.W.codeIn K cdBt "BadText.__init__" = true)
    (kBt : PySem.W.keepIn K (.ref fBt) = true)
    (xBCT : K.lookup CT = some (excClassObj nmCT q_CT CT N_CT bsCT bmCT true snCT subCT abCT colCT ddCT m0CT m1CT m2CT m3CT m5CT "ValueError.__new__"))
    (rBCT : PySem.HandSPX.refsVE bmCT = true)
    (saCT : PySem.W.findIn K (.ref CT) "__setattr__" = some (some (.builtin "object.__setattr__")))
    (exCT : PySem.W.subIn K (.ref CT) (.type "BaseException") = some true)
    (tyCT : PySem.W.typeIn K (.ref CT) = some (.type "type"))
    (kpCT : PySem.W.keepIn K (.ref CT) = true)
    (npCT : PySem.W.findIn K (.ref CT) "line" = some none)
    (tfCT : PySem.W.typeIn K (.ref fBt) = some (.type "function"))
    (nwCT : PySem.W.findIn K (.ref CT) "word" = some none)
    (gaCT : PySem.W.findIn K (.ref CT) "__getattribute__" = some (some (.builtin "BaseException.__getattribute__")))
    (ggCT : PySem.W.findIn K (.ref CT) "__getattr__" = some none)
    (hdCT : PySem.W.hasDictIn K CT = true)
    (haCT : PySem.W.findIn K (.ref CT) "__class__" = some (some (.builtin "object.__class__")))
    (hmCT : PySem.W.mroIn K CT (.type "object") = some true)
    (s_CT_CX : PySem.W.subIn K (.ref CT) (.ref CX) = some true)
    (kt_CT_CT : PySem.W.kitOne K (.ref CT) (.ref CT) = some true)
    (rdCF : PySem.W.readsIn K CF (.type "type") = true)
    (gaCF : PySem.W.specialIn K (.ref CF) "__getattribute__" = some (some (.builtin "type.__getattribute__")))
    (rdCD : PySem.W.readsIn K CD (.type "type") = true)
    (gaCD : PySem.W.specialIn K (.ref CD) "__getattribute__" = some (some (.builtin "type.__getattribute__")))
    (cmCF : PySem.W.findCls K (.ref CF) (.type "type") "read" = some (.get (.builtin "classmethod.__get__") (.ref pRd) .none (.ref CF)))
    (cmCD : PySem.W.findCls K (.ref CD) (.type "type") "read" = some (.get (.builtin "classmethod.__get__") (.ref pRd) .none (.ref CD)))
    (cmCRs : PySem.W.findCls K (.ref CRs) (.type "type") "read" = some (.get (.builtin "classmethod.__get__") (.ref pRd) .none (.ref CRs)))
    (cmCSz : PySem.W.findCls K (.ref CSz) (.type "type") "read" = some (.get (.builtin "classmethod.__get__") (.ref pRd) .none (.ref CSz)))
    (cmCRl : PySem.W.findCls K (.ref CRl) (.type "type") "read" = some (.get (.builtin "classmethod.__get__") (.ref pRd) .none (.ref CRl)))
    (aRd : PySem.W.recIn K pRd "classmethod" = some (.ref fRd :: restRd))
    (lRd : K.lookup fRd = some ⟨ocRd, odRd, .func (PySem.W.fnOf "read" "Rule.read" (defArgs s_read) (defBody s_read) (defScope s_read) .none kVRd dcRd pmRd anRd cdRd ctRd), slRd⟩)
    (cRd : PySem.W.codeIn K cdRd "Rule.read" = true)
    (kRd : PySem.W.keepIn K (.ref fRd) = true)
    (fiRd : PySem.W.fnIn K fRd = true)
    (nsCF : PySem.W.kitOne K (.ref CF) (.type "str") = some false)
    (nsCD : PySem.W.kitOne K (.ref CD) (.type "str") = some false)
    (aL : PySem.W.nsIn K mainGlobals "law" = some (some (.ref fL)))
    (lL : K.lookup fL = some ⟨ocL, odL, .func (PySem.W.fnOf "law" "law" (defArgs s_law) (defBody s_law) (defScope s_law) .none kVL dcL pmL anL (.ref kodL) ctL), slL⟩)
    (cL : PySem.W.codeIn K (.ref kodL) "law" = true)
    (kL : PySem.W.keepIn K (.ref fL) = true)
    (tcLr : K.lookup kodLr = some ⟨occLr, odccLr, .fields vscLr, slccLr⟩)
    (vPLr : vscLr[11]? = some (Value.ref PLr))
    (ttLr : K.lookup PLr = none)
    (tcL : K.lookup kodL = some ⟨occL, odccL, .fields vscL, slccL⟩)
    (vPL : vscL[11]? = some (Value.ref PL))
    (ttL : K.lookup PL = none)
    (pn0_1 : PLr ≠ PL)
    (pn1_0 : PL ≠ PLr) : LawEnd l w K 14 63 "_law_script" mg fa h := by
  have G := Tp.g
  have e := hfa.symm.trans (PySem.W.mg_of X G aL)
  cases e
  have FN := fun_mk (st := s_is_number) lN cN kN
  have bN := FN.binds (ps := ["value", "least", "most"]) fun _ _ _ _ _ _ us hl => match us, hl with | [_, _, _], _ => rfl
  have FRK := fun_mk (st := s_rank_of) lRK cRK kRK
  have bRK := FRK.binds (ps := ["kind", "number", "modulus", "rest", "leave"]) fun _ _ _ _ _ _ us hl => match us, hl with | [_, _, _, _, _], _ => rfl
  have FB := fun_mk (st := s_badI) lB cB kB
  have bB := FB.binds (ps := ["self", "part"]) fun _ _ _ _ _ _ us hl => match us, hl with | [_, _], _ => rfl
  have FRs := fun_mk (st := s_rested) lRs cRs kRs
  have bRs := FRs.binds (ps := ["self", "rest", "modulus"]) fun _ _ _ _ _ _ us hl => match us, hl with | [_, _, _], _ => rfl
  have FSz := fun_mk (st := s_sized) lSz cSz kSz
  have bSz := FSz.binds (ps := ["self", "size", "leave"]) fun _ _ _ _ _ _ us hl => match us, hl with | [_, _, _], _ => rfl
  have FEF := fun_mk (st := s_eqF) lEF cEF kEF
  have bEF := FEF.binds (ps := ["self", "other"]) fun _ _ _ _ _ _ us hl => match us, hl with | [_, _], _ => rfl
  have FED := fun_mk (st := s_eqD) lED cED kED
  have bED := FED.binds (ps := ["self", "other"]) fun _ _ _ _ _ _ us hl => match us, hl with | [_, _], _ => rfl
  have FRT := fun_mk (st := s_restT) lRT cRT kRT
  have bRT := FRT.binds (ps := ["rule"]) fun _ _ _ _ _ _ us hl => match us, hl with | [_], _ => rfl
  have FLT := fun_mk (st := s_leaveT) lLT cLT kLT
  have bLT := FLT.binds (ps := ["rule"]) fun _ _ _ _ _ _ us hl => match us, hl with | [_], _ => rfl
  have FSF := fun_mk (st := s_strF) lSF cSF kSF
  have bSF := FSF.binds (ps := ["self"]) fun _ _ _ _ _ _ us hl => match us, hl with | [_], _ => rfl
  have FSD := fun_mk (st := s_strD) lSD cSD kSD
  have bSD := FSD.binds (ps := ["self"]) fun _ _ _ _ _ _ us hl => match us, hl with | [_], _ => rfl
  have FPn := fun_mk (st := s_pen) lPn cPn kPn
  have bPn := FPn.binds (ps := ["_law_script"]) fun _ _ _ _ _ _ us hl => match us, hl with | [_], _ => rfl
  have FD := fun_mk (st := s_draw) lD cD kD
  have bD := FD.binds (ps := ["_law_pen_here", "_law_many"]) fun _ _ _ _ _ _ us hl => match us, hl with | [_, _], _ => rfl
  have FPk := fun_mk (st := s_pick) lPk cPk kPk
  have bPk := FPk.binds (ps := ["_law_pen_here", "_law_some"]) fun _ _ _ _ _ _ us hl => match us, hl with | [_, _], _ => rfl
  have FNo := fun_mk (st := s_no) lNo cNo kNo
  have bNo := FNo.binds (ps := ["word", "least", "most"]) fun _ _ _ _ _ _ us hl => match us, hl with | [_, _, _], _ => rfl
  have FLm := fun_mk (st := s_lm) lLm cLm kLm
  have bLm := FLm.binds (ps := ["words"]) fun _ _ _ _ _ _ us hl => match us, hl with | [_], _ => rfl
  have FRw := fun_mk (st := s_rs) lRw cRw kRw
  have bRw := FRw.binds (ps := ["words"]) fun _ _ _ _ _ _ us hl => match us, hl with | [_], _ => rfl
  have FFi := fun_mk (st := s_fi) lFi cFi kFi
  have bFi := FFi.binds (ps := ["word", "slot"]) fun _ _ _ _ _ _ us hl => match us, hl with | [_, _], _ => rfl
  have FWa := fun_mk (st := s_wa) lWa cWa kWa
  have bWa := FWa.binds (ps := ["words", "slots"]) fun _ _ _ _ _ _ us hl => match us, hl with | [_, _], _ => rfl
  have FWw := fun_mk (st := s_ww) lWw cWw kWw
  have bWw := FWw.binds (ps := ["words"]) fun _ _ _ _ _ _ us hl => match us, hl with | [_], _ => rfl
  have FRo := fun_mk (st := s_ro) lRo cRo kRo
  have bRo := FRo.binds (ps := ["words"]) fun _ _ _ _ _ _ us hl => match us, hl with | [_], _ => rfl
  have FPa := fun_mk (st := s_parts) lPa cPa kPa
  have bPa := FPa.binds (ps := ["_law_pen_here", "_law_most"]) fun _ _ _ _ _ _ us hl => match us, hl with | [_, _], _ => rfl
  have FRu := fun_mk (st := s_rule) lRu cRu kRu
  have bRu := FRu.binds (ps := ["_law_parts_here"]) fun _ _ _ _ _ _ us hl => match us, hl with | [_], _ => rfl
  have FHd := fun_mk (st := s_heard) lHd cHd kHd
  have bHd := FHd.binds (ps := ["_law_ask"]) fun _ _ _ _ _ _ us hl => match us, hl with | [_], _ => rfl
  have FLi := fun_mk (st := s_line) lLi cLi kLi
  have bLi := FLi.binds (ps := ["_law_parts_here"]) fun _ _ _ _ _ _ us hl => match us, hl with | [_], _ => rfl
  have FIn := fun_mk (st := s_isn) lIn cIn kIn
  have bIn := FIn.binds (ps := ["_law_term", "_law_least", "_law_most"]) fun _ _ _ _ _ _ us hl => match us, hl with | [_, _, _], _ => rfl
  have FWr := fun_mk (st := s_wrong) lWr cWr kWr
  have bWr := FWr.binds (ps := ["_law_terms"]) fun _ _ _ _ _ _ us hl => match us, hl with | [_], _ => rfl
  have FBe := fun_mk (st := s_bent) lBe cBe kBe
  have bBe := FBe.binds (ps := ["_law_pen_here", "_law_line_here"]) fun _ _ _ _ _ _ us hl => match us, hl with | [_, _], _ => rfl
  have FLr := fun_mk (st := s_lread) lLr cLr kLr
  have bLr := FLr.binds (ps := ["_law_pen_here", "_law_line_here"]) fun _ _ _ _ _ _ us hl => match us, hl with | [_, _], _ => rfl
  have FBt := fun_mk (st := s_bt) lBt cBt kBt
  have bBt := FBt.binds (ps := ["self", "line", "word"]) fun _ _ _ _ _ _ us hl => match us, hl with | [_, _, _], _ => rfl
  have FRd := fun_mk (st := s_read) lRd cRd kRd
  have bRd := FRd.binds (ps := ["cls", "text"]) fun _ _ _ _ _ _ us hl => match us, hl with | [_, _], _ => rfl
  have FL := fun_mk (st := s_law) lL cL kL
  have Fx : FunFixed K fFx _ := ⟨⟨_, _, _, _, _, _, _, _, _, _, rfl, lFx, cFx, .inr ⟨by simp, TdFx, _, [.int 0 tdFx0, .int 1 tdFx1, .int 0 tdFx2], ndFx, rfl, ldFx, rfl, (.cons ⟨tdFx0, rfl⟩ (.cons ⟨tdFx1, rfl⟩ (.cons ⟨tdFx2, rfl⟩ .nil)))⟩, .inl rfl⟩, kFx⟩
  have Dn : FunDown K fDn _ := ⟨⟨_, _, _, _, _, _, _, _, _, _, rfl, lDn, cDn, .inr ⟨by simp, TdDn, _, [.int 0 tdDn0, .int 1 tdDn1], ndDn, rfl, ldDn, rfl, (.cons ⟨tdDn0, rfl⟩ (.cons ⟨tdDn1, rfl⟩ .nil))⟩, .inl rfl⟩, kDn⟩
  have U : Blt mg := ⟨PySem.W.mg_none_of X G z_int, PySem.W.mg_none_of X G z_len, PySem.W.mg_none_of X G z_abs, PySem.W.mg_none_of X G z_list, PySem.W.mg_none_of X G z_range, PySem.W.mg_none_of X G z_isinstance, PySem.W.mg_none_of X G z_repr, PySem.W.mg_none_of X G z_bool, PySem.W.mg_none_of X G z_tuple, PySem.W.mg_none_of X G z_str, PySem.W.mg_none_of X G z_max, PySem.W.mg_none_of X G z_min, PySem.W.mg_none_of X G z_dict, PySem.W.mg_none_of X G z_set, PySem.W.mg_none_of X G z_sorted, PySem.W.mg_none_of X G z_sum, PySem.W.mg_none_of X G z_all, PySem.W.mg_none_of X G z_any, PySem.W.mg_none_of X G z_zip, PySem.W.mg_none_of X G z_enumerate, PySem.W.mg_none_of X G z_reversed⟩
  have T : PrgB K mg CRl CB fB := { g_Rule := (PySem.W.mg_of X G gRl), g_BadRule := (PySem.W.mg_of X G gB), rdRl := ⟨rdCRl, gaCRl⟩, most := ⟨_, m_CRl_MOST, ⟨t_CRl_MOST, rfl⟩⟩, mostM := ⟨_, m_CRl_MOST_MODULUS, ⟨t_CRl_MOST_MODULUS, rfl⟩⟩, oB := ⟨⟨_, _, _, _, _, _, _, _, _, _, _, _, _, _, _, xBCB, rBCB⟩, saCB, exCB, tyCB, kpCB⟩, nPart := npCB, iB := aB, tB := tfCB }
  have IF : InsC K CF := ⟨⟨pgCF, hdCF, poCF, saCF⟩, ntoCF, nsizeCF, nleaveCF, nrestCF, nmodulusCF, nstartCF, nrankCF⟩
  have ID : InsC K CD := ⟨⟨pgCD, hdCD, poCD, saCD⟩, ntoCD, nsizeCD, nleaveCD, nrestCD, nmodulusCD, nstartCD, nrankCD⟩
  have Ex : PrgE K mg CB CX := { g_FreeError := (PySem.W.mg_of X G gX), hit := (PySem.W.exm_ref exCX hdCX tyCX s_CB_CX), exc := ⟨gaCB, ggCB, exCB, hdCB, haCB, hn, htk, hmCB⟩, xf := ⟨gaCB, ggCB, exCB, hdCB⟩, same := kt_CB_CB }
  have MkF : Mk K CF fFx := ⟨mkCF, aFx, iFFx, kpCF⟩
  have MkD : Mk K CD fDn := ⟨mkCD, aDn, iFDn, kpCD⟩
  have BRs : BaseC K CRs fRs := ⟨⟨rdCRs, gaCRs⟩, aRs⟩
  have BSz : BaseC K CSz fSz := ⟨⟨rdCSz, gaCSz⟩, aSz⟩
  have PQ : PrgQ K CF CD := { icF := IF, icD := ID, tyF := ⟨haCF, hn, htk, hmCF⟩, tyD := ⟨haCD, hn, htk, hmCD⟩, nFD := nFD, nDF := nDF, kFF := kt_CF_CF, kFD := kt_CF_CD, kDF := kt_CD_CF, kDD := kt_CD_CD, tF := tyCF, tD := tyCD }
  have PT : PrgT K mg CT fBt := { g_ := (PySem.W.mg_of X G gT), oB := ⟨⟨_, _, _, _, _, _, _, _, _, _, _, _, _, _, _, xBCT, rBCT⟩, saCT, exCT, tyCT, kpCT⟩, nL := npCT, nW := nwCT, iB := aBt, tB := tfCT }
  have Zh : PrgH K mg CX CT := { g_FreeError := (PySem.W.mg_of X G gX), g_BadText := (PySem.W.mg_of X G gT), hit := (PySem.W.exm_ref exCX hdCX tyCX s_CT_CX), exc := ⟨gaCT, ggCT, exCT, hdCT, haCT, hn, htk, hmCT⟩, xf := ⟨gaCT, ggCT, exCT, hdCT⟩, same := kt_CT_CT, fL := npCT, fW := nwCT }
  have NS : NoStr K CF CD := ⟨nsCF, nsCD⟩
  have htLr : PySem.W.tabIn K "_law_read" = some (kodLr, PLr) := by
    unfold PySem.W.tabIn
    rw [show PySem.W.nsIn K mainGlobals "_law_read" = some (some (.ref fLr)) from aLr]
    simp only [lLr, PySem.W.fnOf, tcLr, vPLr]
  obtain ⟨codeLr, tabLr⟩ := PySem.W.tab_of Tp X hrLr htLr
  have htL : PySem.W.tabIn K "law" = some (kodL, PL) := by
    unfold PySem.W.tabIn
    rw [show PySem.W.nsIn K mainGlobals "law" = some (some (.ref fa)) from aL]
    simp only [lL, PySem.W.fnOf, tcL, vPL]
  obtain ⟨codeL, tabL⟩ := PySem.W.tab_of Tp X hrL htL
  refine ⟨PySem.W.fnOf "law" "law" (defArgs s_law) (defBody s_law) (defScope s_law) .none kVL dcL pmL anL (.ref kodL) ctL, [(kodLr, PLr), (kodL, PL)], spLaw K PLr PL, fun q hq => ?_, fun s u => .of_eq rfl, fun H a ns few _ tabs sq => ⟨a, ns, rfl, sq, few, tabs (kodLr, PLr) List.mem_cons_self, tabs (kodL, PL) (List.mem_cons_of_mem _ List.mem_cons_self), fun _ => rfl⟩, fun base KX _ tb => ?_⟩
  · skip
    simp only [List.mem_cons, List.not_mem_nil, or_false] at hq
    rcases hq with e | e
    · cases e
      exact ⟨tabLr, ttLr, codeLr⟩
    · cases e
      exact ⟨tabL, ttL, codeL⟩
  · skip
    have cwLr : (PySem.W.fnOf "_law_read" "_law_read" (defArgs s_lread) (defBody s_lread) (defScope s_lread) .none kVLr dcLr pmLr anLr (.ref kodLr) ctLr).code = .ref kodLr := PySem.W.law_code X G htLr (PySem.W.mg_of X G aLr) (X _ _ lLr) rfl
    have tbLr := tb (kodLr, PLr) List.mem_cons_self
    have cwL : (PySem.W.fnOf "law" "law" (defArgs s_law) (defBody s_law) (defScope s_law) .none kVL dcL pmL anL (.ref kodL) ctL).code = .ref kodL := PySem.W.law_code X G htL hfa (X _ _ lL) rfl
    have tbL := tb (kodL, PL) (List.mem_cons_of_mem _ List.mem_cons_self)
    have G_fixed : FnOk l.prog w K mg base (L2.CX l.prog w) 5 fFx _ pFx (spFixed CB CF) := ok_fixed Fx U T IF FN (PySem.W.mg_of X G aN) bN FB bB FRs bRs (PySem.W.mg_of X G gRs) BRs FRK (PySem.W.mg_of X G aRK) bRK FSz bSz (PySem.W.mg_of X G gSz) BSz
    have G_down : FnOk l.prog w K mg base (L2.CX l.prog w) 5 fDn _ ["self", "to", "rest", "modulus"] (spDown CB CD) := ok_down Dn U T ID FN (PySem.W.mg_of X G aN) bN FB bB FRs bRs (PySem.W.mg_of X G gRs) BRs FRK (PySem.W.mg_of X G aRK) bRK
    have G_eqF : FnOk l.prog w K mg base CX0 1 fEF _ ["self", "other"] (spEqR K CF) := ok_eqF FEF U (PySem.W.mg_of X G gF) IF PQ.tyF PQ.kFF
    have G_eqD : FnOk l.prog w K mg base CX0 1 fED _ ["self", "other"] (spEqR K CD) := ok_eqD FED U (PySem.W.mg_of X G gDn) ID PQ.tyD PQ.kDD
    have G_strF : FnOk l.prog w K mg base CX0 2 fSF _ ["self"] (spStrF CF CD) := ok_strF FSF IF FRT (PySem.W.mg_of X G aRT) bRT FLT (PySem.W.mg_of X G aLT) bLT
    have G_strD : FnOk l.prog w K mg base CX0 2 fSD _ ["self"] (spStrD CF CD) := ok_strD FSD ID FRT (PySem.W.mg_of X G aRT) bRT
    have G_rule : FnOk l.prog w K mg base CX0 7 fRu _ ["_law_parts_here"] (spRule CF CD) := ok_rule FRu Dn G_down MkD (PySem.W.mg_of X G gDn) Fx G_fixed MkF (PySem.W.mg_of X G gF)
    have G_ww : FnOk l.prog w K mg base CX0 4 fWw _ ["words"] spWrong := ok_ww FWw U T FNo (PySem.W.mg_of X G aNo) bNo FLm (PySem.W.mg_of X G aLm) bLm FRw (PySem.W.mg_of X G aRw) bRw FFi (PySem.W.mg_of X G aFi) bFi FWa (PySem.W.mg_of X G aWa) bWa
    have G_ro : FnOk l.prog w K mg base CX0 7 fRo _ ["words"] (spRuleOf CF CD) := ok_ro FRo U Dn G_down MkD (PySem.W.mg_of X G gDn) Fx G_fixed MkF (PySem.W.mg_of X G gF)
    have G_read : FnOk l.prog w K mg base (L2.CX l.prog w) 8 fRd _ ["cls", "text"] (spRead CT CF CD) := ok_read FRd U PQ NS PT FBt bBt FWw (PySem.W.mg_of X G aWw) bWw G_ww FRo (PySem.W.mg_of X G aRo) bRo G_ro
    have SMs : StrM l.prog w K mg base CF CD fSF fSD _ _ := ⟨aSF, iFSF, G_strF, bSF, aSD, iFSD, G_strD, bSD⟩
    have R_F : RdC l.prog w K mg base CT CF CD CF "Fixed" pRd fRd _ := ⟨(PySem.W.mg_of X G gF), ⟨rdCF, gaCF⟩, ⟨cmCF, ⟨_, aRd⟩, fiRd⟩, G_read, bRd, (by exact ⟨fun s us ws _ l1 l2 => match us, l1, ws, l2 with | [_], _, [_], _ => .of_eq rfl, fun r1 r2 => r1.append r2⟩)⟩
    have R_D : RdC l.prog w K mg base CT CF CD CD "Down" pRd fRd _ := ⟨(PySem.W.mg_of X G gDn), ⟨rdCD, gaCD⟩, ⟨cmCD, ⟨_, aRd⟩, fiRd⟩, G_read, bRd, (by exact ⟨fun s us ws _ l1 l2 => match us, l1, ws, l2 with | [_], _, [_], _ => .of_eq rfl, fun r1 r2 => r1.append r2⟩)⟩
    have R_R : RdC l.prog w K mg base CT CF CD CRs "Rested" pRd fRd _ := ⟨(PySem.W.mg_of X G gRs), ⟨rdCRs, gaCRs⟩, ⟨cmCRs, ⟨_, aRd⟩, fiRd⟩, G_read, bRd, (by exact ⟨fun s us ws _ l1 l2 => match us, l1, ws, l2 with | [_], _, [_], _ => .of_eq rfl, fun r1 r2 => r1.append r2⟩)⟩
    have R_S : RdC l.prog w K mg base CT CF CD CSz "Sized" pRd fRd _ := ⟨(PySem.W.mg_of X G gSz), ⟨rdCSz, gaCSz⟩, ⟨cmCSz, ⟨_, aRd⟩, fiRd⟩, G_read, bRd, (by exact ⟨fun s us ws _ l1 l2 => match us, l1, ws, l2 with | [_], _, [_], _ => .of_eq rfl, fun r1 r2 => r1.append r2⟩)⟩
    have R_L : RdC l.prog w K mg base CT CF CD CRl "Rule" pRd fRd _ := ⟨(PySem.W.mg_of X G gRl), ⟨rdCRl, gaCRl⟩, ⟨cmCRl, ⟨_, aRd⟩, fiRd⟩, G_read, bRd, (by exact ⟨fun s us ws _ l1 l2 => match us, l1, ws, l2 with | [_], _, [_], _ => .of_eq rfl, fun r1 r2 => r1.append r2⟩)⟩
    have G_lread : FnG l.prog w K mg base CX0 12 fLr _ ["_law_pen_here", "_law_line_here"] (spLRead [(PLr, lamP), (PL, lamL)]) := ok_lread FLr cwLr tbLr List.mem_cons_self (fun p hp e => by
      simp only [List.mem_cons, List.not_mem_nil, or_false] at hp
      rcases hp with rfl | rfl
      · rfl
      · exact absurd e pn1_0) U Zh SMs FD (PySem.W.mg_of X G aD) bD FHd (PySem.W.mg_of X G aHd) bHd R_F R_D R_R R_S R_L
    exact ok_law FL cwL tbL pn0_1 U PQ Zh SMs FPn (PySem.W.mg_of X G aPn) bPn FD (PySem.W.mg_of X G aD) bD FPk (PySem.W.mg_of X G aPk) bPk FPa (PySem.W.mg_of X G aPa) bPa FRu (PySem.W.mg_of X G aRu) bRu FLi (PySem.W.mg_of X G aLi) bLi FIn (PySem.W.mg_of X G aIn) bIn FWr (PySem.W.mg_of X G aWr) bWr FBe (PySem.W.mg_of X G aBe) bBe FLr (PySem.W.mg_of X G aLr) bLr G_rule G_lread FHd (PySem.W.mg_of X G aHd) bHd R_L Fx G_fixed MkF (PySem.W.mg_of X G gF) aEF iFEF neCF G_eqF bEF aED iFED neCD G_eqD bED
end Fz
open PySem PySem.W PyProof.Rows in
set_option maxRecDepth 100000 in
set_option maxHeartbeats 0 in
theorem PySem.Challenge.cw_freetakes_k06_rules_written_and_read_holds : PySem.Challenge.rw_freetakes_k06_rules_written_and_read.Holds := by
  w_on; o_law; k_head; (case hw => w_witness2)
  k_fill
  refine Fz.walk_fz (l := PySem.Challenge.rw_freetakes_k06_rules_written_and_read) (n := 63) (k := 14) (x := "_law_script") rfl (by decide) rfl ⟨rfl, by decide, by decide⟩ (fun w h Y => PySem.W.km_in_of Y) ?F
  case F =>
    intro w mg mb fa h lo mean KX Tp hmg
    refine' Fz.all_mk KX Tp hmg ?hrLr ?hrL ?gRl ?gRs ?gF ?gDn ?gSz ?gB ?gX ?aN ?lN ?cN ?kN ?aRK ?lRK ?cRK ?kRK ?aB ?lB ?cB ?kB ?aRs ?lRs ?cRs ?kRs ?aSz ?lSz ?cSz ?kSz ?aFx ?lFx ?cFx ?kFx ?aDn ?lDn ?cDn ?kDn ?ldFx ?ldDn ?rdCRl ?gaCRl ?rdCRs ?gaCRs ?rdCSz ?gaCSz ?pgCF ?hdCF ?poCF ?saCF ?ntoCF ?nsizeCF ?nleaveCF ?nrestCF ?nmodulusCF ?nstartCF ?nrankCF ?pgCD ?hdCD ?poCD ?saCD ?ntoCD ?nsizeCD ?nleaveCD ?nrestCD ?nmodulusCD ?nstartCD ?nrankCD ?haCF ?hn ?htk ?hmCF ?haCD ?hmCD ?mkCF ?kpCF ?iFFx ?mkCD ?kpCD ?iFDn ?m_CRl_MOST ?m_CRl_MOST_MODULUS ?xBCB ?rBCB ?saCB ?exCB ?tyCB ?kpCB ?npCB ?tfCB ?gaCB ?ggCB ?hdCB ?haCB ?hmCB ?exCX ?hdCX ?tyCX ?s_CB_CX ?kt_CB_CB ?z_int ?z_len ?z_abs ?z_list ?z_range ?z_isinstance ?z_repr ?z_bool ?z_tuple ?z_str ?z_max ?z_min ?z_dict ?z_set ?z_sorted ?z_sum ?z_all ?z_any ?z_zip ?z_enumerate ?z_reversed ?aEF ?lEF ?cEF ?kEF ?aED ?lED ?cED ?kED ?iFEF ?neCF ?tyCF ?iFED ?neCD ?tyCD ?nFD ?nDF ?kt_CF_CF ?kt_CF_CD ?kt_CD_CF ?kt_CD_CD ?aRT ?lRT ?cRT ?kRT ?aLT ?lLT ?cLT ?kLT ?aSF ?lSF ?cSF ?kSF ?aSD ?lSD ?cSD ?kSD ?iFSF ?iFSD ?aPn ?lPn ?cPn ?kPn ?aD ?lD ?cD ?kD ?aPk ?lPk ?cPk ?kPk ?aNo ?lNo ?cNo ?kNo ?aLm ?lLm ?cLm ?kLm ?aRw ?lRw ?cRw ?kRw ?aFi ?lFi ?cFi ?kFi ?aWa ?lWa ?cWa ?kWa ?aWw ?lWw ?cWw ?kWw ?aRo ?lRo ?cRo ?kRo ?aPa ?lPa ?cPa ?kPa ?aRu ?lRu ?cRu ?kRu ?aHd ?lHd ?cHd ?kHd ?aLi ?lLi ?cLi ?kLi ?aIn ?lIn ?cIn ?kIn ?aWr ?lWr ?cWr ?kWr ?aBe ?lBe ?cBe ?kBe ?aLr ?lLr ?cLr ?kLr ?gT ?aBt ?lBt ?cBt ?kBt ?xBCT ?rBCT ?saCT ?exCT ?tyCT ?kpCT ?npCT ?tfCT ?nwCT ?gaCT ?ggCT ?hdCT ?haCT ?hmCT ?s_CT_CX ?kt_CT_CT ?rdCF ?gaCF ?rdCD ?gaCD ?cmCF ?cmCD ?cmCRs ?cmCSz ?cmCRl ?aRd ?lRd ?cRd ?kRd ?fiRd ?nsCF ?nsCD ?aL ?lL ?cL ?kL ?tcLr ?vPLr ?ttLr ?tcL ?vPL ?ttL ?pn0_1 ?pn1_0
    (case hrLr => first | rfl | kernel_rfl | k_is)
    (case hrL => first | rfl | kernel_rfl | k_is)
    (case gRl => k_is)
    (case gRs => k_is)
    (case gF => k_is)
    (case gDn => k_is)
    (case gSz => k_is)
    (case gB => k_is)
    (case gX => k_is)
    (case aN => k_is)
    (case lN => k_is)
    (case cN => k_is)
    (case kN => k_is)
    (case aRK => k_is)
    (case lRK => k_is)
    (case cRK => k_is)
    (case kRK => k_is)
    (case aB => k_is)
    (case lB => k_is)
    (case cB => k_is)
    (case kB => k_is)
    (case aRs => k_is)
    (case lRs => k_is)
    (case cRs => k_is)
    (case kRs => k_is)
    (case aSz => k_is)
    (case lSz => k_is)
    (case cSz => k_is)
    (case kSz => k_is)
    (case aFx => k_is)
    (case lFx => k_is)
    (case cFx => k_is)
    (case kFx => k_is)
    (case aDn => k_is)
    (case lDn => k_is)
    (case cDn => k_is)
    (case kDn => k_is)
    (case ldFx => k_is)
    (case ldDn => k_is)
    (case rdCRl => k_is)
    (case gaCRl => k_is)
    (case rdCRs => k_is)
    (case gaCRs => k_is)
    (case rdCSz => k_is)
    (case gaCSz => k_is)
    (case pgCF => k_is)
    (case hdCF => k_is)
    (case poCF => k_is)
    (case saCF => k_is)
    (case ntoCF => k_is)
    (case nsizeCF => k_is)
    (case nleaveCF => k_is)
    (case nrestCF => k_is)
    (case nmodulusCF => k_is)
    (case nstartCF => k_is)
    (case nrankCF => k_is)
    (case pgCD => k_is)
    (case hdCD => k_is)
    (case poCD => k_is)
    (case saCD => k_is)
    (case ntoCD => k_is)
    (case nsizeCD => k_is)
    (case nleaveCD => k_is)
    (case nrestCD => k_is)
    (case nmodulusCD => k_is)
    (case nstartCD => k_is)
    (case nrankCD => k_is)
    (case haCF => k_is)
    (case hn => k_is)
    (case htk => k_is)
    (case hmCF => k_is)
    (case haCD => k_is)
    (case hmCD => k_is)
    (case mkCF => k_is)
    (case kpCF => k_is)
    (case iFFx => k_is)
    (case mkCD => k_is)
    (case kpCD => k_is)
    (case iFDn => k_is)
    (case m_CRl_MOST => k_is)
    (case m_CRl_MOST_MODULUS => k_is)
    (case xBCB => k_is)
    (case rBCB => first | rfl | decide +kernel)
    (case saCB => k_is)
    (case exCB => k_is)
    (case tyCB => k_is)
    (case kpCB => k_is)
    (case npCB => k_is)
    (case tfCB => k_is)
    (case gaCB => k_is)
    (case ggCB => k_is)
    (case hdCB => k_is)
    (case haCB => k_is)
    (case hmCB => k_is)
    (case exCX => k_is)
    (case hdCX => k_is)
    (case tyCX => k_is)
    (case s_CB_CX => k_is)
    (case kt_CB_CB => kit_is)
    (case z_int => k_is)
    (case z_len => k_is)
    (case z_abs => k_is)
    (case z_list => k_is)
    (case z_range => k_is)
    (case z_isinstance => k_is)
    (case z_repr => k_is)
    (case z_bool => k_is)
    (case z_tuple => k_is)
    (case z_str => k_is)
    (case z_max => k_is)
    (case z_min => k_is)
    (case z_dict => k_is)
    (case z_set => k_is)
    (case z_sorted => k_is)
    (case z_sum => k_is)
    (case z_all => k_is)
    (case z_any => k_is)
    (case z_zip => k_is)
    (case z_enumerate => k_is)
    (case z_reversed => k_is)
    (case aEF => k_is)
    (case lEF => k_is)
    (case cEF => k_is)
    (case kEF => k_is)
    (case aED => k_is)
    (case lED => k_is)
    (case cED => k_is)
    (case kED => k_is)
    (case iFEF => k_is)
    (case neCF => k_is)
    (case tyCF => k_is)
    (case iFED => k_is)
    (case neCD => k_is)
    (case tyCD => k_is)
    (case nFD => k_is)
    (case nDF => k_is)
    (case kt_CF_CF => kit_is)
    (case kt_CF_CD => kit_is)
    (case kt_CD_CF => kit_is)
    (case kt_CD_CD => kit_is)
    (case aRT => k_is)
    (case lRT => k_is)
    (case cRT => k_is)
    (case kRT => k_is)
    (case aLT => k_is)
    (case lLT => k_is)
    (case cLT => k_is)
    (case kLT => k_is)
    (case aSF => k_is)
    (case lSF => k_is)
    (case cSF => k_is)
    (case kSF => k_is)
    (case aSD => k_is)
    (case lSD => k_is)
    (case cSD => k_is)
    (case kSD => k_is)
    (case iFSF => k_is)
    (case iFSD => k_is)
    (case aPn => k_is)
    (case lPn => k_is)
    (case cPn => k_is)
    (case kPn => k_is)
    (case aD => k_is)
    (case lD => k_is)
    (case cD => k_is)
    (case kD => k_is)
    (case aPk => k_is)
    (case lPk => k_is)
    (case cPk => k_is)
    (case kPk => k_is)
    (case aNo => k_is)
    (case lNo => k_is)
    (case cNo => k_is)
    (case kNo => k_is)
    (case aLm => k_is)
    (case lLm => k_is)
    (case cLm => k_is)
    (case kLm => k_is)
    (case aRw => k_is)
    (case lRw => k_is)
    (case cRw => k_is)
    (case kRw => k_is)
    (case aFi => k_is)
    (case lFi => k_is)
    (case cFi => k_is)
    (case kFi => k_is)
    (case aWa => k_is)
    (case lWa => k_is)
    (case cWa => k_is)
    (case kWa => k_is)
    (case aWw => k_is)
    (case lWw => k_is)
    (case cWw => k_is)
    (case kWw => k_is)
    (case aRo => k_is)
    (case lRo => k_is)
    (case cRo => k_is)
    (case kRo => k_is)
    (case aPa => k_is)
    (case lPa => k_is)
    (case cPa => k_is)
    (case kPa => k_is)
    (case aRu => k_is)
    (case lRu => k_is)
    (case cRu => k_is)
    (case kRu => k_is)
    (case aHd => k_is)
    (case lHd => k_is)
    (case cHd => k_is)
    (case kHd => k_is)
    (case aLi => k_is)
    (case lLi => k_is)
    (case cLi => k_is)
    (case kLi => k_is)
    (case aIn => k_is)
    (case lIn => k_is)
    (case cIn => k_is)
    (case kIn => k_is)
    (case aWr => k_is)
    (case lWr => k_is)
    (case cWr => k_is)
    (case kWr => k_is)
    (case aBe => k_is)
    (case lBe => k_is)
    (case cBe => k_is)
    (case kBe => k_is)
    (case aLr => k_is)
    (case lLr => k_is)
    (case cLr => k_is)
    (case kLr => k_is)
    (case gT => k_is)
    (case aBt => k_is)
    (case lBt => k_is)
    (case cBt => k_is)
    (case kBt => k_is)
    (case xBCT => k_is)
    (case rBCT => first | rfl | decide +kernel)
    (case saCT => k_is)
    (case exCT => k_is)
    (case tyCT => k_is)
    (case kpCT => k_is)
    (case npCT => k_is)
    (case tfCT => k_is)
    (case nwCT => k_is)
    (case gaCT => k_is)
    (case ggCT => k_is)
    (case hdCT => k_is)
    (case haCT => k_is)
    (case hmCT => k_is)
    (case s_CT_CX => k_is)
    (case kt_CT_CT => kit_is)
    (case rdCF => k_is)
    (case gaCF => k_is)
    (case rdCD => k_is)
    (case gaCD => k_is)
    (case cmCF => k_is)
    (case cmCD => k_is)
    (case cmCRs => k_is)
    (case cmCSz => k_is)
    (case cmCRl => k_is)
    (case aRd => k_is)
    (case lRd => k_is)
    (case cRd => k_is)
    (case kRd => k_is)
    (case fiRd => k_is)
    (case nsCF => kit_is)
    (case nsCD => kit_is)
    (case aL => k_is)
    (case lL => k_is)
    (case cL => k_is)
    (case kL => k_is)
    (case tcLr => k_is)
    (case vPLr => rfl)
    (case ttLr => first | rfl | kernel_rfl | decide +kernel)
    (case tcL => k_is)
    (case vPL => rfl)
    (case ttL => first | rfl | kernel_rfl | decide +kernel)
    (case pn0_1 => decide)
    (case pn1_0 => decide)
#print axioms PySem.Challenge.cw_freetakes_k06_rules_written_and_read_holds
