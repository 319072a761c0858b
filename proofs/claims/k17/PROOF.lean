import PyProof.Rows.All
import Wide.All
import OpenK.AllK
import Wide.FinOn
import PyProof.EqAt
import PyProof.EqKinds
import PyProof.TupleCall
import HandS.Base
import HandS.Call
import HandS.List
import HandS.Ends
import HandS.Exc
import HandS.ExcOwn
import HandS.ExcInit
import HandS.Lambda
import HandS.ExcField
import HandS.ExcIs
import HandS.IsInst
import HandS.EndTab
import HandS.Words
import HandS.WordsList
import HandS.WordsExc
import HandS.ClsMeth
import HandS.Wide
import HandS.Conv
import HandS.LawCells
import HandS.MakeKw
import HandS.MakeKwOnly
import KE.KCallOwn
import HandS.SlotsOwn
import HandS.FStr
import KE.IntTextLaws
import KE.KIntText
import HandS.Text
import HandS.OwnEq
import HandS.Star
import HandS.StrMore
import HandS.Iter
import HandS.Walk
import HandS.TupAny
import KE.KAssignIn
import HandS.Style
import PySem.Challenge.RW_freetakes_k17_tables_in_least_form
set_option Elab.async false
set_option linter.all false
set_option maxRecDepth 100000
set_option maxHeartbeats 2000000
/-! Own layer, first part: repr of data; defs that are called where no repr is under way. -/
namespace Fz
open PySem PySem.Spec PyProof.Rows L2

/-! ### repr of lists and tuples of data -/
structure rRepD (K : PySem.W.Frag) (vs : List V) (H : Hp) (Q : VK) : Prop where
  ex : ∃ (p : Addr) (dat : PyData), vs = [.ref p] ∧ Dp K H (.ref p) dat ∧ dat.showable = true ∧ dat.hasDict = false ∧ dat.depth ≤ 60 ∧ dat.shown.length ≤ sizeLine ∧ Q (.str dat.shown) H
theorem call_repD {X : Cx} (clear : X.A.guards = some []) (room : X.A.units + 64 < cLine) : CallR X (.builtin "repr") (rRepD X.K) := by
  intro pins s σ H vs us Q I rvs hyp
  obtain ⟨p, dat, rfl, hdat, hshow, hno, hdeep, hfit, fin⟩ := hyp.ex
  obtain ⟨u, rfl, ru⟩ := vals1 rvs
  cases ru
  obtain ⟨seen, reads⟩ := Dp.reads I dat (.ref p) (.ref p) hdat rfl
  refine repr_of_reads' reads hshow (fun bad => ?_) clear (by omega) (fun _ _ same => same) (fun heap' tok toks kept => ?_) hfit
  · rw [hno] at bad
    cases bad
  · exact ⟨.str dat.shown, H, I.kept kept, ⟨_, rfl⟩, fin⟩

/-! ### defs that are called where no repr is under way -/
structure FnG (P : Program) (w : World) (K : PySem.W.Frag) (mg : Str → Option Value) (base : Heap) (CX : CXT) (k : Nat) (f : Addr) (fd : FuncData) (ps : List Str) (sp : Sp) : Prop where
  len : ∀ vs H Q E, sp vs H Q E → vs.length = ps.length
  run : ∀ (A : Around) (outer : List Env) (s : Shared) (H : Hp) (args : Args) (us : List Value) (vs : List V) (Q : VK) (E : XK), Room k A → A.guards = some [] → Env0 P w K mg base A outer s H →
    BindsTo s fd args (ps.zip us) → Vals vs us → sp vs H Q E → codeAny (model P w) A (.call (.ref f) args) (CR CX outer P w H s Q E) s
section
variable {P : Program} {w : World} {K : PySem.W.Frag} {mg : Str → Option Value} {base : Heap} {CX : CXT} {k : Nat} {f : Addr} {fd : FuncData} {ps : List Str} {sp : Sp}
theorem FnG.of (F : FnOk P w K mg base CX k f fd ps sp) : FnG P w K mg base CX k f fd ps sp :=
  ⟨F.len, fun A outer s H args us vs Q E room _ => F.run A outer s H args us vs Q E room⟩
/-- the rule for such a def -/
theorem fnG_of {name qual : Str} {params : Arguments} {body : List Stmt} {scope : Scope} {dV kV doc pm cdv ct oc : Value} {an od : Option Addr} {osl : Array (Option Value)} {N : List Str}
    (lk : K.lookup f = some ⟨oc, od, .func (PySem.W.fnOf name qual params body scope dV kV doc pm an cdv ct), osl⟩) (code : PySem.W.codeIn K cdv qual = true) (S : FnScope N ps scope) (len : ∀ vs H Q E, sp vs H Q E → vs.length = ps.length)
    (walk : ∀ (A : Around) (outer : List Env) (s : Shared) (H : Hp) (vs : List V) (Q : VK) (E : XK), Room k (A.deeper (envOfC qual scope s.heap.objs.size f cdv)) → A.guards = some [] → sp vs H Q E →
      ∃ t, PSs (cxOf CX P w K mg base N qual scope f cdv A outer s H E) body t ∧ t { nx := fun _ H' => Q .non H', rt := Q } (start N vs) H) :
    FnG P w K mg base CX (k + 1) f (PySem.W.fnOf name qual params body scope dV kV doc pm an cdv ct) ps sp :=
  ⟨len, fun A outer s H args us vs Q E room clear at0 binds rvs hyp => LamX.run_ofS lk code S room at0 binds rvs (len _ _ _ _ hyp) fun room' => walk A outer s H vs Q E room' clear hyp⟩
end
section
variable {X : Cx} {CX : CXT} {k : Nat} {f : Addr} {fd : FuncData} {ps : List Str} {sp : Sp} {dvs : List V} {ds : List Value} {E : XK} {x : Str} {p pos : Pos} {e : Expr} {es : List Expr} {t : TA}
theorem run_fnG {pins : List (Addr × Obj)} {σ : L2.St} {H : Hp} {s : Shared} {Q : VK} {us : List Value} {vs : List V} (F : FnG X.prog X.w X.K X.mg X.base CX k f fd ps sp) (room : Room k X.A) (clear : X.A.guards = some []) (binds : L2.Binds X.K fd ps ds) (rd : Vals dvs ds)
    (pass : Passes CX X E) (I : Inv X pins σ H s) (rvs : Vals vs us) (hyp : sp (vs ++ dvs) H Q E) : wpAny (model X.prog X.w) X.A (call (.ref f) us) (EP X pins σ Q) X.xe s := by
  have rall : Vals (vs ++ dvs) (us ++ ds) := rvs.append rd
  have many : (us ++ ds).length = ps.length := rall.length.symm.trans (F.len _ _ _ _ hyp)
  refine wpAny_call (codeAny_mono (F.run X.A X.stack s H ⟨us, []⟩ (us ++ ds) (vs ++ dvs) Q E room clear I.env0 (binds s us I.kIn many) rall hyp) fun res s' got => ?_)
  match res, got with
  | .error e, got => exact pass pins σ H s e s' I got
  | .ok (.ret u), got => exact I.after got
  | .ok .next, got => exact got.elim
  | .ok .brk, got => exact got.elim
  | .ok .cont, got => exact got.elim
theorem pe_callG (F : FnG X.prog X.w X.K X.mg X.base CX k f fd ps sp) (room : Room k X.A) (clear : X.A.guards = some []) (glob : Gl X x) (at_ : X.mg x = some (.ref f)) (keep : PySem.W.keepIn X.K (.ref f) = true) (binds : L2.Binds X.K fd ps ds) (rd : Vals dvs ds) (pass : Passes CX X E)
    (ha : PA X (e :: es) t) (ndb : (x == ("__debug__" : Str)) = false := by decide) (star : starEach (e :: es) X.env = (false, eval e X.env) :: starEach es X.env := by rfl) (plain : (backTo pos (starEach es X.env)).any (·.1) = false := by rfl) :
    PE X (.Call (.Name x p) (e :: es) [] pos) (tCall sp dvs E t) :=
  ⟨fun pins s σ H Q I hyp => wpAny_Call_Name_kw (ld_glob I glob at_ (PySem.W.callWith_K (h₀ := X.base) I.ok.mod.kin keep
    (thn (ha.run pos pins s σ H _ I hyp) fun us s1 ⟨vs, H1, I1, rvs, fin⟩ => ⟨I1.kIn, run_fnG F room clear binds rd pass I1 rvs fin⟩) star plain) ndb)⟩
end
end Fz

set_option Elab.async false
set_option linter.all false
set_option maxRecDepth 100000
set_option maxHeartbeats 4000000
/-! Own layer, second part: a caught error of an own class that a name keeps behind the except suite: it is tracked. -/
namespace Fz
open PySem PySem.Spec PyProof.Rows L2

/-- at p: an error of the class cls, its fields' dict at d -/
def Err (cls : Value) (d : Option Addr) (p : Addr) : HO := .ext fun h => ∃ (ob : Obj) (slots : Array Value), h.get? p = some ob ∧ Zc cls d ob ∧ ob.data = .fields slots
theorem Err.made {P : Program} {w : World} {H : Hp} {h : Heap} {p : Addr} {cls : Value} {d : Option Addr} {ob : Obj} {slots : Array Value} (at_ : h.get? p = some ob) (z : Zc cls d ob) (dat : ob.data = .fields slots) : ObjOk P w H h p (Err cls d p) :=
  ⟨⟨ob, slots, at_, z, dat⟩, ⟨ob, at_⟩, fun _ _ ⟨ob', slots', q, r⟩ stay => ⟨ob', slots', stay ob' q, r⟩⟩
theorem Err.at_ {P : Program} {w : World} {H : Hp} {h : Heap} {p : Addr} {cls : Value} {d : Option Addr} (ok : HOk P w H h) (here : H p = some (Err cls d p)) : ∃ (ob : Obj) (slots : Array Value), h.get? p = some ob ∧ Zc cls d ob ∧ ob.data = .fields slots :=
  (show ObjOk P w H h p (.ext _) from ok p _ here).1

section
variable {X : Cx} {pins : List (Addr × Obj)} {σ : L2.St} {H : Hp} {s : Shared}
/-- an object that came to be since the entry is tracked from now on -/
theorem track {p : Addr} {o : HO} (I : Inv X pins σ H s) (un : H p = none) (new : ObjOk X.prog X.w (upd H p o) s.heap p o) (late : ∀ b u, X.s_0.heap.get? b = some u → b ≠ p) (noFrame : p ≠ X.env.locals)
    (noCell : ∀ x c, X.env.cells.lookup x = some c → c ≠ p) (noPin : ∀ q ∈ X.pn ++ pins, q.1 ≠ p) : Inv X pins σ (upd H p o) s := by
  have other : ∀ {b u}, H b = some u → b ≠ p := fun {b u} q => ne_of_none q un
  refine ⟨I.ok, I.os, I.bare, ⟨I.base.keep, I.base.slot, fun b u q n hx => ?_, I.base.there, fun b vs q => ?_, fun b u v q => ?_, fun b vs q => ?_⟩, I.loc, I.cell, ?_, fun x c q => ?_, fun q hq => ?_, fun b u q => ?_, I.len⟩
  · rw [upd_ne (late b u q)]
    exact I.base.free b u q n hx
  · have z := I.base.tups b vs q
    rw [upd_ne (other z)]
    exact z
  · have z := I.base.frzs b u v q
    rw [upd_ne (other z)]
    exact z
  · obtain ⟨more, z⟩ := I.base.tbls b vs q
    exact ⟨more, by rw [upd_ne (other z)]; exact z⟩
  · rw [upd_ne (Ne.symm noFrame)]
    exact I.free
  · rw [upd_ne (noCell x c q)]
    exact I.freeC x c q
  · obtain ⟨z1, z2, z3, z4, z5⟩ := I.pin q hq
    exact ⟨z1, by rw [upd_ne (noPin q hq)]; exact z2, z3, z4, z5⟩
  · by_cases hb : b = p
    · subst hb
      rw [upd_same] at q
      cases q
      exact new
    · rw [upd_ne hb] at q
      refine (I.hok b u q).stay (fun c v _ r => r) (fun c r => ?_) fun c vs r => ?_
      · rw [upd_ne (other r)]
        exact r
      · rw [upd_ne (other r)]
        exact r
/-- into an except suite, and out of it, the error tracked -/
theorem intoSuite (I : Inv X pins σ H s) (p : Addr) : Inv (X.suite p (X.pn ++ pins)) [] σ H s :=
  ⟨I.ok.suite p (X.pn ++ pins), I.os, I.bare, I.base, I.loc, I.cell, I.free, I.freeC, fun q hq => I.pin q (by simpa using hq), I.hok, I.len⟩
theorem outOfSuite {p : Addr} {more : List (Addr × Obj)} (I : Inv (X.suite p (X.pn ++ pins)) more σ H s) (ok : X.Ok) : Inv X pins σ H s :=
  ⟨ok, I.os, I.bare, I.base, I.loc, I.cell, I.free, I.freeC, fun q hq => I.pin q (List.mem_append_left more hq), I.hok, I.len⟩
end

/-- what the clause «except x as n» wishes: in its suite, and from then on, the error is tracked at p -/
def wErr (K : PySem.W.Frag) (N : List Str) (c : Value) (i : Nat) (ts : Addr → Value → Option Addr → TS) (Wout : WX) (D : Ends) : WX := fun cls d σ H => ∃ hit, PySem.W.exmOne K cls c = some hit ∧
  (hit = true → σ.length = N.length → ∀ p, H p = none → ts p cls d { nx := fun σ' H' => D.nx (σ'.set i none) H', rt := D.rt, bk := fun σ' H' => D.bk (σ'.set i none) H', ct := fun σ' H' => D.ct (σ'.set i none) H' } (σ.set i (some (.ref p))) (upd H p (Err cls d p))) ∧
  (hit = false → Wout cls d σ H)
section
variable {X : Cx} {x n : Str} {c : Value} {i : Nat} {body rest : List Stmt} {first : Stmt} {np pos pos' : Pos} {tb : WX → TS} {ts : Addr → Value → Option Addr → TS} {Wout : WX}
theorem ps_tryErr (stk : X.stack = X.env :: X.outer) (frm : X.env.frame = some X.env.locals) (noex : X.ex = []) (nd : X.N.Nodup) (slot : X.N[i]? = some n) (isLocal : X.env.kindOf n = some .local) (named : Names X x c) (out : Takes X Wout)
    (hbody : ∀ (W : WX) (pn : List (Addr × Obj)) (xe : Value → Shared → Prop), Takes (X.tr pn xe) W → PassesOwn (model X.prog X.w) X.A X.env xe → PSs (X.tr pn xe) body (tb W))
    (hsuite : ∀ (p : Addr) (cls : Value) (d : Option Addr) (pn : List (Addr × Obj)), PSs (X.suite p pn) (first :: rest) (ts p cls d)) :
    PS X (.Try body [.ExceptHandler (some (.Name x np)) (some n) (first :: rest) pos'] [] [] pos) (fun D σ H => tb (wErr X.K X.N c i ts Wout D) D σ H) := by
  refine ⟨fun pins s σ H D I hyp => wpAny_Try_except ?_⟩
  have okX := I.ok
  have frames : X.A.frames = some (X.env :: X.outer) := okX.frames.trans (congrArg some stk)
  refine wpAny_mono ((hbody (wErr X.K X.N c i ts Wout D) (X.pn ++ pins) (fun err s₁ => wpAny (model X.prog X.w) X.A (noteFrame err X.env) (fun _ s₂ => wpAny (model X.prog X.w) X.A (setFlight err none) (fun _ s₃ =>
    wpAny (model X.prog X.w) X.A (handleBy err X.env [.ExceptHandler (some (.Name x np)) (some n) (first :: rest) pos']) (SP X pins D) X.xe s₃) X.xe s₂) X.xe s₁) (fun err s' air => ?_) PassesOwn.looking).run [] s σ H D (I.toTry _) hyp) (fun flow s' done => ?_) (fun _ _ z => z)
  · -- an error comes
    obtain ⟨p, B, ground, pins', σ', H', cls, d, rfl, Jt, below, upto, sky, un, sameOs, bare, hit, test, yes, no⟩ := air
    have J : Inv X pins σ' H' ground := Jt.ofTry okX
    rw [stk] at sky
    show wpAny (model X.prog X.w) X.A (noteFrame (.ref p) X.env) _ _ _
    refine Sky.land Zc.steady frames frm sky fun h1 fly1 upto1 => ?_
    have J1 : Inv X pins σ' H' { s' with heap := h1 } := J.landed below fly1.1 (upto.trans upto1) sameOs bare
    obtain ⟨ob1, sl1, get1, z1, dat1⟩ := fly1.there
    -- p is no frame's own address
    have noFrame : p ∉ frs (X.env :: X.outer) := fun hm => by
      obtain ⟨_, ob', get', nofields⟩ := fly1.2.2.1.mem hm
      have same : ob1 = ob' := Option.some.inj (get1.symm.trans get')
      exact nofields sl1 (same ▸ dat1)
    have notOwn : p ≠ X.env.locals := fun z => noFrame (List.mem_filterMap.mpr ⟨X.env, List.mem_cons_self, by rw [frm, z]⟩)
    -- p came to be behind the entry
    have fresh0 : ∀ b u, ground.heap.get? b = some u → b ≠ p := fun b u q z => by
      have z2 := below b u q (by rw [stk, z]; exact noFrame)
      rw [z, fly1.2.1] at z2
      cases z2
    have fresh : ∀ b u, X.s_0.heap.get? b = some u → b ≠ p := fun b u q => by
      obtain ⟨u', q'⟩ := J.base.there b u q (by rw [noex]; exact fun z => nomatch z)
      exact fresh0 b u' q'
    have noPin : ∀ q ∈ X.pn ++ pins, q.1 ≠ p := fun q hq => fresh0 q.1 q.2 (J.pin q hq).1
    have noCell : ∀ y k, X.env.cells.lookup y = some k → k ≠ p := fun y k q => by
      obtain ⟨v, ob', get', _⟩ := J.cell y k q
      exact fresh0 k ob' get'
    -- the clause's class is named and asked
    refine wpAny_handleBy_cons (codeAny_handlers_test ?_) (by intro z; cases z)
    have tyP : PySem.W.Looks (model X.prog X.w) h1 (typeOf (.ref p)) cls := fun A Q E s k q => wpAny_typeOf_ref (k _ _ get1) (by rw [z1.1]; exact q)
    have ask := PySem.W.exm_one (M := model X.prog X.w) J1.kIn tyP test
    have inside := intoSuite J1 p
    have loaded : ∀ {Q : Value → Shared → Prop} {E : Value → Shared → Prop}, Q c { s' with heap := h1 } → wpAny (model X.prog X.w) (X.A.mark (some (.ref p))) (eval (.Name x np) X.env) Q E { s' with heap := h1 } := fun {Q E} q => by
      obtain ⟨isGlob, ndb, here | ⟨nowhere, boot, nname⟩⟩ := named
      · exact ld_glob (X := X.suite p (X.pn ++ pins)) inside isGlob here q ndb
      · exact ld_blt (X := X.suite p (X.pn ++ pins)) inside isGlob nowhere boot q nname ndb
    refine loaded (ask.here ?_)
    match hit, yes, no with
    | true, yes, _ =>
      refine codeAny_handlers_suite_as (HandSPX.lands_againZ fly1 fun h2 fly2 upto2 => ?_)
      have J2 : Inv X pins σ' H' { s' with heap := h2 } := J.landed below fly2.1 ((upto.trans upto1).trans upto2) sameOs bare
      obtain ⟨ob2, sl2, get2, z2, dat2⟩ := fly2.there
      have tracked := track J2 un (Err.made get2 z2 dat2) fresh notOwn noCell noPin
      refine store_ok (X := X.suite p (X.pn ++ pins)) (v := .ref p) (intoSuite tracked p) nd slot (.inl isLocal) rfl (fun s3 S3 => ?_) (.inr isLocal)
      refine wpAny_mono ((hsuite p cls d (X.pn ++ pins)).run [] s3 _ _ _ S3 (yes rfl J.len p un)) (fun flow s4 done => ?_) (fun _ _ z => z.elim)
      have gone : ∀ {σ4 : L2.St} {H4 : Hp} {Q : Shared → Prop}, Inv (X.suite p (X.pn ++ pins)) [] σ4 H4 s4 → (∀ s5, Inv X pins (σ4.set i none) H4 s5 → Q s5) →
          wpAny (model X.prog X.w) X.A (do bindName X.env n .none; unbindBehindTheSuite X.env n pos') (fun _ s5 => Q s5) X.xe s4 := fun {σ4 H4 Q} S4 go => gone_ok (outOfSuite S4 okX) nd slot isLocal go
      match flow, done with
      | .next, ⟨_, _, S4, q⟩ => exact gone S4 fun _ J5 => ⟨_, _, J5, q⟩
      | .brk, ⟨_, _, S4, q⟩ => exact gone S4 fun _ J5 => ⟨_, _, J5, q⟩
      | .cont, ⟨_, _, S4, q⟩ => exact gone S4 fun _ J5 => ⟨_, _, J5, q⟩
      | .ret _, ⟨_, _, _, S4, rv, q⟩ => exact gone S4 fun _ J5 => ⟨_, _, _, J5, rv, q⟩
    | false, _, no =>
      show wpAny _ X.A (handleBy (.ref p) X.env []) _ _ _
      refine wpAny_handleBy_nil ?_
      obtain ⟨_, _, _, obF, slF, T, _, _, getF, _, datF, traced, _⟩ := id fly1
      unfold PySem.passOn
      refine wpAny_bind (wpAny_field getF datF traced ?_)
      rw [if_neg (show ¬ ((Value.ref T == Value.none) = true) by simp)]
      have on_ : wpAny (model X.prog X.w) X.A (setFlight (.ref p) X.env.frame) (fun _ s4 => wpAny (model X.prog X.w) X.A (throw (.ref p) : Sem Flow) (SP X pins D) X.xe s4) X.xe { s' with heap := h1 } := by
        rw [frm]
        exact HandSPX.setFlight_upZ fly1 fun h2 held2 upto2 => wpAny_throw (out _ _ ⟨p, B, ground, pins, σ', H', cls, d, rfl, J, below, (upto.trans upto1).trans upto2, .inr (.inr (by rw [stk]; exact held2)), un, sameOs, bare, no rfl⟩)
      first
        | exact wpAny_bind (wpAny_pure (wpAny_bind on_))
        | exact wpAny_bind on_
  · match flow, done with
    | .next, ⟨_, _, J, q⟩ => exact wpAny_execs_nil ⟨_, _, J.ofTry okX, q⟩
    | .brk, ⟨_, _, J, q⟩ => exact ⟨_, _, J.ofTry okX, q⟩
    | .cont, ⟨_, _, J, q⟩ => exact ⟨_, _, J.ofTry okX, q⟩
    | .ret _, ⟨_, _, _, J, rv, q⟩ => exact ⟨_, _, _, J.ofTry okX, rv, q⟩
end
end Fz

set_option Elab.async false
set_option linter.all false
set_option maxRecDepth 100000
set_option maxHeartbeats 4000000
/-! Own layer, third part: what is asked of a tracked error: its fields, its class. -/
namespace Fz
open PySem PySem.Spec PyProof.Rows L2
section
open PySem.W
variable {prog : Program} {w : World} {A : Around} {E : Value → Shared → Prop} {s : Shared} {K : Frag} {p cl : Addr} {ob : Obj} {own : Option Obj}
/-- err.__class__, the error with a dict or without one -/
theorem err_class {Q : Option Value → Shared → Prop} (C : ExcC K cl) (X : K.In s.heap) (I : InstAt s.heap p ob cl own) (fin : Q (some (.ref cl)) { s with toks := s.toks + 1 }) : wpAny (model prog w) A (getAttr? (.ref p) "__class__") Q E s := by
  have found : findObj K cl own "__class__" = some (.bind (.builtin "getset_descriptor.__get__") (.builtin "object.__class__")) := by
    have isC : (clsIn K cl).isSome = true := by
      obtain ⟨cd, q, _⟩ := any_some C.hd
      rw [q]
      rfl
    cases own with
    | none => exact findObj_dataN isC C.ha C.hn C.ht
    | some od => exact findObj_data isC C.ha C.hn C.ht
  obtain ⟨heap, gens, drawn, tok, os⟩ := s
  have t1 := I.type (M := model prog w)
  have t2 := looks_findIn (M := model prog w) X C.hg
  have t3 := looks_findIn (M := model prog w) X C.hk
  have t4 := looks_find (M := model prog w) X I found
  have isExc : Looks (model prog w) heap (isInstance (.ref p) (.type "BaseException")) true := t1.andThen (looks_subIn X C.hs)
  have n1 : (Value.builtin "BaseException.__getattribute__" == Value.builtin "object.__getattribute__") = false := by decide +kernel
  have n2 : (onTheHeap (Value.ref cl) && Value.builtin "BaseException.__getattribute__" == Value.builtin "object.__getattribute__") = false := by rw [n1]; rfl
  have n3 : (false && onTheHeap (Value.builtin "BaseException.__getattribute__")) = false := rfl
  unfold getAttr? getAttrBy? getAttrBy
  refine wpAny_bind (wpAny_mkText (wpAny_bind (wpAny_attempt (wpAny_holding (wpAny_bind (t1.at (wpAny_bind (t2.at ?_))))))))
  show wpAny _ _ (if (onTheHeap (Value.ref cl) && Value.builtin "BaseException.__getattribute__" == Value.builtin "object.__getattribute__") = true then _ else _) _ _ _
  rw [n2, if_neg Bool.false_ne_true]
  unfold getAttrByItsOwn hookBefore
  refine wpAny_bind ?_
  rw [if_pos (show onTheHeap (Value.ref cl) = true from rfl)]
  refine t3.at (wpAny_bind (wpAny_attempt (wpAny_holding ?_)))
  unfold callGetattribute
  rw [n3, if_neg Bool.false_ne_true]
  unfold boundAndCalled
  rw [PySem.F.excAttr_ValueError.ga.bind (.ref p)]
  refine wpAny_bind (wpAny_pure ?_)
  show wpAny _ _ (call (.builtin "BaseException.__getattribute__") [.ref p, .str "__class__" tok]) _ _ _
  refine wpAny_call (codeAny_call_builtin PySem.F.excAttr_ValueError.ga.plain PySem.F.entry_bexc_ga ?_)
  refine @check_slot (model prog w) _ _ ⟨heap, gens, drawn, tok + 1, os⟩ "BaseException.__getattribute__" "BaseException" "__getattribute__" (.ref p) [.str "__class__" tok] [] _ (by decide +kernel) (by decide +kernel) isExc (PySem.F.args_bexc_ga (.ref p) (.str "__class__" tok)) ?_
  unfold Builtin.«object.__getattribute__»
  refine wpAny_bind (wpAny_of_eq (a := ((Value.ref p : Value), [Value.str "__class__" tok])) (by first | rfl | (simp only [slotArgs]; rfl)) ?_)
  refine wpAny_bind (wpAny_pure (wpAny_bind (t1.at (wpAny_bind (t4.at ?_)))))
  show wpAny _ _ (holding [Value.builtin "object.__class__"] (call (.builtin "getset_descriptor.__get__") [.builtin "object.__class__", .ref p, .ref cl]) >>= ret) _ _ _
  refine wpAny_bind (wpAny_holding (wpAny_call (class_get (s := ⟨heap, gens, drawn, tok + 1, os⟩) (ox := ob) (od := own) X I C.hm ?_)))
  refine wpAny_pure ?_
  show wpAny _ _ (handedOut (.ref cl)) _ _ _
  rw [handedOut_of (v := .ref cl) rfl]
  first
    | exact wpAny_pure (wpAny_pure fin)
    | exact wpAny_pure fin
    | exact wpAny_pure (wpAny_bind (wpAny_pure (wpAny_pure fin)))
theorem cls_obj (C : ExcC K cl) : ∃ o : Obj, K.lookup cl = some o ∧ (∀ its n, o.data ≠ .seq its n) ∧ ∀ (M : Model) (h : Heap), K.In h → Looks M h (isType (.ref cl)) true := by
  obtain ⟨cd, q, _⟩ := any_some C.hd
  unfold clsIn at q
  split at q
  · rename_i c d dat sl here
    refine ⟨_, here, fun its n z => (by cases z), fun M h X A Q E st stay fin => ?_⟩
    unfold isType loadHead
    exact wpAny_bind (wpAny_loadPart (stay _ _ (X _ _ here)) (wpAny_pure fin))
  · cases q
theorem kit_err (C : ExcC K cl) : KitX K (.ref p) (.ref cl) (fun h => InstAt h p ob cl own) where
  ty := fun _ _ _ I => I.type
  it := fun M h X _ => (cls_obj C).choose_spec.2.2 M h X
  ne := fun h tp dd its n sl X there => by
    obtain ⟨o, here, noSeq, _⟩ := cls_obj C
    refine Bool.eq_false_iff.mpr fun q => ?_
    cases Value.ref.inj (beq_iff_eq.mp q)
    have z := Option.some.inj ((X _ _ here).symm.trans there)
    exact noSeq its.toArray n (by rw [z])
  ca := fun X I fin => err_class C X I fin
end
section
variable {X : Cx}
/-- an error's place as the library's rules take it -/
theorem inst_err {pins : List (Addr × Obj)} {σ : L2.St} {H : Hp} {s : Shared} {p cl : Addr} {d : Option Addr} (I : Inv X pins σ H s) (here : H p = some (Err (.ref cl) d p)) (dict : ∀ dd, d = some dd → ∃ fs, H dd = some (.xd fs)) :
    ∃ (ob : Obj) (own : Option Obj), PySem.W.InstAt s.heap p ob cl own := by
  obtain ⟨ob, slots, get, z, dat⟩ := Err.at_ I.hok here
  have notC : PySem.W.notCls ob = true := by
    unfold PySem.W.notCls
    rw [dat] <;> rfl
  match d, z, dict with
  | none, z, _ => exact ⟨ob, none, get, z.1, notC, by rw [z.2]; trivial⟩
  | some dd, z, dict =>
    obtain ⟨fs, q⟩ := dict dd rfl
    obtain ⟨mA, names, _⟩ := (show ObjOk X.prog X.w H s.heap dd (.xd fs) from I.hok dd _ q)
    obtain ⟨od, getD, _⟩ := lookIn_ns names
    exact ⟨ob, some od, get, z.1, notC, by rw [z.2]; exact getD⟩
/-- isinstance(err, c) -/
def rIsErr (K : PySem.W.Frag) : List V → Hp → VK → Prop := fun vs H Q => ∃ (p cl : Addr) (d : Option Addr) (c : V) (cv : Value) (b : Bool), vs = [.ref p, c] ∧ H p = some (Err (.ref cl) d p) ∧ (∀ dd, d = some dd → ∃ fs, H dd = some (.xd fs)) ∧ ExcC K cl ∧ ClsV c cv ∧
  PySem.W.kitOne K (.ref cl) cv = some b ∧ Q (.bl b) H
theorem call_isErr : CallR X (.builtin "isinstance") (rIsErr X.K) := by
  intro pins s σ H vs us Q I rvs hyp
  obtain ⟨p, cl, d, c, cv, b, rfl, here, dict, C, isC, ans, fin⟩ := hyp
  obtain ⟨u1, u2, rfl, r1, r2⟩ := vals2 rvs
  cases r1
  cases isC.eq r2
  obtain ⟨ob, own, J⟩ := inst_err I here dict
  exact PySem.W.kia_one (kit_err C) I.kIn J ans (fun z => nomatch z) fun tk => ⟨.bl b, H, I.tok tk, rfl, fin⟩
/-- err.f -/
def tErrF (K : PySem.W.Frag) (f : Str) (te : TE) : TE := fun σ H Q => te σ H fun x H1 => ∃ (p cl dd : Addr) (fs : List (Str × V)) (v : V), x = .ref p ∧ H1 p = some (Err (.ref cl) (some dd) p) ∧ H1 dd = some (.xd fs) ∧ XfC K cl ∧ PySem.W.findIn K (.ref cl) f = some none ∧ fs.lookup f = some v ∧ Q v H1
theorem pe_errF {e : Expr} {te : TE} {f : Str} {pos : Pos} (he : PE X e te) (base : attributeBase e f X.env (eval e X.env) = eval e X.env := by rfl) : PE X (.Attribute e f pos) (tErrF X.K f te) := by
  refine ⟨fun pins s σ H Q I hyp => attr_of base (thn (he.run pins s σ H _ I hyp) fun u s1 ⟨x, H1, I1, rx, p, cl, dd, fs, v, ex, here, dict, T, none_, look, fin⟩ => ?_)⟩
  subst ex
  obtain rfl : u = Value.ref p := rx
  obtain ⟨ob, slots, get, z, dat⟩ := Err.at_ I1.hok here
  obtain ⟨mA, names, rel⟩ := (show ObjOk X.prog X.w H1 s1.heap dd (.xd fs) from I1.hok dd _ dict)
  obtain ⟨od, getD, lookD⟩ := lookIn_ns names
  obtain ⟨u', atf, ru⟩ := RelO.some_of (v := v) (o := mA f) (by rw [← look]; exact rel f)
  have J : PySem.W.InstAt s1.heap p ob cl (some od) := ⟨get, z.1, by unfold PySem.W.notCls; rw [dat] <;> rfl, by rw [z.2]; exact getD⟩
  exact HandSPX.exc_get I1.kIn J T.ga T.gg T.exC (PySem.W.findObj_own T.hdC none_ rfl (by rw [lookD, atf])) (handed_of ru) ⟨v, H1, I1.tok _, ru, fin⟩
end
end Fz

set_option Elab.async false
set_option linter.all false
set_option maxRecDepth 100000
set_option maxHeartbeats 4000000
/-! Own layer, fourth part: the end of a law's row, for a law whose defs ask for repr, its tables of code objects told. -/
namespace Fz
open PySem PySem.Spec PyProof.Rows L2
section
variable {P : Program} {w : World} {K : PySem.W.Frag} {mg mb : Str → Option Value} {s : Shared} {H : Hp}
/-- what is tracked at first: lists and empty records, none of them in the written part -/
structure First (K : PySem.W.Frag) (h : Heap) (H : Hp) : Prop where
  out : ∀ b, H b ≠ none → K.lookup b = none
  kind : ∀ b o, H b ≠ none → h.get? b = some o → (∃ its n, o.data = .seq its n) ∨ o.data = .fields #[]
theorem First.free (F : First K s.heap H) {b : Addr} {o : Obj} (get : s.heap.get? b = some o) (n1 : ∀ its n, o.data ≠ .seq its n) (n2 : o.data ≠ .fields #[]) : H b = none := by
  cases q : H b with
  | none => rfl
  | some u =>
    rcases F.kind b o (by rw [q]; exact fun z => nomatch z) get with ⟨its, n, z⟩ | z
    · exact absurd z (n1 its n)
    · exact absurd z n2
theorem First.names (F : First K s.heap H) {b : Addr} {m : Str → Option Value} (N : s.heap.Ns b m) : (hidT s.heap H).Ns b m := by
  obtain ⟨o, es, ep, get, dat, more⟩ := N
  exact ⟨o, es, ep, hidT_get get (F.free get (fun its n z => by rw [dat] at z; cases z) (fun z => by rw [dat] at z; cases z)), dat, more⟩
theorem First.part (F : First K s.heap H) (X : K.In s.heap) : K.In (hidT s.heap H) := fun b o here => hidT_get (X b o here) (by
  cases q : H b with
  | none => rfl
  | some u =>
    have z := F.out b (by rw [q]; exact fun z => nomatch z)
    rw [here] at z
    cases z)
theorem First.env (F : First K s.heap H) (X : K.In s.heap) (N : s.heap.Ns mainGlobals mg) (B : s.heap.Ns builtinsNs mb) (boot : ∀ x : Str, x ≠ "__name__" → mb x = bootBuiltins x) (lim : s.heap.NoLimit) (noGens : s.gens = #[]) (ok : HOk P w H s.heap) :
    Env0 P w K mg (hidT s.heap H) callerA [] s H where
  frames := rfl
  mod := ⟨F.part X, F.names N, ⟨mb, F.names B, boot⟩, let ⟨mc, q, r⟩ := lim; ⟨mc, F.names q, r⟩⟩
  bs := fun _ _ z => of_hidT z
  bsz := Nat.le_of_eq (hidT_size _ _)
  funs := trivial
  frf := fun b z => nomatch (show b ∈ ([] : List Addr) from z)
  hok := ok
  bare := .of_eq noGens
theorem First.table (F : First K s.heap H) (N : s.heap.Ns mainGlobals mg) {c T : Addr} (tab : s.heap.get? T = some { cls := .none, data := .fields #[] }) (code : PySem.W.CodeHd s.heap c T)
    (main : ∃ (bm : Addr) (ob : Obj), mg "__builtins__" = some (.ref bm) ∧ bm ≠ builtinsNs ∧ s.heap.get? bm = some ob ∧ ob.cls = .type "module" ∧ ob.dict = some builtinsNs ∧ ob.data = .plain) : LamX.TabB (hidT s.heap H) mg c T := by
  obtain ⟨om, es, ep, getM, datM, _⟩ := N
  refine ⟨?_, ?_, fun z => ?_⟩
  · obtain ⟨o, us, file, tf, flags, tg, inF, text, tt, get, isCode, dat, r⟩ := code
    exact ⟨o, us, file, tf, flags, tg, inF, text, tt, hidT_get get (F.free get (fun its n z => by rw [dat] at z; cases z) (fun z => by
      rw [dat] at z
      cases z
      have z2 := r.1
      simp at z2)), isCode, dat, r⟩
  · obtain ⟨bm, ob, r1, r2, r3, r4, r5, r6⟩ := main
    refine ⟨bm, ob, r1, r2, fun z => ?_, fun z => ?_, hidT_get r3 (F.free r3 (fun its n z => by rw [r6] at z; cases z) (fun z => by rw [r6] at z; cases z)), r4, r5, r6⟩
    · rw [z, getM] at r3
      cases r3
      rw [datM] at r6
      cases r6
    · rw [z, tab] at r3
      cases r3
      cases r6
  · rw [z, tab] at getM
    cases getM
    cases datM
end
/-- what a law's proof gives at the end of the top -/
def LawEnd (l : PySem.W.OpenLaw) (w : World) (K : PySem.W.Frag) (k n : Nat) (x : Str) (mg : Str → Option Value) (fa : Addr) (h : Heap) : Prop :=
  ∃ (fd : FuncData) (tabs : List (Addr × Addr)) (sp : Sp), (∀ q ∈ tabs, h.get? q.2 = some { cls := .none, data := .fields #[] } ∧ K.lookup q.2 = none ∧ PySem.W.CodeHd h q.1 q.2) ∧ (∀ (s : Shared) (u : Value), BindsTo s fd ⟨[u], []⟩ [(x, u)]) ∧
    (∀ (H : Hp) (a : Addr) (ns : List Int), ns.length ≤ n → (∀ z ∈ ns, Builtin.Int.intBits z ≤ 1048576) → (∀ q ∈ tabs, H q.2 = some (.tbl #[])) → SqL K H a (ns.map V.int) → sp [.ref a] H (fun v _ => v = .bl true) fun _ _ _ => False) ∧
    ∀ base : Heap, K.In base → base.Ns mainGlobals mg → (∀ q ∈ tabs, LamX.TabB base mg q.1 q.2) → FnG l.prog w K mg base CX0 k fa fd [x] sp
theorem law_end {l : PySem.W.OpenLaw} {w : World} {K : PySem.W.Frag} {mg mb : Str → Option Value} {k n : Nat} {fa a : Addr} {x : Str} {s : Shared} {vs : List Value} {ns : List Int}
    (X : K.In s.heap) (N : s.heap.Ns mainGlobals mg) (B : s.heap.Ns builtinsNs mb) (boot : ∀ x : Str, x ≠ "__name__" → mb x = bootBuiltins x) (lim : s.heap.NoLimit) (noGens : s.gens = #[])
    (main : ∃ (bm : Addr) (ob : Obj), mg "__builtins__" = some (.ref bm) ∧ bm ≠ builtinsNs ∧ s.heap.get? bm = some ob ∧ ob.cls = .type "module" ∧ ob.dict = some builtinsNs ∧ ob.data = .plain)
    (script : s.heap.get? a = some { cls := .type "list", data := .seq vs.toArray }) (areInts : IntsAre vs ns) (few : ns.length ≤ n) (line : n ≤ sizeLine) (bits : ∀ z ∈ ns, Builtin.Int.intBits z ≤ 1048576) (room : Room k callerA) (L : LawEnd l w K k n x mg fa s.heap) :
    codeAny (model l.prog w) callerA (.call (.ref fa) ⟨[.ref a], []⟩) (fun r s' => r = .ok (.ret (.bool true)) ∧ OldK s.heap s'.heap ∧ s'.os = s.os ∧ AllBare s'.gens) s := by
  obtain ⟨fd, tabs, sp, tab, binds, promise, fn⟩ := L
  have vals := vals_ints areInts
  have many := areInts.length
  have isTab : ∀ b ∈ tabs.map (·.2), s.heap.get? b = some { cls := .none, data := .fields #[] } := fun b hb => by
    obtain ⟨q, hq, z⟩ := List.mem_map.mp hb
    rw [← z]
    exact (tab q hq).1
  have apart : a ∉ tabs.map (·.2) := fun z => by
    have z2 := isTab a z
    rw [script] at z2
    cases z2
  have asTab : ∀ q ∈ tabs, q.2 ∈ tabs.map (·.2) := fun q hq => List.mem_map.mpr ⟨q, hq, rfl⟩
  -- from what is tracked at first: the tables, and the script where it is no object of the top
  have start_ : ∀ H : Hp, (∀ q ∈ tabs, H q.2 = some (.tbl #[])) → (∀ b, b ∉ tabs.map (·.2) → H b = none ∨ (b = a ∧ H b = some (.frz { cls := .type "list", data := .seq vs.toArray } (.lst (ns.map V.int))))) → (H a ≠ none → K.lookup a = none) → SqL K H a (ns.map V.int) →
      codeAny (model l.prog w) callerA (.call (.ref fa) ⟨[.ref a], []⟩) (fun r s' => r = .ok (.ret (.bool true)) ∧ OldK s.heap s'.heap ∧ s'.os = s.os ∧ AllBare s'.gens) s := by
    intro H onTab else_ outA read
    have cases_ : ∀ b u, H b = some u → (b ∈ tabs.map (·.2) ∧ u = .tbl #[]) ∨ (b = a ∧ u = .frz { cls := .type "list", data := .seq vs.toArray } (.lst (ns.map V.int))) := fun b u q => by
      by_cases hb : b ∈ tabs.map (·.2)
      · obtain ⟨t, ht, z⟩ := List.mem_map.mp hb
        have z2 := onTab t ht
        rw [z, q] at z2
        exact .inl ⟨hb, Option.some.inj z2⟩
      · rcases else_ b hb with z | ⟨z, z2⟩
        · rw [q] at z
          cases z
        · rw [q] at z2
          exact .inr ⟨z, Option.some.inj z2⟩
    have F : First K s.heap H := by
      refine ⟨fun b hb => ?_, fun b o hb get => ?_⟩
      · obtain ⟨u, q⟩ := Option.ne_none_iff_exists'.mp hb
        rcases cases_ b u q with ⟨z, _⟩ | ⟨z, _⟩
        · obtain ⟨t, ht, e⟩ := List.mem_map.mp z
          rw [← e]
          exact (tab t ht).2.1
        · rw [z] at hb ⊢
          exact outA hb
      · obtain ⟨u, q⟩ := Option.ne_none_iff_exists'.mp hb
        rcases cases_ b u q with ⟨z, _⟩ | ⟨z, _⟩
        · rw [isTab b z] at get
          cases get
          exact .inr rfl
        · rw [z, script] at get
          cases get
          exact .inl ⟨_, _, rfl⟩
    have ok : HOk l.prog w H s.heap := fun b u q => by
      rcases cases_ b u q with ⟨z, rfl⟩ | ⟨rfl, rfl⟩
      · exact isTab b z
      · exact ⟨script, by rw [List.length_map]; exact Nat.le_trans few line, vs, _, vals, script⟩
    have G := fn _ (F.part X) (F.names N) fun q hq => F.table N (tab q hq).1 (tab q hq).2.2 main
    refine codeAny_mono (G.run callerA [] s H ⟨[.ref a], []⟩ [.ref a] [.ref a] _ _ room rfl (F.env X N B boot lim noGens ok) (binds s (.ref a)) (.cons rfl .nil) (promise H a ns few bits onTab read)) fun r s' got => ?_
    match r, got with
    | .error _, got => exact got.elim
    | .ok .next, got => exact got.elim
    | .ok .brk, got => exact got.elim
    | .ok .cont, got => exact got.elim
    | .ok (.ret u), ⟨v, H', os, bare, un, ok', rv, fin⟩ =>
      cases (show v = .bl true from fin)
      cases (show u = Value.bool true from rv)
      have grown : ∀ b, b ∈ tabs.map (·.2) → ∃ more : Array Value, s'.heap.get? b = some { cls := .none, data := .fields more } := fun b hb => by
        obtain ⟨t, ht, e⟩ := List.mem_map.mp hb
        obtain ⟨more, z⟩ := un.tbls t.2 #[] (onTab t ht)
        rw [← e]
        exact ⟨_, ok' t.2 _ z⟩
      have kept : ∀ b o, b ∉ tabs.map (·.2) → s.heap.get? b = some o → s'.heap.get? b = some o := fun b o hb get => by
        rcases else_ b hb with z | ⟨rfl, z⟩
        · exact un.keep b o get z (fun y => nomatch (show b ∈ ([] : List Addr) from y)) (fun y => nomatch y)
        · obtain ⟨z1, _⟩ := ok b _ z
          obtain ⟨z2, _⟩ := ok' b _ (un.frzs b _ _ z)
          rw [get] at z1
          cases z1
          exact z2
      refine ⟨rfl, ⟨fun b o get => ?_, fun b o get => ?_⟩, os, bare⟩
      · by_cases hb : b ∈ tabs.map (·.2)
        · obtain ⟨more, z⟩ := grown b hb
          obtain ⟨t, ht, e⟩ := List.mem_map.mp hb
          have z0 := isTab b hb
          rw [get] at z0
          cases z0
          rw [← e] at get z ⊢
          exact .inr (.inl ⟨((tab t ht).2.2.tab get).isCodeTable, rfl, #[], more, rfl, by rw [Array.empty_append]; exact z⟩)
        · exact .inl (kept b o hb get)
      · by_cases hb : b ∈ tabs.map (·.2)
        · obtain ⟨more, z⟩ := grown b hb
          exact ⟨_, z⟩
        · exact ⟨o, kept b o hb get⟩
  cases inTop : K.lookup a with
  | some o =>
    have same := X a o inTop
    rw [script] at same
    cases same
    refine start_ (fun b => if b ∈ tabs.map (·.2) then some (.tbl #[]) else none) (fun q hq => if_pos (asTab q hq)) (fun b hb => .inl (if_neg hb)) (fun z => absurd (if_neg apart) z)
      (.inr ⟨_, vs.toArray, _, inTop, rfl, rfl, rfl, by rw [List.size_toArray, many]; exact Nat.le_trans few line, by simpa using vals⟩)
  | none =>
    refine start_ (fun b => if b ∈ tabs.map (·.2) then some (.tbl #[]) else if b = a then some (.frz { cls := .type "list", data := .seq vs.toArray } (.lst (ns.map V.int))) else none) (fun q hq => if_pos (asTab q hq)) (fun b hb => ?_) (fun _ => inTop)
      (.inl (.inr ⟨_, (if_neg apart).trans (if_pos rfl)⟩))
    by_cases ba : b = a
    · exact .inr ⟨ba, (if_neg hb).trans (if_pos ba)⟩
    · exact .inl ((if_neg hb).trans (if_neg ba))
/-- the goal that k_head leaves -/
theorem walk_fz {l : PySem.W.OpenLaw} {n k : Nat} {q : Program} {loose : List Str} {XP : (Str → Option Value) → Heap → Prop} {YP : World → Heap → Prop} {d : DefRec} {K : Params → PySem.W.Frag} {x : Str}
    (most : l.most = some n) (line : n ≤ sizeLine) (noDef : d.params.defaults = []) (room : Room k callerA) (part : ∀ (w : World) (h : Heap), YP w h → (K w.params).In h)
    (F : ∀ (w : World) (mg mb : Str → Option Value) (fa : Addr) (h : Heap) (lo : List Str) (mean : ExcName → Option Value), (K w.params).In h → Top q lo mean mg mb h → mg d.name = some (.ref fa) → LawEnd l w (K w.params) k n x mg fa h) :
    PySem.W.WalkO q loose XP YP l.row.toRowW d [] (fun f vs => PySem.call f vs) :=
  Att.attach_callB most noDef fun w _ s₁ mg mb fa _ _ _ _ _ vs ns G Y _ _ _ hmg script areInts few bits noGens =>
    law_end (part w _ Y) G.T.g G.T.b G.T.builtins G.T.nolimit noGens G.T.bmain script areInts few line bits room (F w mg mb fa _ _ _ (part w _ Y) G.T hmg)
end Fz

set_option Elab.async false
set_option linter.all false
set_option maxRecDepth 100000
set_option maxHeartbeats 4000000
/-! Own layer, fifth part: a def read off a class and called; values of any kind; numbers within bounds; data of lists. -/
namespace Fz
open PySem PySem.Spec PyProof.Rows L2
section
variable {X : Cx} {CX : CXT} {k : Nat} {C g : Addr} {mc : Value} {fd : FuncData} {ps : List Str} {sp : Sp} {dvs : List V} {ds : List Value} {E : XK} {o e : Expr} {es : List Expr} {m : Str} {pos apos : Pos} {ta : TE} {t : TA} {pl : Sem Bool}
/-- C.m(e, ..), C a class, m a def of it or of one above it -/
def tClsFn (C : Addr) (sp : Sp) (dvs : List V) (E : XK) (ta : TE) (t : TA) : TE := fun σ H Q => ta σ H fun x H1 => x = .ref C ∧ t σ H1 fun vs H2 => sp (vs ++ dvs) H2 Q E
theorem pe_clsFn (he : PE X o ta) (r : ClX.CRead X.K C mc) (found : PySem.W.findCls X.K (.ref C) mc m = some (.val (.ref g))) (F : FnOk X.prog X.w X.K X.mg X.base CX k g fd ps sp) (room : Room k X.A) (keep : PySem.W.keepIn X.K (.ref g) = true) (binds : L2.Binds X.K fd ps ds) (rd : Vals dvs ds)
    (pass : Passes CX X E) (ha : PA X (e :: es) t) (star : starEach (e :: es) X.env = (false, eval e X.env) :: starEach es X.env := by rfl) (plain : (backTo pos (starEach es X.env)).any (·.1) = false := by rfl)
    (tree : eval (.Call (.Attribute o m apos) (e :: es) [] pos) X.env = (do
      let ov ← eval o X.env
      standAt apos.atName
      let (f, first) ← holding [ov] (getMethod ov m pl)
      callWith pos f first (backTo pos (starEach (e :: es) X.env)) (backToKw pos (keywordEach [] X.env))) := by rfl) :
    PE X (.Call (.Attribute o m apos) (e :: es) [] pos) (tClsFn C sp dvs E ta t) := by
  refine ⟨fun pins s σ H Q I hyp => PySem.W.methodCall_KW (pl := pl) (thn (he.run pins s σ H _ I hyp) fun u s1 ⟨x, H1, I1, rx, isC, rest⟩ => ?_) tree⟩
  subst isC
  obtain rfl : u = Value.ref C := rx
  refine PySem.W.method_cls I1.kIn r.ga (PySem.W.cls_value I1.kIn r.rd found rfl ?_)
  have I2 := I1.tok (s1.toks + 1)
  exact PySem.W.callWith_K (first := []) (h₀ := X.base) I2.ok.mod.kin keep (thn (ha.run pos pins _ σ H1 _ I2 rest) fun us s3 ⟨vs, H3, I3, rv, fin⟩ => ⟨I3.kIn, run_fn F room binds rd pass I3 rv fin⟩) star plain
end

/-! ### values of any kind -/
/-- of a built-in kind, what it holds left open -/
def Kd (H : Hp) : V → Prop
  | .non | .bl _ | .int _ | .str _ => True
  | .ref a => (∃ xs, H a = some (.tup xs)) ∨ (∃ xs, H a = some (.lst xs)) ∨ ∃ kvs, H a = some (.dK kvs)
  | _ => False
theorem Kd.keep {H H' : Hp} {x : V} (h : Kd H x) (k : ∀ a o, x = .ref a → H a = some o → H' a = some o) : Kd H' x := by
  cases x with
  | ref a =>
    rcases h with ⟨xs, h⟩ | ⟨xs, h⟩ | ⟨kvs, h⟩
    · exact .inl ⟨xs, k a _ rfl h⟩
    · exact .inr (.inl ⟨xs, k a _ rfl h⟩)
    · exact .inr (.inr ⟨kvs, k a _ rfl h⟩)
  | _ => exact h
def isIntV : V → Bool
  | .int _ => true
  | .bl _ => true
  | _ => false
def isBlV : V → Bool
  | .bl _ => true
  | _ => false
theorem Kd.isInt {K : PySem.W.Frag} {H : Hp} {x : V} (h : Kd H x) : ∃ t, TyX K H x t ∧ PySem.W.kitOne K t (.type "int") = some (isIntV x) ∧ PySem.W.kitOne K t (.type "bool") = some (isBlV x) := by
  cases x with
  | non => exact ⟨_, .base .non, kit_ty (show kitB "NoneType" "int" = some false by decide +kernel), kit_ty (show kitB "NoneType" "bool" = some false by decide +kernel)⟩
  | bl b => exact ⟨_, .base (.bl b), kit_ty (show kitB "bool" "int" = some true by decide +kernel), kit_ty (show kitB "bool" "bool" = some true by decide +kernel)⟩
  | int i => exact ⟨_, .base (.int i), kit_ty (show kitB "int" "int" = some true by decide +kernel), kit_ty (show kitB "int" "bool" = some false by decide +kernel)⟩
  | str z => exact ⟨_, .base (.str z), kit_ty (show kitB "str" "int" = some false by decide +kernel), kit_ty (show kitB "str" "bool" = some false by decide +kernel)⟩
  | ref a =>
    rcases h with ⟨xs, h⟩ | ⟨xs, h⟩ | ⟨kvs, h⟩
    · exact ⟨_, .base (.tup h), kit_ty (show kitB "tuple" "int" = some false by decide +kernel), kit_ty (show kitB "tuple" "bool" = some false by decide +kernel)⟩
    · exact ⟨_, .base (.lst h), kit_ty (show kitB "list" "int" = some false by decide +kernel), kit_ty (show kitB "list" "bool" = some false by decide +kernel)⟩
    · exact ⟨_, .base (.dK h), kit_ty (show kitB "dict" "int" = some false by decide +kernel), kit_ty (show kitB "dict" "bool" = some false by decide +kernel)⟩
  | byt _ => exact h.elim
  | flt _ => exact h.elim
  | ty _ => exact h.elim
/-- an int (no bool) within bounds -/
def numV (lo hi : Int) : V → Bool
  | .int i => decide (lo ≤ i) && decide (i ≤ hi)
  | _ => false
theorem numV_is {lo hi : Int} {x : V} (h : numV lo hi x = true) : ∃ i, x = .int i ∧ lo ≤ i ∧ i ≤ hi := by
  cases x with
  | int i =>
    obtain ⟨a, b⟩ := Bool.and_eq_true_iff.mp h
    exact ⟨i, rfl, of_decide_eq_true a, of_decide_eq_true b⟩
  | _ => exact absurd (show false = true from h) Bool.false_ne_true
theorem small_log {m : Int} (h0 : 0 < m) (h1 : m ≤ 10 ^ 40) : m.natAbs.log2 < 9000 := by
  have h2 : m.natAbs < 2 ^ 9000 := Nat.lt_of_le_of_lt (show m.natAbs ≤ 10 ^ 40 by omega) (by decide +kernel)
  exact (Nat.log2_lt (by omega)).mpr h2

/-! ### data -/
theorem dp_ints {K : PySem.W.Frag} {H : Hp} : ∀ ns : List Int, DpAll K H (ns.map V.int) (ns.map PyData.int)
  | [] => .nil
  | n :: ns => .cons (.int n) (dp_ints ns)
theorem lay_ints : ∀ ns : List Int, PyData.canLayAll0 (ns.map PyData.int) = true
  | [] => by simp only [List.map_nil, PyData.canLayAll0]
  | n :: ns => by
    have ih := lay_ints ns
    simp only [List.map_cons, PyData.canLayAll0, PyData.canLay0, ih, Bool.and_self]
theorem depth_ints : ∀ ns : List Int, PyData.depthAll (ns.map PyData.int) ≤ 1
  | [] => by simp only [List.map_nil, PyData.depthAll]; omega
  | n :: ns => by
    have ih := depth_ints ns
    simp only [List.map_cons, PyData.depthAll, PyData.depth]
    omega
theorem shaped_ints (ns : List Int) : SeqAt.shaped (.list (ns.map PyData.int)) = true := by
  have h1 := depth_ints ns
  have h2 : PyData.depth (.list (ns.map PyData.int)) ≤ 64 := by
    simp only [PyData.depth]
    omega
  show (PyData.canLay0 (.list (ns.map PyData.int)) && decide (PyData.depth (.list (ns.map PyData.int)) ≤ 64)) = true
  rw [Bool.and_eq_true]
  exact ⟨by simp only [PyData.canLay0]; exact lay_ints ns, decide_eq_true h2⟩
theorem at_mod {xs : List V} (i : Int) (h : 0 < xs.length) : ∃ x, x ∈ xs ∧ atI xs (i % (xs.length : Int)) = some x := by
  have hp := mod_place (i := i) h
  have e : xs[(i % (xs.length : Int)).toNat]? = some xs[(i % (xs.length : Int)).toNat] := List.getElem?_eq_getElem hp.1
  refine ⟨_, List.getElem_mem hp.1, ?_⟩
  have z := atI_nat e
  rw [hp.2] at z
  exact z
theorem at_in {xs : List V} {i : Int} (h0 : 0 ≤ i) (h1 : i < xs.length) : ∃ x, x ∈ xs ∧ atI xs i = some x := by
  have hn : i.toNat < xs.length := by omega
  have e : xs[i.toNat]? = some xs[i.toNat] := List.getElem?_eq_getElem hn
  refine ⟨_, List.getElem_mem hn, ?_⟩
  have z := atI_nat e
  rw [show ((i.toNat : Nat) : Int) = i by omega] at z
  exact z
end Fz

set_option Elab.async false
set_option linter.all false
set_option maxRecDepth 100000
set_option maxHeartbeats 4000000
/-! Own layer, sixth part: the text of a list of numbers is short. -/
namespace Fz
open PySem PySem.Spec PyProof.Rows L2
section
variable {X : Cx} {e : Expr} {t : TE}
/-- a reading, closed -/
structure Box (t : TE) (σ : L2.St) (H : Hp) (Q : VK) : Prop where
  open_ : t σ H Q
theorem pe_box (h : PE X e t) : PE X e (Box t) := ⟨fun pins s σ H Q I h' => h.run pins s σ H Q I h'.open_⟩
/-- a reading may be asked for less -/
def tWeak (t : TE) : TE := fun σ H Q => ∃ Q' : VK, t σ H Q' ∧ ∀ x H', Q' x H' → Q x H'
theorem pe_weak (h : PE X e t) : PE X e (tWeak t) :=
  ⟨fun pins s σ H Q I ⟨Q', h', k⟩ => wpAny_mono (h.run pins s σ H Q' I h') (fun _ _ ⟨x, H1, I1, r, q⟩ => ⟨x, H1, I1, r, k _ _ q⟩) fun _ _ z => z⟩
end
/-- the rule for a def of the law that may ask for repr -/
theorem funG {P : Program} {w : World} {K : PySem.W.Frag} {mg : Str → Option Value} {base : Heap} {x qual : Str} {st : Stmt} {f : Addr} {fd : FuncData} {N ps : List Str} {k : Nat} {sp : Sp} (F : Fun K x qual st f fd) (S : FnScope N ps (defScope st)) (len : ∀ vs H Q E, sp vs H Q E → vs.length = ps.length)
    (walk : ∀ (cdv : Value) (A : Around) (outer : List Env) (s : Shared) (H : Hp) (vs : List V) (Q : VK) (E : XK), fd.code = cdv → Room k (A.deeper (envOfC qual (defScope st) s.heap.objs.size f cdv)) → A.guards = some [] → sp vs H Q E →
      ∃ t, PSs (cxOf CX0 P w K mg base N qual (defScope st) f cdv A outer s H E).nox (defBody st) t ∧ t { nx := fun _ H' => Q .non H', rt := Q } (start N vs) H) : FnG P w K mg base CX0 (k + 1) f fd ps sp := by
  obtain ⟨oc, od, kV, doc, pm, an, cdv, ct, osl, rfl, lk, code⟩ := F.ex
  refine fnG_of lk code S len fun A outer s H vs Q E room clear h => ?_
  obtain ⟨t, ht, hq⟩ := walk cdv A outer s H vs Q E rfl room clear h
  exact ⟨t, ht.nox, hq⟩
theorem textFrom_most (m : Nat) : ∀ (ts : List Str) (k : Nat) (acc : Str), (∀ t ∈ ts, t.length ≤ m) → (textFrom k acc ts).length ≤ acc.length + ts.length * (m + 2)
  | [], k, acc, _ => by
    show acc.length ≤ _
    omega
  | t :: r, k, acc, h => by
    have ih := textFrom_most m r (k + 1) (acc ++ (if k > 0 then ", " else "" : String) ++ t) fun u hu => h u (List.mem_cons_of_mem _ hu)
    have ht := h t List.mem_cons_self
    have e : (acc ++ (if k > 0 then ", " else "" : String) ++ t).length ≤ acc.length + 2 + t.length := by
      rw [strLen_append, strLen_append]
      split
      · have z : (Str.ofString ", ").length = 2 := by decide +kernel
        show acc.length + (Str.ofString ", ").length + t.length ≤ _
        omega
      · have z : (Str.ofString "").length = 0 := by decide +kernel
        show acc.length + (Str.ofString "").length + t.length ≤ _
        omega
    show (textFrom (k + 1) _ r).length ≤ _
    have l : (t :: r).length = r.length + 1 := rfl
    rw [l, Nat.add_mul]
    omega
theorem shown_int_short {n : Int} (h0 : 0 ≤ n) (h1 : n < 10 ^ 10) : (PyData.shown (.int n)).length ≤ 10 := by
  rw [PyData.shown]
  exact toString_length_le h0 (by decide) h1
theorem shownAll_ints : ∀ ns : List Int, PyData.shownAll (ns.map PyData.int) = ns.map fun n => PyData.shown (.int n)
  | [] => by simp only [List.map_nil, PyData.shownAll]
  | n :: ns => by
    have ih := shownAll_ints ns
    simp only [List.map_cons, PyData.shownAll, ih]
theorem text_ints {ns : List Int} (h : ∀ n ∈ ns, 0 ≤ n ∧ n < 10 ^ 10) (l : ns.length ≤ 1000) : (PyData.shown (.list (ns.map PyData.int))).length ≤ sizeLine := by
  rw [PyData.shown, shownAll_ints]
  have z := textFrom_most 10 (ns.map fun n => PyData.shown (.int n)) 0 "[" fun t ht => by
    obtain ⟨n, hn, e⟩ := List.mem_map.mp ht
    rw [← e]
    exact shown_int_short (h n hn).1 (h n hn).2
  rw [List.length_map] at z
  have z1 : (Str.ofString "[").length = 1 := by decide +kernel
  have z2 : (Str.ofString "]").length = 1 := by decide +kernel
  have z3 : (textFrom 0 "[" (ns.map fun n => PyData.shown (.int n))).length ≤ 1 + ns.length * 12 := by
    rw [← z1]
    exact z
  show (textFrom 0 "[" _ ++ Str.ofString "]").length ≤ sizeLine
  rw [strLen_append]
  show _ ≤ 16777216
  omega
theorem showable_ints : ∀ {ns : List Int}, (∀ n ∈ ns, 0 ≤ n ∧ n < 10 ^ 10) → PyData.showableAll (ns.map PyData.int) = true
  | [], _ => by simp only [List.map_nil, PyData.showableAll]
  | n :: ns, h => by
    have ih := showable_ints (ns := ns) fun m hm => h m (List.mem_cons_of_mem _ hm)
    obtain ⟨h0, h1⟩ := h n List.mem_cons_self
    have z : n.natAbs.log2 < 1920 := by
      have h2 : n.natAbs < 2 ^ 1920 := Nat.lt_of_lt_of_le (show n.natAbs < 10 ^ 10 by omega) (by decide +kernel)
      by_cases e : n.natAbs = 0
      · rw [e]
        decide +kernel
      · exact (Nat.log2_lt e).mpr h2
    simp only [List.map_cons, PyData.showableAll, PyData.showable, ih, decide_eq_true z, Bool.and_self]
theorem noDict_ints : ∀ ns : List Int, PyData.hasDictAll (ns.map PyData.int) = false
  | [] => by simp only [List.map_nil, PyData.hasDictAll]
  | n :: ns => by
    have ih := noDict_ints ns
    simp only [List.map_cons, PyData.hasDictAll, PyData.hasDict, ih, Bool.or_self]
/-- repr of a list of numbers, in the words that call_repD asks for -/
theorem rep_ints {K : PySem.W.Frag} {H : Hp} {Q : VK} {l : Addr} {ns : List Int} (hl : H l = some (.lst (ns.map V.int))) (h : ∀ n ∈ ns, 0 ≤ n ∧ n < 10 ^ 10) (few : ns.length ≤ 1000) (fin : Q (.str (PyData.shown (.list (ns.map PyData.int)))) H) : rRepD K [.ref l] H Q := by
  refine ⟨⟨l, _, rfl, Dp.lst (SqL.of hl) (dp_ints ns), ?_, ?_, ?_, text_ints h few, fin⟩⟩
  · rw [PyData.showable]
    exact showable_ints h
  · rw [PyData.hasDict]
    exact noDict_ints ns
  · have z := depth_ints ns
    rw [PyData.depth]
    omega
end Fz

set_option Elab.async false
set_option linter.all false
set_option maxRecDepth 100000
set_option maxHeartbeats 2000000
/-! Own layer, seventh part: the words of the laws on rules: the pen, numbers, errors, rules, what is heard. -/
namespace Fz
open PySem PySem.Spec PyProof.Rows L2
/-- at p: the pen, of which at most n draws were made -/
def PenAt (n : Nat) (H : Hp) (p q : Addr) : Prop := ∃ (ns : List Int) (spot great : Int), H p = some (.lst [.ref q, .int spot, .int great]) ∧ H q = some (.lst (ns.map V.int)) ∧ q ≠ p ∧ ns.length ≤ 63 ∧ 0 ≤ spot ∧ spot ≤ n
/-- all but what stands at p is as it was -/
def Mv (p : Addr) (H H' : Hp) : Prop := ∀ b o, b ≠ p → H b = some o → H' b = some o
theorem Mv.refl (p : Addr) (H : Hp) : Mv p H H := fun _ _ _ z => z
theorem Mv.trans {p : Addr} {H H1 H2 : Hp} (a : Mv p H H1) (b : Mv p H1 H2) : Mv p H H2 := fun c o n z => b c o n (a c o n z)
theorem Mv.new {p l : Addr} {H : Hp} {o : HO} (h : H l = none) : Mv p H (upd H l o) := fun b u _ z => by
  rw [upd_ne (ne_of_none z h)]
  exact z
theorem Mv.here {p : Addr} {H : Hp} {o : HO} : Mv p H (upd H p o) := fun b u n z => by
  rw [upd_ne n]
  exact z
theorem PenAt.ne {n : Nat} {H : Hp} {p q : Addr} (h : PenAt n H p q) : q ≠ p := let ⟨_, _, _, _, _, z, _⟩ := h; z
theorem PenAt.there {n : Nat} {H : Hp} {p q : Addr} (h : PenAt n H p q) : H p ≠ none ∧ H q ≠ none := by
  obtain ⟨_, _, _, a, b, _⟩ := h
  exact ⟨fun z => (by rw [a] at z; cases z), fun z => (by rw [b] at z; cases z)⟩
theorem PenAt.fresh {n : Nat} {H : Hp} {p q l : Addr} (h : PenAt n H p q) (hl : H l = none) : l ≠ p ∧ l ≠ q := by
  obtain ⟨a, b⟩ := h.there
  exact ⟨fun z => a (z ▸ hl), fun z => b (z ▸ hl)⟩
theorem PenAt.keep {n m : Nat} {H H' : Hp} {p q : Addr} (h : PenAt n H p q) (le : n ≤ m) (kp : H' p = H p) (kq : H' q = H q) : PenAt m H' p q := by
  obtain ⟨ns, spot, great, a, b, c, d, e, f⟩ := h
  exact ⟨ns, spot, great, by rw [kp]; exact a, by rw [kq]; exact b, c, d, e, by omega⟩
theorem PenAt.put {n : Nat} {H : Hp} {p q l : Addr} {o : HO} (h : PenAt n H p q) (hp : l ≠ p) (hq : l ≠ q) : PenAt n (upd H l o) p q := h.keep (Nat.le_refl _) (upd_ne (Ne.symm hp)) (upd_ne (Ne.symm hq))
theorem PenAt.new {n : Nat} {H : Hp} {p q l : Addr} {o : HO} (h : PenAt n H p q) (hl : H l = none) : PenAt n (upd H l o) p q := h.put (h.fresh hl).1 (h.fresh hl).2
theorem PenAt.same {n : Nat} {H H' : Hp} {p q : Addr} (h : PenAt n H p q) (s : Same H H') : PenAt n H' p q := by
  obtain ⟨ns, spot, great, a, b, c⟩ := h
  exact ⟨ns, spot, great, s _ _ a, s _ _ b, c⟩
theorem PenAt.more {n m : Nat} {H : Hp} {p q : Addr} (h : PenAt n H p q) (le : n ≤ m) : PenAt m H p q := h.keep le rfl rfl
theorem PenAt.lst {n : Nat} {H : Hp} {p q : Addr} (h : PenAt n H p q) : ∃ xs, H p = some (.lst xs) := by
  obtain ⟨_, _, _, a, _⟩ := h
  exact ⟨_, a⟩
theorem PenAt.ext {n : Nat} {H H' : Hp} {p q : Addr} (h : PenAt n H p q) (s : LamX.ExtN H H') : PenAt n H' p q := by
  obtain ⟨ns, spot, great, a, b, c⟩ := h
  exact ⟨ns, spot, great, s _ _ a (fun _ z => nomatch z), s _ _ b (fun _ z => nomatch z), c⟩
theorem PenAt.mv {n : Nat} {H H' : Hp} {p q r : Addr} (h : PenAt n H p q) (m : Mv r H H') (hp : r ≠ p) (hq : r ≠ q) : PenAt n H' p q := by
  obtain ⟨ns, spot, great, a, b, c⟩ := h
  exact ⟨ns, spot, great, m _ _ (Ne.symm hp) a, m _ _ (Ne.symm hq) b, c⟩
/-- the names that the laws mean as Python means them -/
structure Blt (mg : Str → Option Value) : Prop where
  z_int : mg "int" = none
  z_len : mg "len" = none
  z_abs : mg "abs" = none
  z_list : mg "list" = none
  z_range : mg "range" = none
  z_isinstance : mg "isinstance" = none
  z_repr : mg "repr" = none
  z_bool : mg "bool" = none
  z_tuple : mg "tuple" = none
  z_str : mg "str" = none
  z_max : mg "max" = none
  z_min : mg "min" = none
  z_dict : mg "dict" = none
  z_set : mg "set" = none
  z_sorted : mg "sorted" = none
  z_sum : mg "sum" = none
  z_all : mg "all" = none
  z_any : mg "any" = none
  z_zip : mg "zip" = none
  z_enumerate : mg "enumerate" = none
  z_reversed : mg "reversed" = none
def spPen (K : PySem.W.Frag) : Sp := fun vs H Q _ => ∃ (a : Addr) (ns : List Int), vs = [.ref a] ∧ SqL K H a (ns.map V.int) ∧ ns.length ≤ 63 ∧ ∀ H' p q, H p = none → H q = none → PenAt 0 H' p q → Same H H' → Q (.ref p) H'
def spDraw : Sp := fun vs H Q _ => ∃ (n : Nat) (p q : Addr) (m : Int), vs = [.ref p, .int m] ∧ PenAt n H p q ∧ n < 100000 ∧ 0 < m ∧ m.natAbs.log2 < 9000 ∧ ∀ H' r, PenAt (n + 1) H' p q → Mv p H H' → 0 ≤ r → r < m → Q (.int r) H'
def spPick (K : PySem.W.Frag) : Sp := fun vs H Q _ => ∃ (n : Nat) (p q l : Addr) (xs : List V), vs = [.ref p, .ref l] ∧ PenAt n H p q ∧ n < 100000 ∧ l ≠ p ∧ H l = some (.lst xs) ∧ 0 < xs.length ∧ xs.length ≤ 1000 ∧ ∀ H' x, PenAt (n + 1) H' p q → Mv p H H' → x ∈ xs → Q x H'
/-- the rank of a rule -/
def rankI (k a b c e : Int) : Int := (((k * 401 + a) * 401 + b) * 401 + c) * 401 + e
def spNum : Sp := fun vs H Q _ => ∃ (x : V) (lo hi : Int), vs = [x, .int lo, .int hi] ∧ Kd H x ∧ Q (.bl (numV lo hi x)) H
def spBadI (C : Addr) : Sp := fun vs H Q _ => ∃ (a : Addr) (v : V), vs = [.ref a, v] ∧ H a = some (exo a C none) ∧ ∀ d, H d = none → d ≠ a → Q .non (upd (upd H d (exd d [("part", v)])) a (exo a C (some d)))
/-- a BadRule of this part may leave -/
def Bad (C : Addr) (E : XK) (H : Hp) (z : Str) : Prop := ∀ d, H d = none → E (.ref C) (some d) (upd H d (.xd [("part", .str z)]))
def spRank : Sp := fun vs H Q _ => ∃ k a b c e : Int, vs = [.int k, .int a, .int b, .int c, .int e] ∧ 0 ≤ k ∧ k ≤ 1 ∧ 0 ≤ a ∧ a ≤ 400 ∧ 0 ≤ b ∧ b ≤ 400 ∧ 0 ≤ c ∧ c ≤ 400 ∧ 0 ≤ e ∧ e ≤ 400 ∧ ∀ H', Same H H' → Q (.int (rankI k a b c e)) H'
/-- the wrong one of rest and modulus -/
def dueR (r m : V) : Option Str := if numV 1 6 m = true then (match m with | .int i => if numV 0 (i - 1) r = true then none else some "rest" | _ => none) else some "modulus"
def spRested (CB C : Addr) : Sp := fun vs H Q E => ∃ (x dx : Addr) (fs : List (Str × V)) (r m : V), vs = [.ref x, r, m] ∧ H x = some (.ins C dx fs) ∧ fs.length < 900 ∧ Kd H r ∧ Kd H m ∧ (∀ z, dueR r m = some z → Bad CB E H z) ∧
  (dueR r m = none → Q .non (upd H x (.ins C dx (putF "modulus" m (putF "rest" r fs)))))
/-- the wrong one of size and leave -/
def dueS (s l : V) : Option Str := if numV 1 400 s = true then (if numV 0 400 l = true then none else some "leave") else some "size"
def spSized (CB C : Addr) : Sp := fun vs H Q E => ∃ (x dx : Addr) (fs : List (Str × V)) (s l : V), vs = [.ref x, s, l] ∧ H x = some (.ins C dx fs) ∧ fs.length < 900 ∧ Kd H s ∧ Kd H l ∧ (∀ z, dueS s l = some z → Bad CB E H z) ∧
  (dueS s l = none → Q .non (upd H x (.ins C dx (putF "leave" l (putF "size" s fs)))))
/-- the wrong one of the parts of a Down -/
def dueD (t r m : V) : Option Str := if numV 0 400 t = true then dueR r m else some "to"
def dfs (t r m k : Int) : List (Str × V) := putF "rank" (.int k) (putF "start" (.int (t + 1)) (putF "to" (.int t) (putF "modulus" (.int m) (putF "rest" (.int r) []))))
def spDown (CB CD : Addr) : Sp := fun vs H Q E => ∃ (x dx : Addr) (t r m : V), vs = [.ref x, t, r, m] ∧ H x = some (.ins CD dx []) ∧ Kd H t ∧ Kd H r ∧ Kd H m ∧ (∀ z, dueD t r m = some z → Bad CB E H z) ∧
  (∀ (ti ri mi : Int) (H' : Hp), t = .int ti → r = .int ri → m = .int mi → dueD t r m = none → Mv x H H' → H' x = some (.ins CD dx (dfs ti ri mi (rankI 1 ti mi ri 0))) → Q .non H')
/-- the wrong one of the parts of a Fixed -/
def dueF (s r m l : V) : Option Str := match dueS s l with
  | some z => some z
  | none => dueR r m
def ffs (s r m l k : Int) : List (Str × V) := putF "rank" (.int k) (putF "start" (.int (s + l)) (putF "modulus" (.int m) (putF "rest" (.int r) (putF "leave" (.int l) (putF "size" (.int s) [])))))
def spFixed (CB CF : Addr) : Sp := fun vs H Q E => ∃ (x dx : Addr) (s r m l : V), vs = [.ref x, s, r, m, l] ∧ H x = some (.ins CF dx []) ∧ Kd H s ∧ Kd H r ∧ Kd H m ∧ Kd H l ∧ (∀ z H', dueF s r m l = some z → Mv x H H' → Bad CB E H' z) ∧
  (∀ (si ri mi li : Int) (H' : Hp), s = .int si → r = .int ri → m = .int mi → l = .int li → dueF s r m l = none → Mv x H H' → H' x = some (.ins CF dx (ffs si ri mi li (rankI 0 si mi ri li))) → Q .non H')
/-- what the rules' makers ask of the module -/
structure PrgB (K : PySem.W.Frag) (mg : Str → Option Value) (CRl CB fB : Addr) : Prop where
  g_Rule : mg "Rule" = some (.ref CRl)
  g_BadRule : mg "BadRule" = some (.ref CB)
  rdRl : ClX.CRead K CRl (.type "type")
  most : ∃ u, ClX.CVal K CRl (.type "type") "MOST" (.int 400) u
  mostM : ∃ u, ClX.CVal K CRl (.type "type") "MOST_MODULUS" (.int 6) u
  oB : OexC K CB
  nPart : PySem.W.findIn K (.ref CB) "part" = some none
  iB : PySem.W.findIn K (.ref CB) "__init__" = some (some (.ref fB))
  tB : PySem.W.typeIn K (.ref fB) = some (.type "function")
/-- a class whose maker is called by name -/
structure BaseC (K : PySem.W.Frag) (C f : Addr) : Prop where
  rd : ClX.CRead K C (.type "type")
  fn : PySem.W.findCls K (.ref C) (.type "type") "__init__" = some (.val (.ref f))
/-- a class of rules -/
structure InsC (K : PySem.W.Frag) (C : Addr) : Prop where
  cl : Cls K C
  nTo : NoAttr K C "to"
  nSize : NoAttr K C "size"
  nLeave : NoAttr K C "leave"
  nRest : NoAttr K C "rest"
  nModulus : NoAttr K C "modulus"
  nStart : NoAttr K C "start"
  nRank : NoAttr K C "rank"
/-- isinstance may be asked of its objects -/
structure TyC (K : PySem.W.Frag) (C : Addr) : Prop where
  ga : PySem.W.findIn K (.ref C) "__class__" = some (some (.builtin "object.__class__"))
  gn : PySem.W.specialIn K (.builtin "object.__class__") "__get__" = some (some (.builtin "getset_descriptor.__get__"))
  gt : PySem.W.takesIn K (.builtin "object.__class__") = some true
  gm : PySem.W.mroIn K C (.type "object") = some true
theorem TyC.ty {K : PySem.W.Frag} {C x dx : Addr} {H : Hp} {fs : List (Str × V)} (t : TyC K C) (c : Cls K C) (h : H x = some (.ins C dx fs)) : TyX K H (.ref x) (.ref C) := .base (.ins h c t.ga t.gn t.gt t.gm)
theorem int_of_num {lo hi : Int} {x : V} (h : numV lo hi x = true) : ∃ i, x = .int i ∧ lo ≤ i ∧ i ≤ hi := numV_is h
theorem dueS_none {s l : V} (h : dueS s l = none) : ∃ si li : Int, s = .int si ∧ l = .int li ∧ 1 ≤ si ∧ si ≤ 400 ∧ 0 ≤ li ∧ li ≤ 400 := by
  unfold dueS at h
  split at h
  · rename_i e1
    split at h
    · rename_i e2
      obtain ⟨si, rfl, s0, s1⟩ := numV_is e1
      obtain ⟨li, rfl, l0, l1⟩ := numV_is e2
      exact ⟨si, li, rfl, rfl, s0, s1, l0, l1⟩
    · cases h
  · cases h
theorem dueR_none {r m : V} (h : dueR r m = none) : ∃ ri mi : Int, r = .int ri ∧ m = .int mi ∧ 0 ≤ ri ∧ ri ≤ mi - 1 ∧ 1 ≤ mi ∧ mi ≤ 6 := by
  unfold dueR at h
  split at h
  · rename_i e2
    obtain ⟨mi, rfl, m0, m1⟩ := numV_is e2
    have h' : (if numV 0 (mi - 1) r = true then none else some ("rest" : Str)) = none := h
    split at h'
    · rename_i e3
      obtain ⟨ri, rfl, r0, r1⟩ := numV_is e3
      exact ⟨ri, mi, rfl, rfl, r0, r1, m0, m1⟩
    · cases h'
  · cases h
theorem dueD_none {t r m : V} (h : dueD t r m = none) : ∃ ti ri mi : Int, t = .int ti ∧ r = .int ri ∧ m = .int mi ∧ 0 ≤ ti ∧ ti ≤ 400 ∧ 0 ≤ ri ∧ ri ≤ mi - 1 ∧ 1 ≤ mi ∧ mi ≤ 6 := by
  unfold dueD at h
  split at h
  · rename_i e1
    obtain ⟨ti, rfl, t0, t1⟩ := numV_is e1
    obtain ⟨ri, mi, rfl, rfl, z⟩ := dueR_none h
    exact ⟨ti, ri, mi, rfl, rfl, rfl, t0, t1, z⟩
  · cases h
theorem dueF_none {s r m l : V} (h : dueF s r m l = none) : ∃ si ri mi li : Int, s = .int si ∧ r = .int ri ∧ m = .int mi ∧ l = .int li ∧ 1 ≤ si ∧ si ≤ 400 ∧ 0 ≤ ri ∧ ri ≤ mi - 1 ∧ 1 ≤ mi ∧ mi ≤ 6 ∧ 0 ≤ li ∧ li ≤ 400 := by
  unfold dueF at h
  split at h
  · cases h
  · rename_i e
    obtain ⟨si, li, rfl, rfl, s0, s1, l0, l1⟩ := dueS_none e
    obtain ⟨ri, mi, rfl, rfl, r0, r1, m0, m1⟩ := dueR_none h
    exact ⟨si, ri, mi, li, rfl, rfl, rfl, rfl, s0, s1, r0, r1, m0, m1, l0, l1⟩
theorem numV_of {lo hi i : Int} (h0 : lo ≤ i) (h1 : i ≤ hi) : numV lo hi (.int i) = true := by
  show (decide (lo ≤ i) && decide (i ≤ hi)) = true
  rw [decide_eq_true h0, decide_eq_true h1] <;> rfl
theorem dueR_of {r m : Int} (r0 : 0 ≤ r) (r1 : r ≤ m - 1) (m0 : 1 ≤ m) (m1 : m ≤ 6) : dueR (.int r) (.int m) = none := by
  unfold dueR
  rw [numV_of m0 m1]
  show (if numV 0 (m - 1) (.int r) = true then none else some ("rest" : Str)) = none
  rw [numV_of r0 r1]
  rfl
theorem dueD_of {t r m : Int} (t0 : 0 ≤ t) (t1 : t ≤ 400) (r0 : 0 ≤ r) (r1 : r ≤ m - 1) (m0 : 1 ≤ m) (m1 : m ≤ 6) : dueD (.int t) (.int r) (.int m) = none := by
  unfold dueD
  rw [numV_of t0 t1, dueR_of r0 r1 m0 m1]
  rfl
theorem dueF_of {s r m l : Int} (s0 : 1 ≤ s) (s1 : s ≤ 400) (r0 : 0 ≤ r) (r1 : r ≤ m - 1) (m0 : 1 ≤ m) (m1 : m ≤ 6) (l0 : 0 ≤ l) (l1 : l ≤ 400) : dueF (.int s) (.int r) (.int m) (.int l) = none := by
  unfold dueF dueS
  rw [numV_of s0 s1, numV_of l0 l1, dueR_of r0 r1 m0 m1]
  rfl
/-- BadRule(z), raised -/
theorem bad_made {C : Addr} {E : XK} {W : WX} {σ : L2.St} {H : Hp} {z : Str} (h : Bad C E H z) (hW : ∀ cls d H', E cls d H' → W cls d σ H') : tMkO C (spBadI C) [] (tCons (tC (.str z)) tNil) σ H (fun cls d H' => W cls d σ H') := by
  refine ⟨(show 1 ≤ 1000 by decide), fun a ha => ⟨a, .str z, rfl, upd_same, fun d hd ne => ⟨rfl, d, _, upd_same, by rw [upd_ne ne, upd_same], by rw [upd_ne ne] at hd; exact hd, ?_⟩⟩⟩
  have hd0 : H d = none := by rw [upd_ne ne] at hd; exact hd
  have e : upd (del (upd (upd (upd H a (exo a C none)) d (exd d [("part", V.str z)])) a (exo a C (some d))) a) d (.xd [("part", V.str z)]) = upd H d (.xd [("part", V.str z)]) := by
    funext b
    by_cases hb : b = d
    · subst hb
      rw [upd_same, upd_same]
    · rw [upd_ne hb, upd_ne hb]
      by_cases hba : b = a
      · subst hba
        rw [del_same, ha]
      · rw [del_ne hba, upd_ne hba, upd_ne hb, upd_ne hba]
  show W (.ref C) (some d) σ (upd (del (upd (upd (upd H a (exo a C none)) d (exd d [("part", V.str z)])) a (exo a C (some d))) a) d (.xd [("part", V.str z)]))
  rw [e]
  exact hW _ _ _ (h d hd0)
/-- what the hearing of an act asks of the program -/
structure PrgE (K : PySem.W.Frag) (mg : Str → Option Value) (CB CF : Addr) : Prop where
  g_FreeError : mg "FreeError" = some (.ref CF)
  hit : PySem.W.exmOne K (.ref CB) (.ref CF) = some true
  exc : ExcC K CB
  xf : XfC K CB
  same : PySem.W.kitOne K (.ref CB) (.ref CB) = some true
/-- what the hearing makes of an act's reading -/
def TTh (CB : Addr) : (XK → Hp → VK → Prop) → Hp → VK → Prop := fun tl H Q => ∀ H1, Same H H1 →
  tl (fun cls d H' => cls = .ref CB ∧ ∃ (dd : Addr) (z : V), d = some dd ∧ H' dd = some (.xd [("part", z)]) ∧ ∀ H'' t, Same H' H'' → H'' t = some (.tup [.str "part", z]) → Q (.ref t) H'')
    H1 (fun x H' => ∀ H'' l, Same H' H'' → H'' l = some (.lst [x]) → Q (.ref l) H'')
/-- a value of a built-in kind, neither the pen nor l -/
def Good (p l : Addr) (H : Hp) (x : V) : Prop := Kd H x ∧ ∀ a, x = .ref a → a ≠ p ∧ a ≠ l
theorem Good.mv {p l : Addr} {H H' : Hp} {x : V} (h : Good p l H x) (m : Mv p H H') : Good p l H' x := ⟨h.1.keep fun a o e z => m a o (h.2 a e).1 z, h.2⟩
theorem Good.put {p l : Addr} {H : Hp} {x : V} {o : HO} (h : Good p l H x) : Good p l (upd H l o) x := ⟨h.1.keep fun a u e z => by rw [upd_ne (h.2 a e).2]; exact z, h.2⟩
theorem Good.int {p l : Addr} {H : Hp} (i : Int) : Good p l H (.int i) := ⟨True.intro, fun _ z => nomatch z⟩
theorem tabs_mv {T : List (Addr × Str)} {H H' : Hp} {p : Addr} {xs : List V} (hp : H p = some (.lst xs)) (m : Mv p H H') (t : LamX.Tabs T H) : LamX.Tabs T H' := fun b hb => by
  obtain ⟨ps, h1, h2, h3⟩ := t b hb
  refine ⟨ps, m _ _ (fun z => by rw [z, hp] at h1; cases h1) h1, h2, fun pos cv hc => ?_⟩
  obtain ⟨c, e1, e2⟩ := h3 pos cv hc
  exact ⟨c, e1, m _ _ (fun z => by rw [z, hp] at e2; cases e2) e2⟩
theorem Kd.ext {H H' : Hp} {x : V} (h : Kd H x) (s : LamX.ExtN H H') : Kd H' x := by
  cases x with
  | ref a =>
    rcases h with ⟨xs, h⟩ | ⟨xs, h⟩ | ⟨kvs, h⟩
    · exact .inl ⟨xs, s _ _ h fun _ z => nomatch z⟩
    · exact .inr (.inl ⟨xs, s _ _ h fun _ z => nomatch z⟩)
    · exact .inr (.inr ⟨kvs, s _ _ h fun _ z => nomatch z⟩)
  | _ => exact h
theorem made_same {H H' : Hp} {x dx C : Addr} (hx : H x = none) (hd : H dx = none) (m : Mv x (upd (upd H dx (.own x)) x (.ins C dx [])) H') : Same H H' := fun b o e => by
  have n1 := ne_of_none e hx
  have n2 := ne_of_none e hd
  exact m b o n1 (by rw [upd_ne n1, upd_ne n2]; exact e)
theorem extN_same {H H1 H2 : Hp} (a : LamX.ExtN H H1) (b : Same H1 H2) : LamX.ExtN H H2 := a.trans (.of b)
theorem Kd.put {H : Hp} {h : Addr} {xs ys : List V} {x : V} (k : Kd H x) (at_ : H h = some (.lst xs)) : Kd (upd H h (.lst ys)) x := by
  cases x with
  | ref a =>
    by_cases e : a = h
    · subst e
      exact .inr (.inl ⟨ys, upd_same⟩)
    · rcases k with ⟨zs, k⟩ | ⟨zs, k⟩ | ⟨zs, k⟩
      · exact .inl ⟨zs, by rw [upd_ne e]; exact k⟩
      · exact .inr (.inl ⟨zs, by rw [upd_ne e]; exact k⟩)
      · exact .inr (.inr ⟨zs, by rw [upd_ne e]; exact k⟩)
  | _ => exact k
theorem Same.new {H : Hp} {l : Addr} {o : HO} (h : H l = none) : Same H (upd H l o) := fun b u e => by
  rw [upd_ne (ne_of_none e h)]
  exact e
theorem Same.mv {H H' : Hp} (s : Same H H') (p : Addr) : Mv p H H' := fun b o _ e => s b o e
theorem Kd.same {H H' : Hp} {x : V} (h : Kd H x) (s : Same H H') : Kd H' x := h.keep fun a o _ e => s a o e
end Fz
set_option Elab.async false
set_option linter.all false
set_option maxRecDepth 100000
set_option maxHeartbeats 2000000
/-! Own layer, eighth part: rules made, and what is heard of their making. -/
namespace Fz
open PySem PySem.Spec PyProof.Rows L2
def toI : V → Int
  | .int i => i
  | _ => 0
/-- what a law hears of a making: the wrong part, or the object in a list -/
def Ans (C : Addr) (due : Option Str) (fs : Int → List (Str × V)) (H : Hp) (v : V) : Prop := (∃ (z : Str) (a : Addr), due = some z ∧ v = .ref a ∧ H a = some (.tup [.str "part", .str z])) ∨
  ∃ (a x dx : Addr) (k : Int), due = none ∧ v = .ref a ∧ H a = some (.lst [.ref x]) ∧ H x = some (.ins C dx (fs k))
section
variable {C CB : Addr} {due : Option Str} {fs : Int → List (Str × V)} {H H' : Hp} {v : V}
theorem Ans.ext (h : Ans C due fs H v) (s : LamX.ExtN H H') : Ans C due fs H' v := by
  rcases h with ⟨z, a, h1, h2, h3⟩ | ⟨a, x, dx, k, h1, h2, h3, h4⟩
  · exact .inl ⟨z, a, h1, h2, s _ _ h3 (fun _ z => nomatch z)⟩
  · exact .inr ⟨a, x, dx, k, h1, h2, s _ _ h3 (fun _ z => nomatch z), s _ _ h4 (fun _ z => nomatch z)⟩
theorem Ans.put {h : Addr} {a1 : V} {o : HO} {C' : Addr} {due' : Option Str} {fs' : Int → List (Str × V)} (k : Ans C due fs H v) (at_ : H h = some (.lst [a1])) (k1 : Ans C' due' fs' H a1) : Ans C due fs (upd H h o) v := by
  have no : ∀ {x C dx fs}, H x = some (.ins C dx fs) → a1 ≠ .ref x := fun {x C dx fs} hx e => by
    rcases k1 with ⟨_, b, _, e2, z⟩ | ⟨b, _, _, _, _, e2, z, _⟩ <;>
    · rw [e] at e2
      cases e2
      rw [hx] at z
      cases z
  rcases k with ⟨z, a, h1, h2, h3⟩ | ⟨a, x, dx, k, h1, h2, h3, h4⟩
  · exact .inl ⟨z, a, h1, h2, by rw [upd_ne (fun e => by rw [e, at_] at h3; cases h3)]; exact h3⟩
  · refine .inr ⟨a, x, dx, k, h1, h2, ?_, ?_⟩
    · rw [upd_ne (fun e => ?_)]
      · exact h3
      · rw [e, at_] at h3
        exact no h4 (List.cons.inj (HO.lst.inj (Option.some.inj h3))).1
    · rw [upd_ne (fun e => by rw [e, at_] at h4; cases h4)]
      exact h4
/-- what stands in the answer of a making -/
abbrev heardNx (Q : VK) : VK := fun x H' => ∀ H'' l, Same H' H'' → H'' l = some (.lst [x]) → Q (.ref l) H''
abbrev heardEx (CB : Addr) (Q : VK) : XK := fun cls d H' => cls = .ref CB ∧ ∃ (dd : Addr) (z : V), d = some dd ∧ H' dd = some (.xd [("part", z)]) ∧ ∀ H'' t, Same H' H'' → H'' t = some (.tup [.str "part", z]) → Q (.ref t) H''
end
section
variable {CD CB : Addr} {H : Hp} {Q : VK} {t r m z l : V} {x dx : Addr}
theorem up_made {C : Addr} (hx : H x = none) (hd : H dx = none) : Same H (upd (upd H dx (.own x)) x (.ins C dx [])) := fun b o e => by rw [upd_ne (ne_of_none e hx), upd_ne (ne_of_none e hd)]; exact e
theorem down_heard (kt : Kd H t) (kr : Kd H r) (km : Kd H m) (hQ : ∀ H' v, Same H H' → Ans CD (dueD t r m) (fun k => dfs (toI t) (toI r) (toI m) k) H' v → Q v H') (hx : H x = none) (hd : H dx = none) :
    spDown CB CD [.ref x, t, r, m] (upd (upd H dx (.own x)) x (.ins CD dx [])) (fun v H' => v = .non ∧ heardNx Q (.ref x) H') (heardEx CB Q) := by
  have up := up_made (C := CD) hx hd
  refine ⟨x, dx, t, r, m, rfl, upd_same, kt.same up, kr.same up, km.same up, fun z hz d hd2 => ⟨rfl, d, .str z, rfl, upd_same, fun H'' a s at_ => ?_⟩, fun ti ri mi H' e1 e2 e3 hz mv at_ => ⟨rfl, fun H'' a s at2 => ?_⟩⟩
  · exact hQ H'' _ (fun b o e => s b o (by rw [upd_ne (ne_of_none (up b o e) hd2)]; exact up b o e)) (.inl ⟨z, a, hz, rfl, at_⟩)
  · cases e1
    cases e2
    cases e3
    exact hQ H'' _ (fun b o e => s b o (made_same hx hd mv b o e)) (.inr ⟨a, x, dx, _, hz, rfl, at2, s _ _ at_⟩)
theorem down_made (kt : Kd H t) (kr : Kd H r) (km : Kd H m) (none_ : dueD t r m = none) {E : XK} (hx : H x = none) (hd : H dx = none)
    (hQ : ∀ H' k, Same H H' → H' x = some (.ins CD dx (dfs (toI t) (toI r) (toI m) k)) → Q (.ref x) H') :
    spDown CB CD [.ref x, t, r, m] (upd (upd H dx (.own x)) x (.ins CD dx [])) (fun v H' => v = .non ∧ Q (.ref x) H') E := by
  have up := up_made (C := CD) hx hd
  refine ⟨x, dx, t, r, m, rfl, upd_same, kt.same up, kr.same up, km.same up, fun z hz => ?_, fun ti ri mi H' e1 e2 e3 hz mv at_ => ⟨rfl, ?_⟩⟩
  · rw [none_] at hz
    cases hz
  · cases e1
    cases e2
    cases e3
    exact hQ H' _ (made_same hx hd mv) at_
theorem fixed_heard (kz : Kd H z) (kr : Kd H r) (km : Kd H m) (kl : Kd H l) (hQ : ∀ H' v, Same H H' → Ans CD (dueF z r m l) (fun k => ffs (toI z) (toI r) (toI m) (toI l) k) H' v → Q v H') (hx : H x = none) (hd : H dx = none) :
    spFixed CB CD [.ref x, z, r, m, l] (upd (upd H dx (.own x)) x (.ins CD dx [])) (fun v H' => v = .non ∧ heardNx Q (.ref x) H') (heardEx CB Q) := by
  have up := up_made (C := CD) hx hd
  refine ⟨x, dx, z, r, m, l, rfl, upd_same, kz.same up, kr.same up, km.same up, kl.same up, fun y H1 hy mv1 d hd2 => ⟨rfl, d, .str y, rfl, upd_same, fun H'' a s at_ => ?_⟩, fun ti ri mi li H' e1 e2 e3 e4 hz mv at_ => ⟨rfl, fun H'' a s at2 => ?_⟩⟩
  · have s1 := made_same hx hd mv1
    exact hQ H'' _ (fun b o e => s b o (by rw [upd_ne (ne_of_none (s1 b o e) hd2)]; exact s1 b o e)) (.inl ⟨y, a, hy, rfl, at_⟩)
  · cases e1
    cases e2
    cases e3
    cases e4
    exact hQ H'' _ (fun b o e => s b o (made_same hx hd mv b o e)) (.inr ⟨a, x, dx, _, hz, rfl, at2, s _ _ at_⟩)
theorem fixed_made (kz : Kd H z) (kr : Kd H r) (km : Kd H m) (kl : Kd H l) (none_ : dueF z r m l = none) {E : XK} (hx : H x = none) (hd : H dx = none)
    (hQ : ∀ H' k, Same H H' → H' x = some (.ins CD dx (ffs (toI z) (toI r) (toI m) (toI l) k)) → Q (.ref x) H') :
    spFixed CB CD [.ref x, z, r, m, l] (upd (upd H dx (.own x)) x (.ins CD dx [])) (fun v H' => v = .non ∧ Q (.ref x) H') E := by
  have up := up_made (C := CD) hx hd
  refine ⟨x, dx, z, r, m, l, rfl, upd_same, kz.same up, kr.same up, km.same up, kl.same up, fun y H1 hy => ?_, fun ti ri mi li H' e1 e2 e3 e4 hz mv at_ => ⟨rfl, ?_⟩⟩
  · rw [none_] at hy
    cases hy
  · cases e1
    cases e2
    cases e3
    cases e4
    exact hQ H' _ (made_same hx hd mv) at_
theorem dueD_some (h : dueD t r m = some x') : x' = ("to" : Str) ∨ x' = "modulus" ∨ x' = "rest" := by
  unfold dueD at h
  split at h
  · unfold dueR at h
    split at h
    · split at h
      · split at h
        · cases h
        · cases h
          exact .inr (.inr rfl)
      · cases h
    · cases h
      exact .inr (.inl rfl)
  · cases h
    exact .inl rfl
theorem dueF_some {y : Str} (h : dueF z r m l = some y) : y = "size" ∨ y = "leave" ∨ y = "modulus" ∨ y = "rest" := by
  unfold dueF at h
  split at h
  · rename_i e
    cases h
    unfold dueS at e
    split at e
    · split at e
      · cases e
      · cases e
        exact .inr (.inl rfl)
    · cases e
      exact .inl rfl
  · unfold dueR at h
    split at h
    · split at h
      · split at h
        · cases h
        · cases h
          exact .inr (.inr (.inr rfl))
      · cases h
    · cases h
      exact .inr (.inr (.inl rfl))
end
def partNames : List Str := ["to", "size", "leave", "modulus", "rest"]
theorem part_shaped : ∀ z ∈ partNames, SeqAt.shaped (.tuple [.str "part", .str z]) = true := by decide +kernel
end Fz

set_option Elab.async false
set_option linter.all false
set_option maxRecDepth 100000
set_option maxHeartbeats 2000000
/-! Own layer, ninth part: == and != of an instance by its class's own __eq__; str of an instance by its own __str__. -/
namespace Fz
open PySem PySem.Spec PyProof.Rows L2
section
variable {prog : Program} {w : World} {A : Around} {E : Value → Shared → Prop} {s : Shared} {K : PySem.W.Frag} {x C f : Addr} {ox : Obj} {od : Option Obj} {b tb : Value}
theorem bound_ne {M : Model} {args : List Value} {Q : Option Value → Shared → Prop} (X : K.In s.heap) (J : PySem.W.InstAt s.heap x ox C od) (slot : PySem.W.findIn K (.ref C) "__ne__" = some (some (.builtin "object.__ne__")))
    (called : wpAny M A (call (.builtin "object.__ne__") (.ref x :: args)) (fun v => Q (some v)) E s) : wpAny M A (callSpecialIfBound? (.ref x) "__ne__" args) Q E s := by
  simp only [callSpecialIfBound?, bindSpecialIfBound?]
  refine wpAny_holding <| wpAny_bind <| wpAny_bind <| wpAny_bind <| J.type.here <| (PySem.W.looks_findIn X slot).here ?_
  refine wpAny_bind <| wpAny_askSetting <| wpAny_ite ?_
  have end_ : wpAny M A (call (.builtin "object.__ne__") ([.ref x] ++ args) >>= fun v => pure (some v)) Q E s := wpAny_bind (wpAny_mono called (fun _ _ z => wpAny_pure z) fun _ _ z => z)
  split
  · exact wpAny_bind (wpAny_of_eq (F.cmp_object.ne.bind _) <| wpAny_pure (by exact end_))
  · exact wpAny_tryCatch (wpAny_bind (wpAny_of_eq (F.cmp_object.ne.bind _) <| wpAny_pure (by exact end_)))
theorem body_ne {Q : Fin → Shared → Prop} (room : A.units < cLine) (X : K.In s.heap) (J : PySem.W.InstAt s.heap x ox C od) (own : PySem.W.findIn K (.ref C) "__eq__" = some (some (.ref f))) (isF : PySem.W.isFn K (.ref f) = true)
    (called : wpAny (model prog w) A (call (.ref f) [.ref x, b]) (fun v s' => ∃ c, v = .bool c ∧ Q (.done (.ret (.bool (!c)))) s') E s) : wpAny (model prog w) A (Builtin.«object.__ne__» ⟨[.ref x, b], []⟩) Q E s := by
  unfold Builtin.«object.__ne__»
  repeat (first
    | with_reducible refine wpAny_cRoomFor room ?_
    | (refine wpAny_bind (m := callSpecialIfBound? (.ref x) (Str.ofString "__eq__") [b]) (PySem.W.ifBound_K X J own isF (wpAny_mono called (fun r s' z => by
          obtain ⟨c, rfl, q⟩ := z
          repeat (first | exact q | exact wpAny_pure q | exact wpAny_truthy_bool q | (refine wpAny_bind (m := truthy (.bool _)) (wpAny_truthy_bool ?_)) | wp_step)) fun _ _ z => z)))
    | wp_step)
theorem ne_own {Q : Value → Shared → Prop} (room : A.units + 1 < cLine) (X : K.In s.heap) (J : PySem.W.InstAt s.heap x ox C od) (isTb : PySem.W.Looks (model prog w) s.heap (typeOf b) tb) (first_ : PySem.W.notFirst K C tb = true)
    (slot : PySem.W.findIn K (.ref C) "__ne__" = some (some (.builtin "object.__ne__"))) (hm : PySem.W.mroIn K C (.type "object") = some true) (own : PySem.W.findIn K (.ref C) "__eq__" = some (some (.ref f))) (isF : PySem.W.isFn K (.ref f) = true)
    (called : wpAny (model prog w) A.in1 (call (.ref f) [.ref x, b]) (fun v s' => ∃ c, v = .bool c ∧ Q (.bool (!c)) s') E s) : wpAny (model prog w) A (richCompare .NotEq (.ref x) b) Q E s := by
  have one : wpAny (model prog w) A (tryCompare (.ref x) "__ne__" b) (fun r s' => ∃ v, r = some v ∧ Q v s') E s := by
    unfold tryCompare
    refine wpAny_bind <| bound_ne X J slot ?_
    refine wpAny_call <| codeAny_call_builtin F.cmp_object.ne.plain F.cmpEntry_ne <| PySem.W.check_slot F.cmpKind_ne F.cmpSplit_ne (J.type.andThen (PySem.W.looks_mroIn X hm)) (F.cmpArgs_ne _ _) ?_
    refine body_ne (A := A.in1) room X J own isF <| wpAny_mono called (fun v s' z => ?_) fun _ _ z => z
    obtain ⟨c, rfl, q⟩ := z
    exact ⟨c, rfl, wpAny_pure ⟨_, rfl, q⟩⟩
  unfold richCompare
  simp only [oneThing_ref]
  refine wpAny_holding <| wpAny_bind <| wpAny_cRoomFor (Nat.lt_of_succ_lt room) ?_
  rw [cmpInfo_NotEq]
  refine wpAny_bind <| J.type.here <| wpAny_bind <| isTb.here ?_
  split
  · rename_i q
    have below : PySem.W.subIn K tb (.ref C) = some false := by
      rcases Bool.or_eq_true_iff.mp first_ with z | z
      · rw [beq_iff_eq.mp z] at q
        simp at q
      · exact beq_iff_eq.mp z
    refine wpAny_bind <| (PySem.W.looks_subIn X below).here ?_
    simp only [Bool.false_eq_true, if_false]
    refine wpAny_bind <| wpAny_mono one (fun r s' z => ?_) fun _ _ z => z
    obtain ⟨v, rfl, q⟩ := z
    exact wpAny_pure q
  · refine wpAny_bind <| wpAny_pure ?_
    simp only [Bool.false_eq_true, if_false]
    refine wpAny_bind <| wpAny_mono one (fun r s' z => ?_) fun _ _ z => z
    obtain ⟨v, rfl, q⟩ := z
    exact wpAny_pure q
end
section
variable {X : Cx} {C f : Addr} {fd : FuncData} {ps : List Str} {sp : Sp} {k : Nat}
/-- x == y, x an instance of the class at C, whose def at f compares by sp -/
def rEqO (K : PySem.W.Frag) (C : Addr) (sp : Sp) : R2 := fun x y H Q => ∃ (a dx : Addr) (fs : List (Str × V)) (t : Value), x = .ref a ∧ H a = some (.ins C dx fs) ∧ TyX K H y t ∧ PySem.W.notFirst K C t = true ∧ sp [x, y] H Q E0
theorem op_eqO (own : PySem.W.findIn X.K (.ref C) "__eq__" = some (some (.ref f))) (isF : PySem.W.isFn X.K (.ref f) = true) (F : FnOk X.prog X.w X.K X.mg X.base CX0 k f fd ps sp) (binds : L2.Binds X.K fd ps []) (room : Room k X.A) : OpR X (compareOp .Eq) (rEqO X.K C sp) := by
  intro pins s σ H x y v u Q I rx ry h
  obtain ⟨a, dx, fs, t, rfl, ha, ty, nf, q⟩ := h
  cases (show v = Value.ref a from rx)
  obtain ⟨mA, O, _⟩ := ins_get I.hok ha
  obtain ⟨od, J, _⟩ := O.look
  obtain ⟨P, Z, p, _⟩ := kit_of I ry ty
  obtain ⟨m, hF⟩ := I.fr
  show wpAny _ _ (richCompare .Eq (.ref a) u) _ _ _
  refine PySem.W.cmp_K (op := .Eq) (tb := t) room.units0 hF I.ok.mod.kin J (Z.ty _ _ I.kIn p) nf own isF ?_
  refine wpAny_mono (run_fn (us := [.ref a, u]) (vs := [.ref a, y]) F room binds .nil pass0 I (.cons rfl (.cons ry .nil)) q) (fun w s' z => ?_) fun _ _ z => z
  obtain ⟨z', H', I', rz, qz⟩ := z
  exact SlX.cmpback rz ⟨z', H', I', rz, qz⟩
/-- x != y of the same -/
def rNeO (K : PySem.W.Frag) (C : Addr) (sp : Sp) : R2 := fun x y H Q => ∃ (a dx : Addr) (fs : List (Str × V)) (t : Value), x = .ref a ∧ H a = some (.ins C dx fs) ∧ TyX K H y t ∧ PySem.W.notFirst K C t = true ∧ sp [x, y] H (fun z H' => ∃ c, z = .bl c ∧ Q (.bl (!c)) H') E0
theorem op_neO (own : PySem.W.findIn X.K (.ref C) "__eq__" = some (some (.ref f))) (isF : PySem.W.isFn X.K (.ref f) = true) (slot : PySem.W.findIn X.K (.ref C) "__ne__" = some (some (.builtin "object.__ne__"))) (hm : PySem.W.mroIn X.K C (.type "object") = some true)
    (F : FnOk X.prog X.w X.K X.mg X.base CX0 k f fd ps sp) (binds : L2.Binds X.K fd ps []) (room : Room (k + 1) X.A) : OpR X (compareOp .NotEq) (rNeO X.K C sp) := by
  intro pins s σ H x y v u Q I rx ry h
  obtain ⟨a, dx, fs, t, rfl, ha, ty, nf, q⟩ := h
  cases (show v = Value.ref a from rx)
  obtain ⟨mA, O, _⟩ := ins_get I.hok ha
  obtain ⟨od, J, _⟩ := O.look
  obtain ⟨P, Z, p, _⟩ := kit_of I ry ty
  show wpAny _ _ (richCompare .NotEq (.ref a) u) _ _ _
  have r2 : Vals [V.ref a, y] [Value.ref a, u] := .cons rfl (.cons ry .nil)
  have many : ([Value.ref a, u] ++ ([] : List Value)).length = ps.length := r2.length.symm.trans (F.len _ _ _ _ q)
  refine ne_own (tb := t) (by have := room.units; omega) I.kIn J (Z.ty _ _ I.kIn p) nf slot hm own isF ?_
  refine wpAny_call (codeAny_mono (F.run X.A.in1 X.stack s H ⟨[.ref a, u], []⟩ ([.ref a, u] ++ []) [.ref a, y] _ E0 room.in1 I.env0.in1 (binds s [.ref a, u] I.kIn many) r2 q) fun res s' got => ?_)
  match res, got with
  | .error e, got => exact got.elim
  | .ok (.ret z), got =>
    obtain ⟨z', H', I', rz, c, rfl, qz⟩ := I.after got
    cases (show z = Value.bool c from rz)
    exact ⟨c, rfl, .bl (!c), H', I', rfl, qz⟩
  | .ok .next, got => exact got.elim
  | .ok .brk, got => exact got.elim
  | .ok .cont, got => exact got.elim
/-- str(x) of an instance -/
def rStrO (C : Addr) (sp : Sp) : List V → Hp → VK → Prop := fun vs H Q => ∃ (a dx : Addr) (fs : List (Str × V)), vs = [.ref a] ∧ H a = some (.ins C dx fs) ∧ sp [.ref a] H (fun z H' => ∃ t, z = .str t ∧ Q (.str t) H') E0
theorem call_strO (own : PySem.W.findIn X.K (.ref C) "__str__" = some (some (.ref f))) (isF : PySem.W.isFn X.K (.ref f) = true) (F : FnOk X.prog X.w X.K X.mg X.base CX0 k f fd ps sp) (binds : L2.Binds X.K fd ps []) (room : Room (k + 2) X.A) : CallR X (.type "str") (rStrO C sp) := by
  intro pins s σ H vs us Q I rvs h
  obtain ⟨a, dx, fs, rfl, ha, q⟩ := h
  obtain ⟨u, rfl, ru⟩ := vals1 rvs
  cases ru
  obtain ⟨mA, O, _⟩ := ins_get I.hok ha
  obtain ⟨od, J, _⟩ := O.look
  have r2 : Vals [V.ref a] [Value.ref a] := .cons rfl .nil
  have many : ([Value.ref a] ++ ([] : List Value)).length = ps.length := r2.length.symm.trans (F.len _ _ _ _ q)
  have room2 : Room k X.A.in1.in1 := (show Room (k + 1) X.A.in1 from Room.in1 room).in1
  refine PySem.W.kso_call (by have := room2.units; omega) I.kIn J own isF ?_
  refine wpAny_call (codeAny_mono (F.run X.A.in1.in1 X.stack s H ⟨[.ref a], []⟩ ([.ref a] ++ []) [.ref a] _ E0 room2 I.env0.in1.in1 (binds s [.ref a] I.kIn many) r2 q) fun res s' got => ?_)
  match res, got with
  | .error e, got => exact got.elim
  | .ok (.ret z), got =>
    obtain ⟨z', H', I', rz, t, rfl, qz⟩ := I.after got
    obtain ⟨tk, e⟩ := (show ∃ tk, z = Value.str t tk from rz)
    cases e
    exact ⟨.str t, H', I', ⟨tk, rfl⟩, qz⟩
  | .ok .next, got => exact got.elim
  | .ok .brk, got => exact got.elim
  | .ok .cont, got => exact got.elim
end
end Fz

set_option Elab.async false
set_option linter.all false
set_option maxRecDepth 100000
set_option maxHeartbeats 2000000
/-! Own layer, tenth part: rules as data. -/
namespace Fz
open PySem PySem.Spec PyProof.Rows L2
/-- a rule's numbers: size, rest, modulus, leave; or to, rest, modulus -/
inductive RD where
  | fixed (s r m l : Int)
  | down (t r m : Int)
deriving DecidableEq
def RD.isF : RD → Bool
  | .fixed _ _ _ _ => true
  | .down _ _ _ => false
def RD.num : RD → Int
  | .fixed s _ _ _ => s
  | .down t _ _ => t
def RD.rest : RD → Int
  | .fixed _ r _ _ => r
  | .down _ r _ => r
def RD.mod : RD → Int
  | .fixed _ _ m _ => m
  | .down _ _ m => m
def RD.leave : RD → Int
  | .fixed _ _ _ l => l
  | .down _ _ _ => 0
def RD.start : RD → Int
  | .fixed s _ _ l => s + l
  | .down t _ _ => t + 1
def RD.kind (d : RD) : Str := if d.isF = true then "fixed" else "down"
/-- its numbers are those of a rule -/
structure RD.Wf (d : RD) : Prop where
  n0 : (if d.isF = true then 1 else 0) ≤ d.num
  n1 : d.num ≤ 400
  r0 : 0 ≤ d.rest
  r1 : d.rest ≤ d.mod - 1
  m0 : 1 ≤ d.mod
  m1 : d.mod ≤ 6
  l0 : 0 ≤ d.leave
  l1 : d.leave ≤ 400
def RD.rank : RD → Int
  | .fixed s r m l => rankI 0 s m r l
  | .down t r m => rankI 1 t m r 0
def RD.fs : RD → List (Str × V)
  | .fixed s r m l => ffs s r m l (rankI 0 s m r l)
  | .down t r m => dfs t r m (rankI 1 t m r 0)
/-- a law's tuple of it -/
def RD.tup (d : RD) : List V := [.str d.kind, .int d.num, .int d.rest, .int d.mod, .int d.leave]
def RD.cls (CF CD : Addr) (d : RD) : Addr := if d.isF = true then CF else CD
/-- the rule stands at x -/
def RuleAt (CF CD : Addr) (H : Hp) (x : Addr) (d : RD) : Prop := ∃ dx, H x = some (.ins (d.cls CF CD) dx d.fs)
theorem RuleAt.same {CF CD : Addr} {H H' : Hp} {x : Addr} {d : RD} (h : RuleAt CF CD H x d) (s : Same H H') : RuleAt CF CD H' x d := h.imp fun _ z => s _ _ z
theorem RuleAt.mv {CF CD : Addr} {H H' : Hp} {p x : Addr} {d : RD} {n : Nat} {q : Addr} (h : RuleAt CF CD H x d) (pen : PenAt n H p q) (s : Mv p H H') : RuleAt CF CD H' x d := by
  obtain ⟨dx, z⟩ := h
  obtain ⟨xs, hp⟩ := pen.lst
  exact ⟨dx, s _ _ (fun e => by rw [e, hp] at z; cases z) z⟩
theorem RuleAt.ext {CF CD : Addr} {H H' : Hp} {x : Addr} {d : RD} (h : RuleAt CF CD H x d) (s : LamX.ExtN H H') : RuleAt CF CD H' x d := h.imp fun _ z => s _ _ z (fun _ z => nomatch z)
theorem rank_inj {d e : RD} (hd : d.Wf) (he : e.Wf) (same : d.isF = e.isF) (h : d.rank = e.rank) : d = e := by
  cases d with
  | fixed s r m l =>
    cases e with
    | fixed s' r' m' l' =>
      have a := hd.n0; have b := hd.n1; have c := hd.r0; have d1 := hd.r1; have e1 := hd.m0; have f := hd.m1; have g := hd.l0; have i := hd.l1
      have a' := he.n0; have b' := he.n1; have c' := he.r0; have d' := he.r1; have e' := he.m0; have f' := he.m1; have g' := he.l0; have i' := he.l1
      simp only [RD.isF, RD.num, RD.rest, RD.mod, RD.leave, if_true] at a b c d1 e1 f g i a' b' c' d' e' f' g' i'
      have h2 : (((0 * 401 + s) * 401 + m) * 401 + r) * 401 + l = (((0 * 401 + s') * 401 + m') * 401 + r') * 401 + l' := h
      have q1 : s = s' := by omega
      have q2 : m = m' := by omega
      have q3 : r = r' := by omega
      have q4 : l = l' := by omega
      rw [q1, q2, q3, q4]
    | down _ _ _ => cases same
  | down t r m =>
    cases e with
    | fixed _ _ _ _ => cases same
    | down t' r' m' =>
      have a := hd.n0; have b := hd.n1; have c := hd.r0; have d1 := hd.r1; have e1 := hd.m0; have f := hd.m1
      have a' := he.n0; have b' := he.n1; have c' := he.r0; have d' := he.r1; have e' := he.m0; have f' := he.m1
      simp only [RD.isF, RD.num, RD.rest, RD.mod, Bool.false_eq_true, if_false] at a b c d1 e1 f a' b' c' d' e' f'
      have h2 : (((1 * 401 + t) * 401 + m) * 401 + r) * 401 + 0 = (((1 * 401 + t') * 401 + m') * 401 + r') * 401 + 0 := h
      have q1 : t = t' := by omega
      have q2 : m = m' := by omega
      have q3 : r = r' := by omega
      rw [q1, q2, q3]
theorem rank_ne {d e : RD} (hd : d.Wf) (he : e.Wf) : (d.isF = e.isF ∧ d.rank = e.rank) ↔ d = e := ⟨fun h => rank_inj hd he h.1 h.2, fun h => by rw [h]; exact ⟨rfl, rfl⟩⟩
theorem fs_rank (d : RD) : d.fs.lookup ("rank" : Str) = some (V.int d.rank) := by cases d <;> rfl
theorem fs_start (d : RD) : d.fs.lookup ("start" : Str) = some (V.int d.start) := by cases d <;> rfl
theorem fs_rest (d : RD) : d.fs.lookup ("rest" : Str) = some (V.int d.rest) := by cases d <;> rfl
theorem fs_modulus (d : RD) : d.fs.lookup ("modulus" : Str) = some (V.int d.mod) := by cases d <;> rfl
section
variable {CF CD CB : Addr} {H : Hp} {Q : VK} {x dx : Addr} {E : XK}
theorem down_rule {t r m : Int} (wf : (RD.down t r m).Wf) (hx : H x = none) (hd : H dx = none) (hQ : ∀ H', Same H H' → RuleAt CF CD H' x (.down t r m) → Q (.ref x) H') :
    spDown CB CD [.ref x, .int t, .int r, .int m] (upd (upd H dx (.own x)) x (.ins CD dx [])) (fun v H' => v = .non ∧ Q (.ref x) H') E := by
  have a := wf.n0; have b := wf.n1; have c := wf.r0; have d := wf.r1; have e := wf.m0; have f := wf.m1
  have none_ : dueD (.int t) (.int r) (.int m) = none := dueD_of a b c d e f
  refine ⟨x, dx, _, _, _, rfl, upd_same, True.intro, True.intro, True.intro, fun z hz => ?_, fun ti ri mi H' e1 e2 e3 hz mv at_ => ⟨rfl, ?_⟩⟩
  · rw [none_] at hz
    cases hz
  · cases e1
    cases e2
    cases e3
    exact hQ H' (made_same hx hd mv) ⟨dx, at_⟩
theorem fixed_rule {s r m l : Int} (wf : (RD.fixed s r m l).Wf) (hx : H x = none) (hd : H dx = none) (hQ : ∀ H', Same H H' → RuleAt CF CD H' x (.fixed s r m l) → Q (.ref x) H') :
    spFixed CB CF [.ref x, .int s, .int r, .int m, .int l] (upd (upd H dx (.own x)) x (.ins CF dx [])) (fun v H' => v = .non ∧ Q (.ref x) H') E := by
  have a := wf.n0; have b := wf.n1; have c := wf.r0; have d := wf.r1; have e := wf.m0; have f := wf.m1; have g := wf.l0; have i := wf.l1
  have none_ : dueF (.int s) (.int r) (.int m) (.int l) = none := dueF_of a b c d e f g i
  refine ⟨x, dx, _, _, _, _, rfl, upd_same, True.intro, True.intro, True.intro, True.intro, fun z _ hz => ?_, fun si ri mi li H' e1 e2 e3 e4 hz mv at_ => ⟨rfl, ?_⟩⟩
  · rw [none_] at hz
    cases hz
  · cases e1
    cases e2
    cases e3
    cases e4
    exact hQ H' (made_same hx hd mv) ⟨dx, at_⟩
end
theorem isDown_down : decide ((V.str "down") = V.str "down") = true := by decide +kernel
theorem isDown_fixed : decide ((V.str "fixed") = V.str "down") = false := by decide +kernel
theorem isFixed_fixed : decide ((V.str "fixed") = V.str "fixed") = true := by decide +kernel
theorem isFixed_down : decide ((V.str "down") = V.str "fixed") = false := by decide +kernel
/-- == of rules of the class at C -/
def spEqR (K : PySem.W.Frag) (C : Addr) : Sp := fun vs H Q _ => ∃ (a dx : Addr) (fs : List (Str × V)) (k : Int) (y : V), vs = [.ref a, y] ∧ H a = some (.ins C dx fs) ∧ fs.lookup ("rank" : Str) = some (V.int k) ∧
  ((∃ (b dy : Addr) (gs : List (Str × V)) (j : Int), y = .ref b ∧ H b = some (.ins C dy gs) ∧ gs.lookup ("rank" : Str) = some (V.int j) ∧ Q (.bl (decide (k = j))) H) ∨ (∃ t, TyX K H y t ∧ PySem.W.kitOne K t (.ref C) = some false ∧ Q (.bl false) H))
def spParts : Sp := fun vs H Q _ => ∃ (n : Nat) (p q : Addr) (most : Int), vs = [.ref p, .int most] ∧ PenAt n H p q ∧ n < 99000 ∧ 1 ≤ most ∧ most ≤ 400 ∧
  ∀ H' tp d, PenAt (n + 6) H' p q → Mv p H H' → H tp = none → H' tp = some (.tup (RD.tup d)) → d.Wf → (d.isF = true → d.num ≤ most ∧ d.leave ≤ (if most ≤ 2 then 2 else most - 1)) → (d.isF = false → d.num < most) → Q (.ref tp) H'
def spRule (CF CD : Addr) : Sp := fun vs H Q _ => ∃ (tp : Addr) (d : RD), vs = [.ref tp] ∧ H tp = some (.tup d.tup) ∧ d.Wf ∧ ∀ H' x, Same H H' → H x = none → RuleAt CF CD H' x d → Q (.ref x) H'
theorem nf_ty {K : PySem.W.Frag} {C : Addr} {n : String} {l : List Value} (e : fastBuiltinMro n = some l) (h : l.contains (.ref C) = false) : PySem.W.notFirst K C (.type n) = true := by
  have z : PySem.W.subIn K (.type n) (.ref C) = some false := by
    show (fastBuiltinMro n).map (·.contains (.ref C)) = some false
    rw [e]
    exact congrArg some h
  unfold PySem.W.notFirst
  rw [z]
  simp
end Fz

set_option Elab.async false
set_option linter.all false
set_option maxRecDepth 100000
set_option maxHeartbeats 2000000
/-! Own layer, eleventh part: rules compared; methods called by keywords; two rules for one expression. -/
namespace Fz
open PySem PySem.Spec PyProof.Rows L2
section
variable {X : Cx} {e : Expr} {t t' : TE}
def tEither (t t' : TE) : TE := fun σ H Q => t σ H Q ∨ t' σ H Q
theorem pe_or (h : PE X e t) (h' : PE X e t') : PE X e (tEither t t') := ⟨fun pins s σ H Q I z => z.elim (h.run pins s σ H Q I) (h'.run pins s σ H Q I)⟩
def rEither (r r' : R2) : R2 := fun x y H Q => r x y H Q ∨ r' x y H Q
end
section
variable {X : Cx} {CX : CXT} {k : Nat} {C f : Addr} {fd : FuncData} {ps ks : List Str} {sp : Sp} {E : XK} {m : Str} {pos apos : Pos} {o : Expr} {kws : List Keyword} {ta : TE} {tk : TA} {g : List Value → List Value → List Value} {gV : List V → List V → List V}
/-- o.m(k = v, ..) -/
def tMethK (C : Addr) (m : Str) (n : Nat) (sp : Sp) (gV : List V → List V → List V) (E : XK) (ta : TE) (tk : TA) : TE := fun σ H Q => ta σ H fun x H1 => ∃ (a dx : Addr) (fs : List (Str × V)), x = .ref a ∧ H1 a = some (.ins C dx fs) ∧ fs.lookup m = none ∧
  tk σ H1 fun zs H2 => zs.length = n ∧ sp (gV [.ref a] zs) H2 Q E
theorem pe_methK0 {pl : Sem Bool} (he : PE X o ta) (c : Cls X.K C) (hm : Meth X.K C m f) (F : FnOk X.prog X.w X.K X.mg X.base CX k f fd ps sp) (room : Room k X.A) (binds : KBn X.K fd ps 1 ks g gV) (pass : Passes CX X E) (hkw : PK X kws tk)
    (named : (backToKw pos (keywordEach kws X.env)).all (·.1.isSome) = true := by rfl) (names : (backToKw pos (keywordEach kws X.env)).filterMap (·.1) = ks := by rfl)
    (plain : ((backTo pos (starEach [] X.env)).any (·.1) || (backToKw pos (keywordEach kws X.env)).any (·.1.isNone)) = false := by rfl)
    (tree : eval (.Call (.Attribute o m apos) [] kws pos) X.env = (do
      let ov ← eval o X.env
      standAt apos.atName
      let (f, first) ← holding [ov] (getMethod ov m pl)
      callWith pos f first (backTo pos (starEach [] X.env)) (backToKw pos (keywordEach kws X.env))) := by rfl) :
    PE X (.Call (.Attribute o m apos) [] kws pos) (tMethK C m ks.length sp gV E ta tk) := by
  refine ⟨fun pins s σ H Q I h => PySem.W.methodCall_KW (pl := pl) (thn (he.run pins s σ H _ I h) fun u s1 ⟨x, H1, I1, rx, a, dx, fs, ex, ea, l, q⟩ => ?_) tree⟩
  subst ex
  obtain rfl : u = Value.ref a := rx
  refine getmeth_ok I1 ea c hm l ?_
  refine PySem.W.callWith_KW0 (first := [.ref a]) (h₀ := X.base) I1.ok.mod.kin hm.kp named ?_ plain
  refine thn (hkw.run pos pins s1 σ H1 _ I1 q) fun ws s2 ⟨zs, H2, I2, rz, len, q2⟩ => ⟨I2.kIn, ?_⟩
  rw [names]
  refine wpAny_call (codeAny_mono (F.run X.A X.stack s2 H2 ⟨[.ref a], ks.zip ws⟩ (g [.ref a] ws) (gV [.ref a] zs) Q E room I2.env0 (binds.to s2 [.ref a] ws I2.kIn rfl (rz.length.symm.trans len)) (binds.rel (.cons rfl .nil) rz) q2) fun res s' got => ?_)
  match res, got with
  | .error err, got => exact pass pins σ H2 s2 err s' I2 got
  | .ok (.ret u), got => exact I2.after got
  | .ok .next, got => exact got.elim
  | .ok .brk, got => exact got.elim
  | .ok .cont, got => exact got.elim
end
/-- what the comparing of rules asks -/
structure PrgQ (K : PySem.W.Frag) (CF CD : Addr) : Prop where
  icF : InsC K CF
  icD : InsC K CD
  tyF : TyC K CF
  tyD : TyC K CD
  nFD : PySem.W.notFirst K CF (.ref CD) = true
  nDF : PySem.W.notFirst K CD (.ref CF) = true
  kFF : PySem.W.kitOne K (.ref CF) (.ref CF) = some true
  kFD : PySem.W.kitOne K (.ref CF) (.ref CD) = some false
  kDF : PySem.W.kitOne K (.ref CD) (.ref CF) = some false
  kDD : PySem.W.kitOne K (.ref CD) (.ref CD) = some true
  tF : PySem.W.typeIn K (.ref CF) = some (.type "type")
  tD : PySem.W.typeIn K (.ref CD) = some (.type "type")
/-- a value of a built-in type -/
def OtherV (K : PySem.W.Frag) (H : Hp) (y : V) : Prop := ∃ (n : String) (l : List Value), TyX K H y (.type n) ∧ fastBuiltinMro n = some l ∧ ∀ C, l.contains (.ref C) = false
theorem nf_self {K : PySem.W.Frag} {C : Addr} : PySem.W.notFirst K C (.ref C) = true := by
  unfold PySem.W.notFirst
  simp
theorem kit_other {K : PySem.W.Frag} {C : Addr} {n : String} {l : List Value} (hd : PySem.W.hasDictIn K C = true) (tC : PySem.W.typeIn K (.ref C) = some (.type "type")) (e : fastBuiltinMro n = some l) (h : l.contains (.ref C) = false) : PySem.W.kitOne K (.type n) (.ref C) = some false := by
  obtain ⟨cd, hc, _⟩ := PySem.W.any_some hd
  have z : PySem.W.subIn K (.type n) (.ref C) = some false := by
    show (fastBuiltinMro n).map (·.contains (.ref C)) = some false
    rw [e]
    exact congrArg some h
  have ne : (Value.type n == Value.ref C) = false := by simp
  have ok : ((PySem.W.clsIn K C).isSome && PySem.W.typeIn K (.ref C) == some (.type "type")) = true := by rw [hc, tC] <;> rfl
  unfold PySem.W.kitOne
  rw [ne, if_neg Bool.false_ne_true]
  show (if _ then PySem.W.subIn K (.type n) (.ref C) else none) = some false
  rw [if_pos ok]
  exact z
theorem other_non {K : PySem.W.Frag} {H : Hp} : OtherV K H .non := ⟨"NoneType", _, .base .non, rfl, fun C => rfl⟩
theorem other_bl {K : PySem.W.Frag} {H : Hp} (b : Bool) : OtherV K H (.bl b) := ⟨"bool", _, .base (.bl b), rfl, fun C => rfl⟩
theorem other_int {K : PySem.W.Frag} {H : Hp} (i : Int) : OtherV K H (.int i) := ⟨"int", _, .base (.int i), rfl, fun C => rfl⟩
theorem other_str {K : PySem.W.Frag} {H : Hp} (z : Str) : OtherV K H (.str z) := ⟨"str", _, .base (.str z), rfl, fun C => rfl⟩
theorem other_lst {K : PySem.W.Frag} {H : Hp} {a : Addr} {xs : List V} (h : H a = some (.lst xs)) : OtherV K H (.ref a) := ⟨"list", _, .base (.lst h), rfl, fun C => rfl⟩
theorem other_tup {K : PySem.W.Frag} {H : Hp} {a : Addr} {xs : List V} (h : H a = some (.tup xs)) : OtherV K H (.ref a) := ⟨"tuple", _, .base (.tup h), rfl, fun C => rfl⟩
theorem other_dK {K : PySem.W.Frag} {H : Hp} {a : Addr} {kvs : List (Key × V)} (h : H a = some (.dK kvs)) : OtherV K H (.ref a) := ⟨"dict", _, .base (.dK h), rfl, fun C => rfl⟩
theorem OtherV.same {K : PySem.W.Frag} {H H' : Hp} {y : V} (k : Kd H y) (s : Same H H') : OtherV K H' y := by
  cases y with
  | non => exact other_non
  | bl b => exact other_bl b
  | int i => exact other_int i
  | str z => exact other_str z
  | ref a =>
    rcases k with ⟨xs, h⟩ | ⟨xs, h⟩ | ⟨kvs, h⟩
    · exact other_tup (s _ _ h)
    · exact other_lst (s _ _ h)
    · exact other_dK (s _ _ h)
  | flt _ => exact k.elim
  | byt _ => exact k.elim
  | ty _ => exact k.elim
section
variable {K : PySem.W.Frag} {CF CD x y : Addr} {H : Hp} {Q : VK} {d e : RD}
theorem PrgQ.sp_rules (P : PrgQ K CF CD) {C : Addr} {dx dy : Addr} {fs gs : List (Str × V)} {k j : Int} (hx : H x = some (.ins C dx fs)) (rk : fs.lookup ("rank" : Str) = some (V.int k)) (hy : H y = some (.ins C dy gs)) (rj : gs.lookup ("rank" : Str) = some (V.int j)) (fin : Q (.bl (decide (k = j))) H) :
    spEqR K C [.ref x, .ref y] H Q E0 := ⟨x, dx, fs, k, _, rfl, hx, rk, .inl ⟨y, dy, gs, j, rfl, hy, rj, fin⟩⟩
theorem dec_rank (hd : d.Wf) (he : e.Wf) (same : d.isF = e.isF) : decide (d.rank = e.rank) = decide (d = e) := by
  by_cases z : d = e
  · rw [z, decide_eq_true rfl, decide_eq_true rfl]
  · rw [decide_eq_false z, decide_eq_false fun h => z (rank_inj hd he same h)]
theorem eq_rules (P : PrgQ K CF CD) (hx : RuleAt CF CD H x d) (hy : RuleAt CF CD H y e) (wd : d.Wf) (we : e.Wf) (fin : Q (.bl (decide (d = e))) H) : rEither (rEqO K CF (spEqR K CF)) (rEqO K CD (spEqR K CD)) (.ref x) (.ref y) H Q := by
  obtain ⟨dx, ax⟩ := hx
  obtain ⟨dy, ay⟩ := hy
  cases d with
  | fixed s r m l =>
    refine .inl ⟨x, dx, (RD.fixed s r m l).fs, ?_⟩
    cases e with
    | fixed s' r' m' l' =>
      refine ⟨_, rfl, ax, P.tyF.ty P.icF.cl ay, nf_self, P.sp_rules ax (fs_rank (.fixed s r m l)) ay (fs_rank (.fixed s' r' m' l')) ?_⟩
      rw [dec_rank wd we rfl]
      exact fin
    | down t' r' m' =>
      refine ⟨_, rfl, ax, P.tyD.ty P.icD.cl ay, P.nFD, x, dx, _, _, _, rfl, ax, fs_rank (.fixed s r m l), .inr ⟨_, P.tyD.ty P.icD.cl ay, P.kDF, ?_⟩⟩
      rw [decide_eq_false (fun z => nomatch z)] at fin
      exact fin
  | down t r m =>
    refine .inr ⟨x, dx, (RD.down t r m).fs, ?_⟩
    cases e with
    | down t' r' m' =>
      refine ⟨_, rfl, ax, P.tyD.ty P.icD.cl ay, nf_self, P.sp_rules ax (fs_rank (.down t r m)) ay (fs_rank (.down t' r' m')) ?_⟩
      rw [dec_rank wd we rfl]
      exact fin
    | fixed s' r' m' l' =>
      refine ⟨_, rfl, ax, P.tyF.ty P.icF.cl ay, P.nDF, x, dx, _, _, _, rfl, ax, fs_rank (.down t r m), .inr ⟨_, P.tyF.ty P.icF.cl ay, P.kFD, ?_⟩⟩
      rw [decide_eq_false (fun z => nomatch z)] at fin
      exact fin
theorem ne_rules (P : PrgQ K CF CD) (hx : RuleAt CF CD H x d) (hy : RuleAt CF CD H y e) (wd : d.Wf) (we : e.Wf) (fin : Q (.bl (!decide (d = e))) H) : rEither (rNeO K CF (spEqR K CF)) (rNeO K CD (spEqR K CD)) (.ref x) (.ref y) H Q := by
  rcases eq_rules (Q := fun z H' => ∃ c, z = .bl c ∧ Q (.bl (!c)) H') P hx hy wd we ⟨_, rfl, fin⟩ with h | h
  · exact .inl h
  · exact .inr h
theorem eq_other {z : V} (P : PrgQ K CF CD) (hx : RuleAt CF CD H x d) (o : OtherV K H z) (fin : Q (.bl false) H) : rEither (rEqO K CF (spEqR K CF)) (rEqO K CD (spEqR K CD)) (.ref x) z H Q := by
  obtain ⟨dx, ax⟩ := hx
  obtain ⟨n, l, ty, e, no⟩ := o
  cases d with
  | fixed s r m l => exact .inl ⟨x, dx, _, _, rfl, ax, ty, nf_ty e (no CF), x, dx, _, _, _, rfl, ax, fs_rank (.fixed s r m l), .inr ⟨_, ty, kit_other P.icF.cl.hd P.tF e (no CF), fin⟩⟩
  | down t r m => exact .inr ⟨x, dx, _, _, rfl, ax, ty, nf_ty e (no CD), x, dx, _, _, _, rfl, ax, fs_rank (.down t r m), .inr ⟨_, ty, kit_other P.icD.cl.hd P.tD e (no CD), fin⟩⟩
end
section
variable {X : Cx} {CF CD fF fD : Addr} {fdF fdD : FuncData} {ps : List Str}
/-- the == of rules as an operator -/
theorem op_eqR (oF : PySem.W.findIn X.K (.ref CF) "__eq__" = some (some (.ref fF))) (iF : PySem.W.isFn X.K (.ref fF) = true) (F : FnOk X.prog X.w X.K X.mg X.base CX0 1 fF fdF ps (spEqR X.K CF)) (bF : L2.Binds X.K fdF ps [])
    (oD : PySem.W.findIn X.K (.ref CD) "__eq__" = some (some (.ref fD))) (iD : PySem.W.isFn X.K (.ref fD) = true) (D : FnOk X.prog X.w X.K X.mg X.base CX0 1 fD fdD ps (spEqR X.K CD)) (bD : L2.Binds X.K fdD ps []) (room : Room 1 X.A) :
    OpR X (compareOp .Eq) (rEither (rEqO X.K CF (spEqR X.K CF)) (rEqO X.K CD (spEqR X.K CD))) := (op_eqO oF iF F bF room).or (op_eqO oD iD D bD room)
theorem op_neR (oF : PySem.W.findIn X.K (.ref CF) "__eq__" = some (some (.ref fF))) (iF : PySem.W.isFn X.K (.ref fF) = true) (sF : PySem.W.findIn X.K (.ref CF) "__ne__" = some (some (.builtin "object.__ne__"))) (mF : PySem.W.mroIn X.K CF (.type "object") = some true)
    (F : FnOk X.prog X.w X.K X.mg X.base CX0 1 fF fdF ps (spEqR X.K CF)) (bF : L2.Binds X.K fdF ps [])
    (oD : PySem.W.findIn X.K (.ref CD) "__eq__" = some (some (.ref fD))) (iD : PySem.W.isFn X.K (.ref fD) = true) (sD : PySem.W.findIn X.K (.ref CD) "__ne__" = some (some (.builtin "object.__ne__"))) (mD : PySem.W.mroIn X.K CD (.type "object") = some true)
    (D : FnOk X.prog X.w X.K X.mg X.base CX0 1 fD fdD ps (spEqR X.K CD)) (bD : L2.Binds X.K fdD ps []) (room : Room 2 X.A) :
    OpR X (compareOp .NotEq) (rEither (rNeO X.K CF (spEqR X.K CF)) (rNeO X.K CD (spEqR X.K CD))) := (op_neO oF iF sF mF F bF room).or (op_neO oD iD sD mD D bD room)
end
/-! ### the texts of rules -/
def restT (r m : Int) : Str := if m = 1 then "" else (((Str.empty ++ (" rest " : Str)) ++ (toString r : Str)) ++ (" of " : Str)) ++ (toString m : Str)
def leaveT (l : Int) : Str := if l = 0 then "" else (Str.empty ++ (" leave " : Str)) ++ (toString l : Str)
def RD.text : RD → Str
  | .fixed s r m l => (((Str.empty ++ ("fixed " : Str)) ++ (toString s : Str)) ++ restT r m) ++ leaveT l
  | .down t r m => ((Str.empty ++ ("down " : Str)) ++ (toString t : Str)) ++ restT r m
theorem num_short {n : Int} (h0 : 0 ≤ n) (h1 : n ≤ 400) : (toString n : Str).length ≤ 10 := toString_length_le h0 (by decide) (by omega)
theorem restT_short {r m : Int} (r0 : 0 ≤ r) (r1 : r ≤ 400) (m0 : 0 ≤ m) (m1 : m ≤ 400) : (restT r m).length ≤ 40 := by
  unfold restT
  split
  · show (Str.ofString "").length ≤ 40
    decide +kernel
  · have a := num_short r0 r1
    have b := num_short m0 m1
    have c : (Str.empty ++ (" rest " : Str)).length = 6 := by decide +kernel
    have d : (" of " : Str).length = 4 := by decide +kernel
    rw [strLen_append, strLen_append, strLen_append, c, d]
    omega
theorem leaveT_short {l : Int} (l0 : 0 ≤ l) (l1 : l ≤ 400) : (leaveT l).length ≤ 40 := by
  unfold leaveT
  split
  · show (Str.ofString "").length ≤ 40
    decide +kernel
  · have a := num_short l0 l1
    have c : (Str.empty ++ (" leave " : Str)).length = 7 := by decide +kernel
    rw [strLen_append, c]
    omega
theorem num_log {n : Int} (h0 : 0 ≤ n) (h1 : n ≤ 400) : n.natAbs.log2 < 1920 := by
  by_cases e : n.natAbs = 0
  · rw [e]
    decide +kernel
  · exact (Nat.log2_lt e).mpr (Nat.lt_of_le_of_lt (show n.natAbs ≤ 400 by omega) (by decide +kernel))
/-- rest_text(rule), leave_text(rule), str(rule) -/
def spRestT (C : Addr) : Sp := fun vs H Q _ => ∃ (x dx : Addr) (fs : List (Str × V)) (r m : Int), vs = [.ref x] ∧ H x = some (.ins C dx fs) ∧ fs.lookup ("rest" : Str) = some (V.int r) ∧ fs.lookup ("modulus" : Str) = some (V.int m) ∧ 0 ≤ r ∧ r ≤ 400 ∧ 0 ≤ m ∧ m ≤ 400 ∧ Q (.str (restT r m)) H
def spLeaveT (C : Addr) : Sp := fun vs H Q _ => ∃ (x dx : Addr) (fs : List (Str × V)) (l : Int), vs = [.ref x] ∧ H x = some (.ins C dx fs) ∧ fs.lookup ("leave" : Str) = some (V.int l) ∧ 0 ≤ l ∧ l ≤ 400 ∧ Q (.str (leaveT l)) H
def spStrF (CF CD : Addr) : Sp := fun vs H Q _ => ∃ (x : Addr) (s r m l : Int), vs = [.ref x] ∧ RuleAt CF CD H x (.fixed s r m l) ∧ (RD.fixed s r m l).Wf ∧ Q (.str (RD.fixed s r m l).text) H
def spStrD (CF CD : Addr) : Sp := fun vs H Q _ => ∃ (x : Addr) (t r m : Int), vs = [.ref x] ∧ RuleAt CF CD H x (.down t r m) ∧ (RD.down t r m).Wf ∧ Q (.str (RD.down t r m).text) H
/-- rule.leaving(v) -/
def spLeaving (CB CF CD : Addr) : Sp := fun vs H Q E => ∃ (x : Addr) (s r m l : Int) (v : V), vs = [.ref x, v] ∧ RuleAt CF CD H x (.fixed s r m l) ∧ (RD.fixed s r m l).Wf ∧ Kd H v ∧ (∀ z H', dueF (.int s) (.int r) (.int m) v = some z → Same H H' → Bad CB E H' z) ∧
  (∀ H' x', dueF (.int s) (.int r) (.int m) v = none → Same H H' → RuleAt CF CD H' x' (.fixed s r m (toI v)) → Q (.ref x') H')
end Fz

set_option Elab.async false
set_option linter.all false
set_option maxRecDepth 100000
set_option maxHeartbeats 2000000
/-! Own layer, twelfth part: what stays but for the pen and the tables; texts of truths; tuples of rules compared. -/
namespace Fz
open PySem PySem.Spec PyProof.Rows L2
/-- all but the pen at p and the tables of code objects is as it was -/
def MvN (p : Addr) (H H' : Hp) : Prop := ∀ b o, b ≠ p → H b = some o → (∀ ps, o ≠ .tbl ps) → H' b = some o
theorem MvN.refl (p : Addr) (H : Hp) : MvN p H H := fun _ _ _ z _ => z
theorem MvN.trans {p : Addr} {H H1 H2 : Hp} (a : MvN p H H1) (b : MvN p H1 H2) : MvN p H H2 := fun c o n z t => b c o n (a c o n z t) t
theorem Mv.toN {p : Addr} {H H' : Hp} (m : Mv p H H') : MvN p H H' := fun b o n z _ => m b o n z
theorem ext_mvN {p : Addr} {H H' : Hp} (m : LamX.ExtN H H') : MvN p H H' := fun b o _ z t => m b o z t
theorem Same.toN {p : Addr} {H H' : Hp} (m : Same H H') : MvN p H H' := fun b o _ z _ => m b o z
theorem RuleAt.mvN {CF CD : Addr} {H H' : Hp} {p x : Addr} {d : RD} {n : Nat} {q : Addr} (h : RuleAt CF CD H x d) (pen : PenAt n H p q) (s : MvN p H H') : RuleAt CF CD H' x d := by
  obtain ⟨dx, z⟩ := h
  obtain ⟨xs, hp⟩ := pen.lst
  exact ⟨dx, s _ _ (fun e => by rw [e, hp] at z; cases z) z (fun _ z => nomatch z)⟩
theorem tup_mvN {H H' : Hp} {p t : Addr} {xs : List V} {n : Nat} {q : Addr} (h : H t = some (.tup xs)) (pen : PenAt n H p q) (s : MvN p H H') : H' t = some (.tup xs) := by
  obtain ⟨ys, hp⟩ := pen.lst
  exact s _ _ (fun e => by rw [e, hp] at h; cases h) h (fun _ z => nomatch z)
theorem un_mv {H H' : Hp} {p l : Addr} (m : Mv p H H') (n : l ≠ p) (h : H' l = none) : H l = none := by
  cases e : H l with
  | none => rfl
  | some o => rw [m l o n e] at h; cases h
/-! ### truths -/
theorem dp_bools {K : PySem.W.Frag} {H : Hp} : ∀ bs : List Bool, DpAll K H (bs.map V.bl) (bs.map PyData.bool)
  | [] => .nil
  | b :: bs => .cons (.bl b) (dp_bools bs)
theorem shownAll_bools : ∀ bs : List Bool, PyData.shownAll (bs.map PyData.bool) = bs.map fun b => PyData.shown (.bool b)
  | [] => by simp only [List.map_nil, PyData.shownAll]
  | b :: bs => by
    have ih := shownAll_bools bs
    simp only [List.map_cons, PyData.shownAll, ih]
theorem showable_bools : ∀ bs : List Bool, PyData.showableAll (bs.map PyData.bool) = true
  | [] => by simp only [List.map_nil, PyData.showableAll]
  | b :: bs => by
    have ih := showable_bools bs
    simp only [List.map_cons, PyData.showableAll, PyData.showable, ih, Bool.and_self]
theorem noDict_bools : ∀ bs : List Bool, PyData.hasDictAll (bs.map PyData.bool) = false
  | [] => by simp only [List.map_nil, PyData.hasDictAll]
  | b :: bs => by
    have ih := noDict_bools bs
    simp only [List.map_cons, PyData.hasDictAll, PyData.hasDict, ih, Bool.or_self]
theorem depth_bools : ∀ bs : List Bool, PyData.depthAll (bs.map PyData.bool) ≤ 1
  | [] => by simp only [List.map_nil, PyData.depthAll]; omega
  | b :: bs => by
    have ih := depth_bools bs
    simp only [List.map_cons, PyData.depthAll, PyData.depth]
    omega
theorem lay_bools : ∀ bs : List Bool, PyData.canLayAll0 (bs.map PyData.bool) = true
  | [] => by simp only [List.map_nil, PyData.canLayAll0]
  | b :: bs => by
    have ih := lay_bools bs
    simp only [List.map_cons, PyData.canLayAll0, PyData.canLay0, ih, Bool.and_self]
theorem shaped_bools (bs : List Bool) : SeqAt.shaped (.list (bs.map PyData.bool)) = true := by
  have h1 := depth_bools bs
  have h2 : PyData.depth (.list (bs.map PyData.bool)) ≤ 64 := by
    simp only [PyData.depth]
    omega
  show (PyData.canLay0 (.list (bs.map PyData.bool)) && decide (PyData.depth (.list (bs.map PyData.bool)) ≤ 64)) = true
  rw [Bool.and_eq_true]
  exact ⟨by simp only [PyData.canLay0]; exact lay_bools bs, decide_eq_true h2⟩
theorem text_from {ts : List Str} {m : Nat} (h : ∀ t ∈ ts, t.length ≤ m) (few : ts.length * (m + 2) ≤ 1000000) : (listText ts).length ≤ sizeLine := by
  have z := textFrom_most m ts 0 "[" h
  have z1 : (Str.ofString "[").length = 1 := by decide +kernel
  have z2 : (Str.ofString "]").length = 1 := by decide +kernel
  have z3 : (textFrom 0 "[" ts).length ≤ 1 + ts.length * (m + 2) := by
    rw [← z1]
    exact z
  show (textFrom 0 "[" ts ++ Str.ofString "]").length ≤ sizeLine
  rw [strLen_append]
  show _ ≤ 16777216
  omega
theorem rep_bools {K : PySem.W.Frag} {H : Hp} {Q : VK} {l : Addr} {bs : List Bool} (hl : H l = some (.lst (bs.map V.bl))) (few : bs.length ≤ 1000) (fin : Q (.str (PyData.shown (.list (bs.map PyData.bool)))) H) : rRepD K [.ref l] H Q := by
  refine ⟨⟨l, _, rfl, Dp.lst (SqL.of hl) (dp_bools bs), ?_, ?_, ?_, ?_, fin⟩⟩
  · rw [PyData.showable]
    exact showable_bools bs
  · rw [PyData.hasDict]
    exact noDict_bools bs
  · have z := depth_bools bs
    rw [PyData.depth]
    omega
  · rw [PyData.shown, shownAll_bools]
    refine text_from (m := 5) (fun t ht => ?_) (by rw [List.length_map]; omega)
    obtain ⟨b, _, rfl⟩ := List.mem_map.mp ht
    cases b
    · show (Str.ofString "False").length ≤ 5
      decide +kernel
    · show (Str.ofString "True").length ≤ 5
      decide +kernel
/-! ### a law's tuples of rules -/
def RD.dat (d : RD) : PyData := .tuple [.str d.kind, .int d.num, .int d.rest, .int d.mod, .int d.leave]
theorem dp_rd {K : PySem.W.Frag} {H : Hp} {a : Addr} {d : RD} (h : H a = some (.tup d.tup)) : Dp K H (.ref a) d.dat := Dp.tup (SqT.of h) (.cons (.str _) (.cons (.int _) (.cons (.int _) (.cons (.int _) (.cons (.int _) .nil)))))
theorem shaped_rd (d : RD) : SeqAt.shaped d.dat = true := by
  have k : PyData.strOk d.kind = true := by
    cases d
    · show PyData.strOk ("fixed" : Str) = true
      decide +kernel
    · show PyData.strOk ("down" : Str) = true
      decide +kernel
  show (PyData.canLay0 d.dat && decide (PyData.depth d.dat ≤ 64)) = true
  have l : PyData.canLay0 d.dat = true := by
    show PyData.canLay0 (.tuple [.str d.kind, .int d.num, .int d.rest, .int d.mod, .int d.leave]) = true
    simp only [PyData.canLay0, PyData.canLayAll0, k, Bool.and_self]
  have p : PyData.depth d.dat ≤ 64 := by
    show PyData.depth (.tuple [.str d.kind, .int d.num, .int d.rest, .int d.mod, .int d.leave]) ≤ 64
    simp only [PyData.depth, PyData.depthAll]
    decide
  rw [l, decide_eq_true p]
  rfl
theorem eqv_rd (d e : RD) : PyData.eqv d.dat e.dat = decide (d = e) := by
  have key : PyData.eqv d.dat e.dat = ((d.kind == e.kind) && ((d.num == e.num) && ((d.rest == e.rest) && ((d.mod == e.mod) && ((d.leave == e.leave) && true))))) := by
    show PyData.eqv (.tuple [.str d.kind, .int d.num, .int d.rest, .int d.mod, .int d.leave]) (.tuple [.str e.kind, .int e.num, .int e.rest, .int e.mod, .int e.leave]) = _
    simp only [PyData.eqv, PyData.eqvAll]
  rw [key]
  have kf : (("fixed" : Str) == ("down" : Str)) = false := by decide +kernel
  have kf2 : (("down" : Str) == ("fixed" : Str)) = false := by decide +kernel
  cases d with
  | fixed s r m l =>
    cases e with
    | fixed s' r' m' l' =>
      have k : ((RD.fixed s r m l).kind == (RD.fixed s' r' m' l').kind) = true := by
        show (("fixed" : Str) == ("fixed" : Str)) = true
        decide +kernel
      rw [k]
      simp only [RD.num, RD.rest, RD.mod, RD.leave, Bool.true_and, Bool.and_true]
      by_cases h : RD.fixed s r m l = RD.fixed s' r' m' l'
      · cases h
        simp
      · rw [decide_eq_false h]
        refine Bool.eq_false_iff.mpr fun z => h ?_
        simp only [Bool.and_eq_true, beq_iff_eq] at z
        obtain ⟨z1, z2, z3, z4⟩ := z
        rw [z1, z2, z3, z4]
    | down t' r' m' =>
      have k : ((RD.fixed s r m l).kind == (RD.down t' r' m').kind) = false := kf
      rw [k, decide_eq_false (fun z => nomatch z)]
      rfl
  | down t r m =>
    cases e with
    | fixed s' r' m' l' =>
      have k : ((RD.down t r m).kind == (RD.fixed s' r' m' l').kind) = false := kf2
      rw [k, decide_eq_false (fun z => nomatch z)]
      rfl
    | down t' r' m' =>
      have k : ((RD.down t r m).kind == (RD.down t' r' m').kind) = true := by
        show (("down" : Str) == ("down" : Str)) = true
        decide +kernel
      rw [k]
      simp only [RD.num, RD.rest, RD.mod, RD.leave, Bool.true_and, Bool.and_true, beq_self_eq_true]
      by_cases h : RD.down t r m = RD.down t' r' m'
      · cases h
        simp
      · rw [decide_eq_false h]
        refine Bool.eq_false_iff.mpr fun z => h ?_
        simp only [Bool.and_eq_true, beq_iff_eq] at z
        obtain ⟨z1, z2, z3⟩ := z
        rw [z1, z2, z3]
/-- what is heard of rule.leaving(v) -/
theorem leaving_heard {CF CD CB x : Addr} {H : Hp} {Q : VK} {s r m l : Int} {v : V} (hx : RuleAt CF CD H x (.fixed s r m l)) (wf : (RD.fixed s r m l).Wf) (kv : Kd H v)
    (hQ : ∀ H' v', Same H H' → Ans CF (dueF (.int s) (.int r) (.int m) v) (fun _ => (RD.fixed s r m (toI v)).fs) H' v' → Q v' H') : spLeaving CB CF CD [.ref x, v] H (heardNx Q) (heardEx CB Q) :=
  ⟨x, s, r, m, l, v, rfl, hx, wf, kv, fun z H' hz same d hd => ⟨rfl, d, .str z, rfl, upd_same, fun H'' a s2 at_ => hQ H'' _ (fun b o e => s2 b o (by rw [upd_ne (ne_of_none (same b o e) hd)]; exact same b o e)) (.inl ⟨z, a, hz, rfl, at_⟩)⟩,
    fun H' x' hz same hr H'' a s2 at2 => let ⟨dx, at_⟩ := hr; hQ H'' _ (fun b o e => s2 b o (same b o e)) (.inr ⟨a, x', dx, 0, hz, rfl, at2, s2 _ _ at_⟩)⟩
end Fz

set_option Elab.async false
set_option linter.all false
set_option maxRecDepth 100000
set_option maxHeartbeats 2000000
/-! Own layer: numbers as words, the words of rules, the first wrong word (pure). -/
namespace Fz
open PySem PySem.Spec PyProof.Rows L2 TL
/-! ### numbers as words -/
def nT (n : Nat) : Str := (toString ((n : Nat) : Int) : Str)
theorem num_facts : ∀ n : Nat, n < 401 → Txt.isascii (nT n) = true ∧ Txt.isdigit (nT n) = true ∧ (nT n).length = (if n < 10 then 1 else if n < 100 then 2 else 3) := by decide +kernel
theorem nT_reads {n : Nat} (h : n < 401) : PySem.intText? (nT n) = some (n : Int) := PySem.W.KIN.num_reads (by omega) (by omega)
theorem nT_inj {m n : Nat} (h : nT m = nT n) : m = n := by
  have e := congrArg tl h
  unfold nT at e
  rw [tl_num, tl_num] at e
  exact numL_inj e
theorem digit_ascii : ∀ c : Nat, c < 128 → Unicode.isDigit c = true → 48 ≤ c ∧ c ≤ 57 := by decide +kernel
theorem short_val : ∀ cs : List Nat, cs.length ≤ 3 → NumText.AllDigits cs → NumText.digitsVal cs ≤ 999
  | [], _, _ => by decide
  | [a], _, h => by
    have z := h a (by simp)
    show 0 * 10 + (a - 48) ≤ 999
    omega
  | [a, b], _, h => by
    have z := h a (by simp)
    have y := h b (by simp)
    show (0 * 10 + (a - 48)) * 10 + (b - 48) ≤ 999
    omega
  | [a, b, c], _, h => by
    have z := h a (by simp)
    have y := h b (by simp)
    have x := h c (by simp)
    show ((0 * 10 + (a - 48)) * 10 + (b - 48)) * 10 + (c - 48) ≤ 999
    omega
  | _ :: _ :: _ :: _ :: _, l, _ => by simp at l
theorem short_reads {z : Str} (l : z.length ≤ 3) (a : Txt.isascii z = true) (d : Txt.isdigit z = true) : ∃ n : Nat, PySem.intText? z = some (n : Int) ∧ n ≤ 999 := by
  have hl : z.cps.toList.length = z.length := Array.length_toList
  unfold Txt.isdigit at d
  rw [Bool.and_eq_true] at d
  have all : NumText.AllDigits z.cps.toList := fun c hc => by
    have a1 : c < 128 := by
      have q := (Array.all_eq_true_iff_forall_mem.mp a) c (by simpa using hc)
      exact of_decide_eq_true q
    exact digit_ascii c a1 ((Array.all_eq_true_iff_forall_mem.mp d.2) c (by simpa using hc))
  have ne : z.cps.toList ≠ [] := fun e => by
    have q : 0 < z.length := of_decide_eq_true d.1
    rw [e] at hl
    simp at hl
    omega
  exact ⟨_, intText_digits all ne (by omega), short_val _ (by omega) all⟩
/-- the number from lo to hi (at most 400) that a word is -/
def numOf (z : Str) (lo hi : Int) : Option Int := match (List.range 401).find? fun n => decide (nT n = z) with
  | some n => if lo ≤ (n : Int) ∧ (n : Int) ≤ hi then some (n : Int) else none
  | none => none
theorem find_nT {n : Nat} (h : n < 401) : ((List.range 401).find? fun k => decide (nT k = nT n)) = some n := by
  cases e : (List.range 401).find? fun k => decide (nT k = nT n) with
  | none =>
    have q := List.find?_eq_none.mp e n (List.mem_range.mpr h)
    simp at q
  | some m =>
    have q := List.find?_some e
    rw [nT_inj (of_decide_eq_true q)]
theorem numOf_nT {n : Nat} {lo hi : Int} (h : n < 401) : numOf (nT n) lo hi = if lo ≤ (n : Int) ∧ (n : Int) ≤ hi then some (n : Int) else none := by
  unfold numOf
  rw [find_nT h]
theorem numOf_some {z : Str} {lo hi i : Int} (h : numOf z lo hi = some i) : ∃ n : Nat, n < 401 ∧ i = n ∧ z = nT n ∧ lo ≤ i ∧ i ≤ hi := by
  unfold numOf at h
  cases e : (List.range 401).find? fun k => decide (nT k = z) with
  | none => rw [e] at h; cases h
  | some n =>
    rw [e] at h
    dsimp only at h
    have q : nT n = z := of_decide_eq_true (List.find?_some (p := fun k => decide (nT k = z)) e)
    have m := List.mem_range.mp (List.mem_of_find?_eq_some e)
    by_cases c : lo ≤ (n : Int) ∧ (n : Int) ≤ hi
    · rw [if_pos c] at h
      cases h
      exact ⟨n, m, rfl, q.symm, c.1, c.2⟩
    · rw [if_neg c] at h
      cases h
theorem numOf_none {z : Str} {lo hi : Int} (h : ∀ n : Nat, n < 401 → z = nT n → ¬ (lo ≤ (n : Int) ∧ (n : Int) ≤ hi)) : numOf z lo hi = none := by
  cases e : numOf z lo hi with
  | none => rfl
  | some i =>
    obtain ⟨n, hn, rfl, hz, a, b⟩ := numOf_some e
    exact absurd ⟨a, b⟩ (h n hn hz)
def iT (i : Int) : Str := (toString i : Str)
theorem iT_nat (n : Nat) : iT (n : Int) = nT n := rfl
theorem numOf_iT {i lo hi : Int} (h0 : 0 ≤ i) (h1 : i ≤ 400) (a : lo ≤ i) (b : i ≤ hi) : numOf (iT i) lo hi = some i := by
  obtain ⟨n, rfl⟩ := Int.eq_ofNat_of_zero_le h0
  rw [iT_nat, numOf_nT (by omega), if_pos ⟨a, b⟩]
theorem numOf_is {z : Str} {lo hi i : Int} (h : numOf z lo hi = some i) : z = iT i := by
  obtain ⟨n, _, rfl, hz, _⟩ := numOf_some h
  exact hz
/-- the law's look: the word is one of these -/
theorem numOf_mem {z : Str} {lo hi : Int} (h0 : 0 ≤ lo) (h1 : hi ≤ 400) : (numOf z lo hi).isSome = true ↔ ∃ i : Int, lo ≤ i ∧ i ≤ hi ∧ z = iT i := by
  constructor
  · intro h
    obtain ⟨i, e⟩ := Option.isSome_iff_exists.mp h
    obtain ⟨n, _, rfl, hz, a, b⟩ := numOf_some e
    exact ⟨_, a, b, hz⟩
  · rintro ⟨i, a, b, rfl⟩
    rw [numOf_iT (by omega) (by omega) a b]
    rfl
/-! ### words -/
def wFixed : Str := "fixed"
def wDown : Str := "down"
def wRest : Str := "rest"
def wOf : Str := "of"
def wLeave : Str := "leave"
inductive WSlot where
  | one (l : List Str)
  | num (lo hi : Int)
def fitsB (z : Str) : WSlot → Bool
  | .one l => decide (z ∈ l)
  | .num lo hi => (numOf z lo hi).isSome
def goW : List Str → List WSlot → Nat → Option Nat
  | [], [], _ => none
  | [], _ :: _, k => some k
  | _ :: _, [], k => some k
  | z :: zs, s :: sl, k => if fitsB z s = true then goW zs sl (k + 1) else some k
def lowN (z : Str) : Int := if z = wFixed then 1 else 0
/-- the least modulus behind a rest -/
def leastM (ws : List Str) : Int := match ws[3]? with
  | some z => match numOf z 0 5 with
    | some r => if r + 1 > 2 then r + 1 else 2
    | none => 2
  | none => 2
def headIs (ws : List Str) (z : Str) : Bool := decide (ws.take 1 = [z])
def tailSl (fixed : Bool) (t : List Str) : List WSlot := if fixed = true ∧ headIs t wLeave = true then [.one [wLeave], .num 1 400] else []
def slots1 (ws : List Str) : List WSlot := [.one [wFixed, wDown], .num (lowN (ws.headD Str.empty)) 400]
def slots2 (ws : List Str) : List WSlot := if headIs (ws.drop 2) wRest = true then slots1 ws ++ [.one [wRest], .num 0 5, .one [wOf], .num (leastM ws) 6] else slots1 ws
def slotsW (ws : List Str) : List WSlot := slots2 ws ++ tailSl (decide (ws.headD Str.empty = wFixed)) (ws.drop (slots2 ws).length)
def wrongW (ws : List Str) : Option Nat := goW ws (slotsW ws) 0
/-- the law's -/
def tailL (fixed : Bool) (t : List Str) (k : Nat) : Option Nat :=
  if fixed = true ∧ headIs t wLeave = true then (match t[1]? with
    | some z => if (numOf z 1 400).isSome = true then (if t.length > 2 then some (k + 2) else none) else some (k + 1)
    | none => some (k + 1))
  else if t.length > 0 then some k else none
def restL (fixed : Bool) (t : List Str) : Option Nat :=
  match t[1]? with
  | none => some 3
  | some z3 => match numOf z3 0 5 with
    | none => some 3
    | some r => if headIs (t.drop 2) wOf = true then (match t[3]? with
        | none => some 5
        | some z5 => if (numOf z5 (if r + 1 > 2 then r + 1 else 2) 6).isSome = true then tailL fixed (t.drop 4) 6 else some 5)
      else some 4
def wrongL (ws : List Str) : Option Nat :=
  match ws with
  | [] => some 0
  | z0 :: t => if z0 ∈ [wFixed, wDown] then (match t with
      | [] => some 1
      | z1 :: t1 => if (numOf z1 (lowN z0) 400).isSome = true then (if headIs t1 wRest = true then restL (decide (z0 = wFixed)) t1 else tailL (decide (z0 = wFixed)) t1 2) else some 1)
    else some 0
theorem headIs_cons {z y : Str} {t : List Str} : headIs (z :: t) y = decide (z = y) := by
  unfold headIs
  simp
theorem headIs_nil {y : Str} : headIs [] y = false := by
  unfold headIs
  simp
theorem tail_go (fixed : Bool) (t : List Str) (k : Nat) : goW t (tailSl fixed t) k = tailL fixed t k := by
  unfold tailSl tailL
  by_cases h : fixed = true ∧ headIs t wLeave = true
  · rw [if_pos h, if_pos h]
    match t with
    | [] => rw [headIs_nil] at h; exact absurd h.2 (by simp)
    | [z] =>
      rw [headIs_cons] at h
      simp [goW, fitsB, of_decide_eq_true h.2]
    | z :: y :: r =>
      rw [headIs_cons] at h
      have e : fitsB z (.one [wLeave]) = true := by simp [fitsB, of_decide_eq_true h.2]
      simp only [goW, e, if_true, List.getElem?_cons_succ, List.getElem?_cons_zero, List.length_cons]
      by_cases q : (numOf y 1 400).isSome = true
      · rw [if_pos (show fitsB y (.num 1 400) = true from q), if_pos q]
        cases r with
        | nil => rfl
        | cons c r => simp [goW]
      · rw [if_neg (show ¬ fitsB y (.num 1 400) = true from q), if_neg q]
  · rw [if_neg h, if_neg h]
    cases t with
    | nil => rfl
    | cons c r => simp [goW]
theorem wrong_eq {ws : List Str} (ne : ws ≠ []) : wrongW ws = wrongL ws := by
  match ws, ne with
  | [z0], _ =>
    by_cases h : z0 ∈ [wFixed, wDown]
    · simp [wrongW, slotsW, slots2, slots1, tailSl, headIs_nil, goW, fitsB, wrongL, h]
    · have h2 : fitsB z0 (.one [wFixed, wDown]) = false := decide_eq_false h
      have e : ∃ r, slotsW [z0] = .one [wFixed, wDown] :: r := by
        unfold slotsW slots2 slots1
        split <;> exact ⟨_, rfl⟩
      obtain ⟨r, e⟩ := e
      unfold wrongW wrongL
      dsimp only
      rw [e, if_neg h]
      simp [goW, h2]
  | z0 :: z1 :: t1, _ =>
    have low : lowN ((z0 :: z1 :: t1).headD Str.empty) = lowN z0 := rfl
    have hd : (z0 :: z1 :: t1).headD Str.empty = z0 := rfl
    by_cases h : z0 ∈ [wFixed, wDown]
    · have h2 : fitsB z0 (.one [wFixed, wDown]) = true := decide_eq_true h
      by_cases rr : headIs t1 wRest = true
      · have e2 : slots2 (z0 :: z1 :: t1) = [.one [wFixed, wDown], .num (lowN z0) 400, .one [wRest], .num 0 5, .one [wOf], .num (leastM (z0 :: z1 :: t1)) 6] := by
          unfold slots2
          rw [if_pos (show headIs ((z0 :: z1 :: t1).drop 2) wRest = true from rr)]
          rfl
        unfold wrongW slotsW wrongL
        dsimp only
        rw [e2, if_pos h]
        simp only [List.cons_append, List.nil_append, goW, h2, if_true, hd]
        by_cases n1 : (numOf z1 (lowN z0) 400).isSome = true
        · rw [if_pos (show fitsB z1 (.num (lowN z0) 400) = true from n1), if_pos n1, if_pos rr]
          match t1, rr with
          | [], rr => rw [headIs_nil] at rr; cases rr
          | [y2], rr =>
            rw [headIs_cons] at rr
            have e : fitsB y2 (.one [wRest]) = true := by simp [fitsB, of_decide_eq_true rr]
            simp [goW, e, restL]
          | y2 :: y3 :: t3, rr =>
            rw [headIs_cons] at rr
            have e : fitsB y2 (.one [wRest]) = true := by simp [fitsB, of_decide_eq_true rr]
            have lm : leastM (z0 :: z1 :: y2 :: y3 :: t3) = (match numOf y3 0 5 with
              | some r => if r + 1 > 2 then r + 1 else 2
              | none => 2) := rfl
            simp only [goW, e, if_true, restL, List.getElem?_cons_succ, List.getElem?_cons_zero, lm, List.drop_succ_cons, List.drop_zero]
            cases n3 : numOf y3 0 5 with
            | none =>
              have e3 : fitsB y3 (.num 0 5) = false := by show (numOf y3 0 5).isSome = _; rw [n3]; rfl
              simp [e3]
            | some r =>
              have e3 : fitsB y3 (.num 0 5) = true := by show (numOf y3 0 5).isSome = _; rw [n3]; rfl
              simp only [e3, if_true]
              match t3 with
              | [] => simp [goW, headIs_nil]
              | [y4] =>
                by_cases h4 : y4 = wOf
                · have e4 : fitsB y4 (.one [wOf]) = true := by simp [fitsB, h4]
                  simp [goW, e4, headIs_cons, h4, fitsB]
                · have e4 : fitsB y4 (.one [wOf]) = false := by simp [fitsB, h4]
                  simp [goW, e4, headIs_cons, h4, fitsB]
              | y4 :: y5 :: t5 =>
                by_cases h4 : y4 = wOf
                · have e4 : fitsB y4 (.one [wOf]) = true := by simp [fitsB, h4]
                  simp only [goW, e4, if_true, headIs_cons, h4, decide_true, List.getElem?_cons_succ, List.getElem?_cons_zero]
                  cases n5 : (numOf y5 (if r + 1 > 2 then r + 1 else 2) 6).isSome with
                  | false =>
                    have e5 : fitsB y5 (.num (if r + 1 > 2 then r + 1 else 2) 6) = false := n5
                    rw [e5]
                    rfl
                  | true =>
                    have e5 : fitsB y5 (.num (if r + 1 > 2 then r + 1 else 2) 6) = true := n5
                    rw [e5]
                    simp only [if_true]
                    exact tail_go _ _ _
                · have e4 : fitsB y4 (.one [wOf]) = false := by simp [fitsB, h4]
                  simp [goW, e4, headIs_cons, h4, fitsB]
        · rw [if_neg (show ¬ fitsB z1 (.num (lowN z0) 400) = true from n1), if_neg n1]
      · have e2 : slots2 (z0 :: z1 :: t1) = [.one [wFixed, wDown], .num (lowN z0) 400] := by
          unfold slots2
          rw [if_neg (show ¬ headIs ((z0 :: z1 :: t1).drop 2) wRest = true from rr)]
          rfl
        unfold wrongW slotsW wrongL
        dsimp only
        rw [e2, if_pos h]
        simp only [List.cons_append, List.nil_append, goW, h2, if_true, hd]
        by_cases n1 : (numOf z1 (lowN z0) 400).isSome = true
        · rw [if_pos (show fitsB z1 (.num (lowN z0) 400) = true from n1), if_pos n1, if_neg rr]
          exact tail_go _ _ _
        · rw [if_neg (show ¬ fitsB z1 (.num (lowN z0) 400) = true from n1), if_neg n1]
    · have h2 : fitsB z0 (.one [wFixed, wDown]) = false := decide_eq_false h
      have e : ∃ r, slotsW (z0 :: z1 :: t1) = .one [wFixed, wDown] :: r := by
        unfold slotsW slots2 slots1
        split <;> exact ⟨_, rfl⟩
      obtain ⟨r, e⟩ := e
      unfold wrongW wrongL
      dsimp only
      rw [e, if_neg h]
      simp [goW, h2]
/-! ### the words of a rule -/
def restW (r m : Int) : List Str := if m = 1 then [] else [wRest, iT r, wOf, iT m]
def leaveW (l : Int) : List Str := if l = 0 then [] else [wLeave, iT l]
def wordsOf : RD → List Str
  | .fixed s r m l => wFixed :: iT s :: (restW r m ++ leaveW l)
  | .down t r m => wDown :: iT t :: restW r m
theorem low_fixed : lowN wFixed = 1 := rfl
theorem low_down : lowN wDown = 0 := by decide +kernel
theorem fixed_ne : decide (wDown = wFixed) = false := by decide +kernel
theorem leave_rest : decide (wLeave = wRest) = false := by decide +kernel
theorem tail_leave {l : Int} (l0 : 0 ≤ l) (l1 : l ≤ 400) (k : Nat) : tailL true (leaveW l) k = none := by
  unfold leaveW tailL
  by_cases e : l = 0
  · rw [if_pos e, headIs_nil]
    rfl
  · rw [if_neg e, headIs_cons, decide_eq_true rfl]
    simp only [and_self, if_true, List.getElem?_cons_succ, List.getElem?_cons_zero]
    rw [numOf_iT l0 l1 (by omega) l1]
    rfl
theorem tail_down (k : Nat) : tailL false [] k = none := rfl
theorem rest_words {fixed : Bool} {r m : Int} {t : List Str} (r0 : 0 ≤ r) (r1 : r ≤ m - 1) (m0 : 1 ≤ m) (m1 : m ≤ 6) (ne : ¬ m = 1) : restL fixed (wRest :: iT r :: wOf :: iT m :: t) = tailL fixed t 6 := by
  unfold restL
  simp only [List.getElem?_cons_succ, List.getElem?_cons_zero, List.drop_succ_cons, List.drop_zero]
  rw [numOf_iT r0 (by omega) r0 (by omega)]
  simp only [headIs_cons, decide_true, if_true]
  rw [numOf_iT (by omega) (by omega) (by split <;> omega) m1]
  rfl
theorem wrong_words {d : RD} (wf : d.Wf) : wrongL (wordsOf d) = none := by
  have a := wf.n0; have b := wf.n1; have r0 := wf.r0; have r1 := wf.r1; have m0 := wf.m0; have m1 := wf.m1; have l0 := wf.l0; have l1 := wf.l1
  cases d with
  | fixed s r m l =>
    simp only [RD.isF, RD.num, RD.rest, RD.mod, RD.leave, if_true] at a b r0 r1 m0 m1 l0 l1
    unfold wrongL wordsOf
    simp only [List.mem_cons, true_or, if_true, low_fixed, decide_true]
    rw [numOf_iT (by omega) b a b]
    simp only [Option.isSome_some, if_true]
    unfold restW
    by_cases e : m = 1
    · rw [if_pos e, List.nil_append]
      have h : headIs (leaveW l) wRest = false := by
        unfold leaveW
        by_cases z : l = 0
        · rw [if_pos z, headIs_nil]
        · rw [if_neg z, headIs_cons, leave_rest]
      rw [h]
      exact tail_leave l0 l1 2
    · rw [if_neg e]
      simp only [List.cons_append, List.nil_append, headIs_cons, decide_true, if_true]
      rw [rest_words r0 r1 m0 m1 e]
      exact tail_leave l0 l1 6
  | down t r m =>
    simp only [RD.isF, RD.num, RD.rest, RD.mod, RD.leave, Bool.false_eq_true, if_false] at a b r0 r1 m0 m1 l0 l1
    unfold wrongL wordsOf
    simp only [List.mem_cons, true_or, or_true, if_true, low_down, fixed_ne]
    rw [numOf_iT (by omega) b a b]
    simp only [Option.isSome_some, if_true]
    unfold restW
    by_cases e : m = 1
    · rw [if_pos e, headIs_nil]
      rfl
    · rw [if_neg e]
      simp only [headIs_cons, decide_true, if_true]
      rw [rest_words r0 r1 m0 m1 e]
      rfl
theorem some_of {o : Option Int} (h : o.isSome = true) : ∃ i, o = some i := Option.isSome_iff_exists.mp h
/-- what is right is the words of a rule -/
theorem tail_is {fixed : Bool} {t : List Str} {k : Nat} (h : tailL fixed t k = none) : (t = [] ∨ (fixed = true ∧ ∃ l : Int, 1 ≤ l ∧ l ≤ 400 ∧ t = [wLeave, iT l])) := by
  unfold tailL at h
  by_cases c : fixed = true ∧ headIs t wLeave = true
  · rw [if_pos c] at h
    match t, c, h with
    | [], c, _ => rw [headIs_nil] at c; exact absurd c.2 (by simp)
    | [z], _, h => cases h
    | z :: y :: r, c, h =>
      rw [headIs_cons] at c
      simp only [List.getElem?_cons_succ, List.getElem?_cons_zero] at h
      cases e : numOf y 1 400 with
      | none => rw [e] at h; cases h
      | some l =>
        rw [e] at h
        simp only [Option.isSome_some, if_true] at h
        cases r with
        | cons c2 r => simp at h
        | nil =>
          obtain ⟨n, _, _, _, a, b⟩ := numOf_some e
          exact .inr ⟨c.1, l, a, b, by rw [of_decide_eq_true c.2, numOf_is e]⟩
  · rw [if_neg c] at h
    cases t with
    | nil => exact .inl rfl
    | cons z r => simp at h
theorem rest_is {fixed : Bool} {t : List Str} (h : restL fixed t = none) (hd : headIs t wRest = true) : ∃ (r m : Int) (t4 : List Str), 0 ≤ r ∧ r ≤ m - 1 ∧ 2 ≤ m ∧ m ≤ 6 ∧ t = wRest :: iT r :: wOf :: iT m :: t4 ∧ tailL fixed t4 6 = none := by
  unfold restL at h
  match t, hd, h with
  | [], hd, _ => rw [headIs_nil] at hd; cases hd
  | [z], _, h => cases h
  | z2 :: z3 :: t3, hd, h =>
    rw [headIs_cons] at hd
    simp only [List.getElem?_cons_succ, List.getElem?_cons_zero, List.drop_succ_cons, List.drop_zero] at h
    cases e3 : numOf z3 0 5 with
    | none => rw [e3] at h; cases h
    | some r =>
      rw [e3] at h
      simp only at h
      obtain ⟨_, _, _, _, ra, rb⟩ := numOf_some e3
      match t3, h with
      | [], h => rw [headIs_nil] at h; cases h
      | [z4], h =>
        rw [headIs_cons] at h
        by_cases h4 : z4 = wOf
        · rw [decide_eq_true h4] at h; cases h
        · rw [decide_eq_false h4] at h; cases h
      | z4 :: z5 :: t5, h =>
        rw [headIs_cons] at h
        by_cases h4 : z4 = wOf
        · rw [decide_eq_true h4] at h
          simp only [if_true, List.getElem?_cons_succ, List.getElem?_cons_zero] at h
          cases e5 : numOf z5 (if r + 1 > 2 then r + 1 else 2) 6 with
          | none => rw [e5] at h; cases h
          | some m =>
            rw [e5] at h
            simp only [Option.isSome_some, if_true] at h
            obtain ⟨_, _, _, _, ma, mb⟩ := numOf_some e5
            exact ⟨r, m, t5, ra, by split at ma <;> omega, by split at ma <;> omega, mb, by rw [of_decide_eq_true hd, h4, numOf_is e3, numOf_is e5], h⟩
        · rw [decide_eq_false h4] at h; cases h
theorem wrong_is {ws : List Str} (h : wrongL ws = none) : ∃ d : RD, d.Wf ∧ ws = wordsOf d := by
  unfold wrongL at h
  match ws, h with
  | [], h => cases h
  | z0 :: t, h =>
    by_cases h0 : z0 ∈ [wFixed, wDown]
    · simp only [if_pos h0] at h
      match t, h with
      | [], h => cases h
      | z1 :: t1, h =>
        cases e1 : numOf z1 (lowN z0) 400 with
        | none => simp only [e1] at h; cases h
        | some s =>
          simp only [e1, Option.isSome_some, if_true] at h
          obtain ⟨n, _, sn, _, sa, sb⟩ := numOf_some e1
          have s0 : 0 ≤ s := by omega
          rw [List.mem_cons, List.mem_singleton] at h0
          rcases h0 with rfl | rfl
          · rw [low_fixed] at sa
            simp only [decide_true] at h
            by_cases hr : headIs t1 wRest = true
            · rw [if_pos hr] at h
              obtain ⟨r, m, t4, r0, r1, m0, m1, rfl, tl4⟩ := rest_is h hr
              have em : ¬ m = 1 := by omega
              rcases tail_is tl4 with rfl | ⟨_, l, l0, l1, rfl⟩
              · exact ⟨.fixed s r m 0, ⟨sa, sb, r0, r1, by show 1 ≤ m; omega, m1, by show (0 : Int) ≤ 0; decide, by show (0 : Int) ≤ 400; decide⟩, by
                  unfold wordsOf restW leaveW
                  dsimp only
                  rw [if_neg em, if_pos rfl, numOf_is e1]
                  rfl⟩
              · exact ⟨.fixed s r m l, ⟨sa, sb, r0, r1, by show 1 ≤ m; omega, m1, by show 0 ≤ l; omega, l1⟩, by
                  unfold wordsOf restW leaveW
                  dsimp only
                  rw [if_neg em, if_neg (by omega), numOf_is e1]
                  rfl⟩
            · rw [if_neg hr] at h
              rcases tail_is h with rfl | ⟨_, l, l0, l1, rfl⟩
              · exact ⟨.fixed s 0 1 0, ⟨sa, sb, by show (0 : Int) ≤ 0; decide, by show (0 : Int) ≤ 1 - 1; decide, by show (1 : Int) ≤ 1; decide, by show (1 : Int) ≤ 6; decide, by show (0 : Int) ≤ 0; decide, by show (0 : Int) ≤ 400; decide⟩, by
                  unfold wordsOf restW leaveW
                  dsimp only
                  rw [if_pos rfl, if_pos rfl, numOf_is e1]
                  rfl⟩
              · exact ⟨.fixed s 0 1 l, ⟨sa, sb, by show (0 : Int) ≤ 0; decide, by show (0 : Int) ≤ 1 - 1; decide, by show (1 : Int) ≤ 1; decide, by show (1 : Int) ≤ 6; decide, by show 0 ≤ l; omega, l1⟩, by
                  unfold wordsOf restW leaveW
                  dsimp only
                  rw [if_pos rfl, if_neg (by omega), numOf_is e1]
                  rfl⟩
          · rw [low_down] at sa
            rw [fixed_ne] at h
            by_cases hr : headIs t1 wRest = true
            · rw [if_pos hr] at h
              obtain ⟨r, m, t4, r0, r1, m0, m1, rfl, tl4⟩ := rest_is h hr
              have em : ¬ m = 1 := by omega
              rcases tail_is tl4 with rfl | ⟨f, _⟩
              · exact ⟨.down s r m, ⟨sa, sb, r0, r1, by show 1 ≤ m; omega, m1, by show (0 : Int) ≤ 0; decide, by show (0 : Int) ≤ 400; decide⟩, by
                  unfold wordsOf restW
                  dsimp only
                  rw [if_neg em, numOf_is e1]⟩
              · cases f
            · rw [if_neg hr] at h
              rcases tail_is h with rfl | ⟨f, _⟩
              · exact ⟨.down s 0 1, ⟨sa, sb, by show (0 : Int) ≤ 0; decide, by show (0 : Int) ≤ 1 - 1; decide, by show (1 : Int) ≤ 1; decide, by show (1 : Int) ≤ 6; decide, by show (0 : Int) ≤ 0; decide, by show (0 : Int) ≤ 400; decide⟩, by
                  unfold wordsOf restW
                  dsimp only
                  rw [if_pos rfl, numOf_is e1]⟩
              · cases f
    · simp only [if_neg h0] at h
      cases h
/-! ### texts and their words -/
def sp1 : Str := " "
theorem tl_sp : tl sp1 = 32 :: [] := by decide +kernel
theorem sp_small : sp1.cps.all (· < 256) = true := by decide +kernel
theorem iT_tl {i : Int} (h0 : 0 ≤ i) : ∃ n : Nat, tl (iT i) = numL n := by
  obtain ⟨n, rfl⟩ := Int.eq_ofNat_of_zero_le h0
  exact ⟨n, tl_num n⟩
theorem iT_free {i : Int} (h0 : 0 ≤ i) : 32 ∉ tl (iT i) := by
  obtain ⟨n, e⟩ := iT_tl h0
  rw [e]
  exact numL_free (by omega)
theorem words_free {d : RD} (wf : d.Wf) : ∀ p ∈ wordsOf d, 32 ∉ tl p := by
  have a := wf.n0; have r0 := wf.r0; have m0 := wf.m0; have l0 := wf.l0
  have k0 : 32 ∉ tl wFixed := by decide +kernel
  have k1 : 32 ∉ tl wDown := by decide +kernel
  have k2 : 32 ∉ tl wRest := by decide +kernel
  have k3 : 32 ∉ tl wOf := by decide +kernel
  have k4 : 32 ∉ tl wLeave := by decide +kernel
  intro p hp
  cases d with
  | fixed s r m l =>
    simp only [RD.isF, RD.num, RD.rest, RD.mod, RD.leave, if_true] at a r0 m0 l0
    unfold wordsOf restW leaveW at hp
    simp only [List.mem_cons, List.mem_append] at hp
    rcases hp with rfl | rfl | hp | hp
    · exact k0
    · exact iT_free (by omega)
    · split at hp
      · cases hp
      · simp only [List.mem_cons, List.not_mem_nil, or_false] at hp
        rcases hp with rfl | rfl | rfl | rfl
        · exact k2
        · exact iT_free r0
        · exact k3
        · exact iT_free (by omega)
    · split at hp
      · cases hp
      · simp only [List.mem_cons, List.not_mem_nil, or_false] at hp
        rcases hp with rfl | rfl
        · exact k4
        · exact iT_free l0
  | down t r m =>
    simp only [RD.isF, RD.num, RD.rest, RD.mod, RD.leave, Bool.false_eq_true, if_false] at a r0 m0 l0
    unfold wordsOf restW at hp
    simp only [List.mem_cons] at hp
    rcases hp with rfl | rfl | hp
    · exact k1
    · exact iT_free (by omega)
    · split at hp
      · cases hp
      · simp only [List.mem_cons, List.not_mem_nil, or_false] at hp
        rcases hp with rfl | rfl | rfl | rfl
        · exact k2
        · exact iT_free r0
        · exact k3
        · exact iT_free (by omega)
theorem words_ne (d : RD) : wordsOf d ≠ [] := by
  cases d <;> exact List.cons_ne_nil _ _
theorem tl_rest1 : tl (Str.empty ++ (" rest " : Str)) = 32 :: (tl wRest ++ [32]) := by decide +kernel
theorem tl_of1 : tl (" of " : Str) = 32 :: (tl wOf ++ [32]) := by decide +kernel
theorem tl_leave1 : tl (Str.empty ++ (" leave " : Str)) = 32 :: (tl wLeave ++ [32]) := by decide +kernel
theorem tl_fixed1 : tl (Str.empty ++ ("fixed " : Str)) = tl wFixed ++ [32] := by decide +kernel
theorem tl_down1 : tl (Str.empty ++ ("down " : Str)) = tl wDown ++ [32] := by decide +kernel
theorem tl_none : tl ("" : Str) = [] := by decide +kernel
theorem tl_restT (r m : Int) : tl (restT r m) = (restW r m).flatMap fun p => 32 :: tl p := by
  unfold restT restW
  split
  · exact tl_none
  · rw [tl_append, tl_append, tl_append, tl_rest1, tl_of1]
    simp [iT]
theorem tl_leaveT (l : Int) : tl (leaveT l) = (leaveW l).flatMap fun p => 32 :: tl p := by
  unfold leaveT leaveW
  split
  · exact tl_none
  · rw [tl_append, tl_leave1]
    simp [iT]
theorem joinL_cons : ∀ (p : List Nat) (r : List Str), joinL [32] (p :: r.map tl) = p ++ r.flatMap fun q => 32 :: tl q
  | p, [] => by simp [joinL]
  | p, q :: r => by
    show p ++ ([32] ++ joinL [32] (tl q :: r.map tl)) = _
    rw [joinL_cons (tl q) r]
    simp
theorem join_words (d : RD) : Str.join sp1 (wordsOf d) = d.text := by
  apply ext_tl
  rw [tl_join, tl_sp]
  cases d with
  | fixed s r m l =>
    show joinL [32] (tl wFixed :: (iT s :: (restW r m ++ leaveW l)).map tl) = tl ((((Str.empty ++ ("fixed " : Str)) ++ (toString s : Str)) ++ restT r m) ++ leaveT l)
    rw [joinL_cons, tl_append, tl_append, tl_append, tl_fixed1, tl_restT, tl_leaveT]
    simp [iT, List.flatMap_append]
  | down t r m =>
    show joinL [32] (tl wDown :: (iT t :: restW r m).map tl) = tl (((Str.empty ++ ("down " : Str)) ++ (toString t : Str)) ++ restT r m)
    rw [joinL_cons, tl_append, tl_append, tl_down1, tl_restT]
    simp [iT]
theorem split_text {d : RD} (wf : d.Wf) : Txt.split d.text sp1 = wordsOf d := by
  rw [← join_words d, ← join_eq]
  exact split_join tl_sp sp_small (words_ne d) (words_free wf)
theorem text_of_split {z : Str} {d : RD} (h : Txt.split z sp1 = wordsOf d) : z = d.text := by
  rw [← join_words d, ← h]
  exact (StrLaws.join_split z sp1).symm
end Fz

set_option Elab.async false
set_option linter.all false
set_option maxRecDepth 100000
set_option maxHeartbeats 2000000
/-! Own layer, thirteenth part: a value of a built-in type == an instance: its own __eq__ answers. -/
namespace Fz
open PySem PySem.Spec PyProof.Rows L2
open PySem.AutoSeq1 (wpAny_loadPart')
open PySem.MeetsSeq PySem.SeqAt
section
variable {c : Value} {dd : Option Addr} {sl : Array (Option Value)}
theorem dec_bool (b : Bool) (l : Addr) (c : Value) (dd : Option Addr) (sl : Array (Option Value)) :
    Meets (Builtin.«int.__eq__» ⟨[.bool b, .ref l], []⟩) (fun _ R s => s.heap.get? l = some { cls := c, dict := dd, data := .plain, slots := sl } ∧ R (.ok (.ret .notImplemented)) s) := .of_wp fun prog w A R s h => by
  obtain ⟨hp, g, d, tk, os⟩ := s
  obtain ⟨hl, h⟩ := h
  wp_walk using wpAny_loadPart' hl, wpAny_load hl
  exact ⟨_, rfl, h⟩
theorem dec_int (b : Int) (u : Tok) (l : Addr) (c : Value) (dd : Option Addr) (sl : Array (Option Value)) :
    Meets (Builtin.«int.__eq__» ⟨[.int b u, .ref l], []⟩) (fun _ R s => s.heap.get? l = some { cls := c, dict := dd, data := .plain, slots := sl } ∧ R (.ok (.ret .notImplemented)) s) := .of_wp fun prog w A R s h => by
  obtain ⟨hp, g, d, tk, os⟩ := s
  obtain ⟨hl, h⟩ := h
  wp_walk using wpAny_loadPart' hl, wpAny_load hl
  exact ⟨_, rfl, h⟩
theorem dec_str (b : Str) (u : Tok) (l : Addr) (c : Value) (dd : Option Addr) (sl : Array (Option Value)) :
    Meets (Builtin.«str.__eq__» ⟨[.str b u, .ref l], []⟩) (fun _ R s => s.heap.get? l = some { cls := c, dict := dd, data := .plain, slots := sl } ∧ R (.ok (.ret .notImplemented)) s) := .of_wp fun prog w A R s h => by
  obtain ⟨hp, g, d, tk, os⟩ := s
  obtain ⟨hl, h⟩ := h
  wp_walk using wpAny_loadPart' hl, wpAny_load hl
  exact ⟨_, rfl, h⟩
end
section
variable {prog : Program} {w : World} {A : Around} {s : Shared} {K : PySem.W.Frag} {x C l : Addr} {ox : Obj} {od : Option Obj} {R : Result → Shared → Prop}
theorem not_inst {M : Model} {E : Value → Shared → Prop} {T : String} {Q : Bool → Shared → Prop} (X : K.In s.heap) (J : PySem.W.InstAt s.heap x ox C od) (sub : PySem.W.subIn K (.ref C) (.type T) = some false) (h : Q false s) : wpAny M A (isInstance (.ref x) (.type T)) Q E s := by
  unfold isInstance
  exact wpAny_bind (J.type.here ((PySem.W.looks_subIn X sub).here h))
theorem dec_list (X : K.In s.heap) (J : PySem.W.InstAt s.heap x ox C od) (sub : PySem.W.subIn K (.ref C) (.type "list") = some false) {items : Array Value} {n : Nat} (hl : s.heap.get? l = some { cls := .type "list", data := .seq items n }) (h : R (.ok (.ret .notImplemented)) s) :
    wpAny (model prog w) A.in1 (Builtin.«list.__eq__» ⟨[.ref l, .ref x], []⟩) (GQ.FinOf prog w A R) (fun e s' => R (.error e) s') s := by
  have no : ∀ {Q : Bool → Shared → Prop} {E : Value → Shared → Prop}, Q false s → wpAny (model prog w) A.in1 (isInstance (.ref x) (.type "list")) Q E s := fun q => not_inst X J sub q
  obtain ⟨hp, g, d, tk, os⟩ := s
  wp_walk using no
  exact h
theorem dec_tuple (X : K.In s.heap) (J : PySem.W.InstAt s.heap x ox C od) (sub : PySem.W.subIn K (.ref C) (.type "tuple") = some false) (h : R (.ok (.ret .notImplemented)) s) :
    wpAny (model prog w) A.in1 (Builtin.«tuple.__eq__» ⟨[.ref l, .ref x], []⟩) (GQ.FinOf prog w A R) (fun e s' => R (.error e) s') s := by
  have no : ∀ {Q : Bool → Shared → Prop} {E : Value → Shared → Prop}, Q false s → wpAny (model prog w) A.in1 (isInstance (.ref x) (.type "tuple")) Q E s := fun q => not_inst X J sub q
  obtain ⟨hp, g, d, tk, os⟩ := s
  wp_walk using no
  exact h
theorem dec_dict (X : K.In s.heap) (J : PySem.W.InstAt s.heap x ox C od) (sub : PySem.W.subIn K (.ref C) (.type "dict") = some false) (h : R (.ok (.ret .notImplemented)) s) :
    wpAny (model prog w) A.in1 (Builtin.«dict.__eq__» ⟨[.ref l, .ref x], []⟩) (GQ.FinOf prog w A R) (fun e s' => R (.error e) s') s := by
  have no : ∀ {Q : Bool → Shared → Prop} {E : Value → Shared → Prop}, Q false s → wpAny (model prog w) A.in1 (isInstance (.ref x) (.type "dict")) Q E s := fun q => not_inst X J sub q
  obtain ⟨hp, g, d, tk, os⟩ := s
  wp_walk using no
  exact h
end
/-! ### the reflected == -/
section
variable {prog : Program} {w : World} {A : Around} {E : Value → Shared → Prop} {s : Shared} {K : PySem.W.Frag} {x C f : Addr} {ox : Obj} {od : Option Obj} {u : Value} {T id : String}
theorem eq_back {Q : Value → Shared → Prop} (room : A.units < cLine) (X : K.In s.heap) (J : PySem.W.InstAt s.heap x ox C od) (hT : s.TypeIs u T) (sub : PySem.W.subIn K (.ref C) (.type T) = some false) (S : Slot T "__eq__" id)
    (dec : ∀ Q' : Value → Shared → Prop, Q' .notImplemented s → wpAny (model prog w) A (call (.builtin id) [u, .ref x]) Q' E s) (own : PySem.W.findIn K (.ref C) "__eq__" = some (some (.ref f))) (isF : PySem.W.isFn K (.ref f) = true)
    (called : wpAny (model prog w) A (call (.ref f) [.ref x, u]) (PySem.W.CmpBack Q) E s) : wpAny (model prog w) A (richCompare .Eq u (.ref x)) Q E s := by
  have one : wpAny (model prog w) A (tryCompare (.ref x) "__eq__" u) (fun r s' => ∃ v, r = some v ∧ Q v s') E s := by
    unfold tryCompare
    refine wpAny_bind (PySem.W.ifBound_K X J own isF (wpAny_mono called (fun v s' z => ?_) fun _ _ z => z))
    cases v <;> first
      | exact z.elim
      | exact wpAny_pure ⟨_, rfl, z⟩
  simp only [richCompare, cmpInfo_Eq, hT.oneThing_none]
  refine wpAny_holding <| wpAny_bind <| wpAny_cRoomFor room ?_
  refine wpAny_bind <| wpAny_typeOf hT <| wpAny_bind <| J.type.here ?_
  split
  · refine wpAny_bind <| (PySem.W.looks_subIn X sub).here ?_
    simp only [Bool.false_eq_true, if_false, Bool.not_false, if_true]
    refine wpAny_bind (m := tryCompare u _ (.ref x)) <| wpAny_tryCompare_declines hT S <| dec _ ⟨rfl, ?_⟩
    refine wpAny_bind (m := tryCompare (.ref x) _ u) <| wpAny_mono one (fun r s' z => ?_) fun _ _ z => z
    obtain ⟨v, rfl, q⟩ := z
    exact wpAny_pure q
  · rename_i q
    exact absurd (by simp) q
end
/-- the class at C is below no built-in type of these -/
structure NotB (K : PySem.W.Frag) (C : Addr) : Prop where
  non : PySem.W.subIn K (.ref C) (.type "NoneType") = some false
  bl : PySem.W.subIn K (.ref C) (.type "bool") = some false
  int : PySem.W.subIn K (.ref C) (.type "int") = some false
  str : PySem.W.subIn K (.ref C) (.type "str") = some false
  lst : PySem.W.subIn K (.ref C) (.type "list") = some false
  tup : PySem.W.subIn K (.ref C) (.type "tuple") = some false
  dct : PySem.W.subIn K (.ref C) (.type "dict") = some false
section
variable {X : Cx} {C f : Addr} {fd : FuncData} {ps : List Str} {sp : Sp} {k : Nat}
/-- v == x, x an instance of the class at C, v a value of a built-in type -/
def rEqBack (C : Addr) (sp : Sp) : R2 := fun v x H Q => ∃ (a dx : Addr) (fs : List (Str × V)), x = .ref a ∧ H a = some (.ins C dx fs) ∧ Kd H v ∧ sp [x, v] H Q E0
theorem op_eqBack (own : PySem.W.findIn X.K (.ref C) "__eq__" = some (some (.ref f))) (isF : PySem.W.isFn X.K (.ref f) = true) (nb : NotB X.K C) (Fd : FnOk X.prog X.w X.K X.mg X.base CX0 k f fd ps sp) (binds : L2.Binds X.K fd ps []) (room : Room k X.A) : OpR X (compareOp .Eq) (rEqBack C sp) := by
  intro pins s σ H v x uv ux Q I rv rx h
  obtain ⟨a, dx, fs, rfl, ha, kd, q⟩ := h
  cases (show ux = Value.ref a from rx)
  obtain ⟨mA, O, _⟩ := ins_get I.hok ha
  obtain ⟨od, J, _⟩ := O.look
  have plain : s.heap.get? a = some { cls := .ref C, dict := some dx, data := .plain } := O.obj
  show wpAny _ _ (richCompare .Eq uv (.ref a)) _ _ _
  have called : wpAny (model X.prog X.w) X.A (call (.ref f) [.ref a, uv]) (PySem.W.CmpBack (EP X pins σ Q)) X.xe s :=
    wpAny_mono (run_fn (us := [.ref a, uv]) (vs := [.ref a, v]) Fd room binds .nil pass0 I (.cons rfl (.cons rv .nil)) q) (fun w s' ⟨z', H', I', rz, qz⟩ => SlX.cmpback rz ⟨z', H', I', rz, qz⟩) fun _ _ z => z
  cases v with
  | non =>
    cases (show uv = Value.none from rv)
    exact eq_back (T := "NoneType") room.units0 I.kIn J rfl nb.non PySem.F.slot_NoneType_eq (fun Q' q' => call_gives PySem.F.slot_NoneType_eq rfl PySem.F.entry_NoneType_eq (PySem.F.args_NoneType_eq_2 _ _) (NoneType___eq___none_ref_0 a) q') own isF called
  | bl b =>
    cases (show uv = Value.bool b from rv)
    exact eq_back (T := "bool") room.units0 I.kIn J rfl nb.bl PySem.F.slot_bool_eq (fun Q' q' => call_meets PySem.F.slot_bool_eq rfl PySem.F.entry_int_eq (PySem.F.args_int_eq_2 _ _) (dec_bool b a _ _ _) ⟨plain, q'⟩) own isF called
  | int i =>
    obtain ⟨t, e⟩ := (show ∃ t, uv = Value.int i t from rv)
    cases e
    exact eq_back (T := "int") room.units0 I.kIn J (typeIs_int s i t) nb.int PySem.F.slot_int_eq (fun Q' q' => call_meets PySem.F.slot_int_eq (typeIs_int s i t) PySem.F.entry_int_eq (PySem.F.args_int_eq_2 _ _) (dec_int i t a _ _ _) ⟨plain, q'⟩) own isF called
  | str z =>
    obtain ⟨t, e⟩ := (show ∃ t, uv = Value.str z t from rv)
    cases e
    exact eq_back (T := "str") room.units0 I.kIn J (typeIs_str s z t) nb.str PySem.F.slot_str_eq (fun Q' q' => call_meets PySem.F.slot_str_eq (typeIs_str s z t) PySem.F.entry_str_eq (PySem.F.args_str_eq_2 _ _) (dec_str z t a _ _ _) ⟨plain, q'⟩) own isF called
  | ref l =>
    cases (show uv = Value.ref l from rv)
    rcases kd with ⟨xs, h⟩ | ⟨xs, h⟩ | ⟨kvs, h⟩
    · obtain ⟨_, _, _, o, h1, h2, _⟩ := (show ObjOk X.prog X.w H s.heap l (.tup xs) from I.hok l _ h)
      exact eq_back (T := "tuple") room.units0 I.kIn J ⟨o, h1, h2⟩ nb.tup PySem.F.slot_tuple_eq (fun Q' q' => GQ.call_here PySem.F.slot_tuple_eq ⟨o, h1, h2⟩ PySem.F.entry_tuple_eq (PySem.F.args_tuple_eq_2 _ _) (dec_tuple I.kIn J nb.tup q')) own isF called
    · obtain ⟨_, _, n, _, h1⟩ := (show ObjOk X.prog X.w H s.heap l (.lst xs) from I.hok l _ h)
      exact eq_back (T := "list") room.units0 I.kIn J ⟨_, h1, rfl⟩ nb.lst PySem.F.slot_list_eq (fun Q' q' => GQ.call_here PySem.F.slot_list_eq ⟨_, h1, rfl⟩ PySem.F.entry_list_eq (PySem.F.args_list_eq_2 _ _) (dec_list I.kIn J nb.lst h1 q')) own isF called
    · obtain ⟨_, _, vs, _, o, es, ep, h1, h2, _⟩ := (show ObjOk X.prog X.w H s.heap l (.dK kvs) from I.hok l _ h)
      exact eq_back (T := "dict") room.units0 I.kIn J ⟨o, h1, h2.1⟩ nb.dct PySem.F.slot_dict_eq (fun Q' q' => GQ.call_here PySem.F.slot_dict_eq ⟨o, h1, h2.1⟩ PySem.F.entry_dict_eq (PySem.F.args_dict_eq_2 _ _) (dec_dict I.kIn J nb.dct q')) own isF called
  | flt _ => exact kd.elim
  | byt _ => exact kd.elim
  | ty _ => exact kd.elim
end
/-! ### repr of any value of a built-in kind -/
/-- the data of a value: as Dp says, or the empty dict -/
def RepData (K : PySem.W.Frag) (H : Hp) (v : V) (d : PyData) : Prop := (Dp K H v d ∧ d.hasDict = false) ∨ ∃ a, v = .ref a ∧ H a = some (.dK []) ∧ d = .dict []
theorem RepData.same {K : PySem.W.Frag} {H H' : Hp} {v : V} {d : PyData} (h : RepData K H v d) (k : Dp K H v d → Dp K H' v d) (s : Same H H') : RepData K H' v d := by
  rcases h with ⟨h, n⟩ | ⟨a, e, h, z⟩
  · exact .inl ⟨k h, n⟩
  · exact .inr ⟨a, e, s _ _ h, z⟩
structure rRepA (K : PySem.W.Frag) (vs : List V) (H : Hp) (Q : VK) : Prop where
  ex : ∃ (v : V) (d : PyData), vs = [v] ∧ RepData K H v d ∧ d.showable = true ∧ d.depth ≤ 60 ∧ d.shown.length ≤ sizeLine ∧ Q (.str d.shown) H
theorem call_repA {X : Cx} (clear : X.A.guards = some []) (room : X.A.units + 64 < cLine) : CallR X (.builtin "repr") (rRepA X.K) := by
  intro pins s σ H vs us Q I rvs hyp
  obtain ⟨v, d, rfl, data, hshow, hdeep, hfit, fin⟩ := hyp.ex
  obtain ⟨u, rfl, ru⟩ := vals1 rvs
  rcases data with ⟨dp, no⟩ | ⟨a, rfl, ha, rfl⟩
  · cases dp with
    | non =>
      cases (show u = Value.none from ru)
      rw [PyData.shown] at fin
      exact PySem.P.repr_of_none ⟨.str _, H, I.tok _, ⟨_, rfl⟩, fin⟩
    | bl b =>
      cases (show u = Value.bool b from ru)
      rw [PyData.shown] at fin
      exact PySem.P.repr_of_bool ⟨.str _, H, I.tok _, ⟨_, by cases b <;> rfl⟩, fin⟩
    | int i =>
      obtain ⟨t, e⟩ := (show ∃ t, u = Value.int i t from ru)
      cases e
      rw [PyData.shown] at fin
      rw [PyData.showable] at hshow
      exact PySem.P.repr_of_int (of_decide_eq_true hshow) ⟨.str _, H, I.tok _, ⟨_, rfl⟩, fin⟩
    | str z =>
      obtain ⟨t, e⟩ := (show ∃ t, u = Value.str z t from ru)
      cases e
      rw [PyData.shown] at fin hfit
      exact PySem.P.repr_of_str ⟨.str _, H, I.tok _, ⟨_, rfl⟩, fin⟩ hfit
    | @lst a xs ds hs hall => exact call_repD clear room pins s σ H [.ref a] [u] Q I (.cons ru .nil) ⟨⟨a, _, rfl, Dp.lst hs hall, hshow, no, hdeep, hfit, fin⟩⟩
    | @tup a xs ds hs hall => exact call_repD clear room pins s σ H [.ref a] [u] Q I (.cons ru .nil) ⟨⟨a, _, rfl, Dp.tup hs hall, hshow, no, hdeep, hfit, fin⟩⟩
  · cases (show u = Value.ref a from ru)
    obtain ⟨_, sys, vs', kv, o, es, ep, h1, h2, h3, _, pairs, _⟩ := (show ObjOk X.prog X.w H s.heap a (.dK []) from I.hok a _ ha)
    cases kv
    have none_ : es.toList = [] := by cases h : es.toList with
      | nil => rfl
      | cons e r => rw [h] at pairs; cases pairs
    have reads : Reads s.heap (.ref a) (.dict []) (a :: [] ++ []) := Reads.dict h1 h2.1 h3 (by rw [none_]; exact .nil) (by rw [none_]; exact .nil)
    refine repr_of_reads' reads hshow (fun _ => ?_) clear (by omega) (fun _ _ same => same) (fun heap' tok toks kept => ⟨.str _, H, I.kept kept, ⟨_, rfl⟩, fin⟩) hfit
    intro m
    simp at m
    rw [← m] at sys
    simp at sys
end Fz

set_option Elab.async false
set_option linter.all false
set_option maxRecDepth 100000
set_option maxHeartbeats 2000000
/-! Own layer, fourteenth part: where rules stand; errors of one field; what is heard of a rule asked at a heap. -/
namespace Fz
open PySem PySem.Spec PyProof.Rows L2
/-! ### errors of one field -/
def spErrI (C : Addr) (f : Str) : Sp := fun vs H Q _ => ∃ (a : Addr) (v : V), vs = [.ref a, v] ∧ H a = some (exo a C none) ∧ ∀ d, H d = none → d ≠ a → Q .non (upd (upd H d (exd d [(f, v)])) a (exo a C (some d)))
def BadE (C : Addr) (f : Str) (v : V) (E : XK) (H : Hp) : Prop := ∀ d, H d = none → E (.ref C) (some d) (upd H d (.xd [(f, v)]))
theorem bade_made {C : Addr} {f : Str} {v : V} {E : XK} {W : WX} {σ : L2.St} {i : Nat} {H : Hp} (at_ : σ[i]? = some (some v)) (h : BadE C f v E H) (hW : ∀ cls d H', E cls d H' → W cls d σ H') : tMkO C (spErrI C f) [] (tCons (tVar i) tNil) σ H (fun cls d H' => W cls d σ H') := by
  refine ⟨v, at_, (show 1 ≤ 1000 by decide), fun a ha => ⟨a, v, rfl, upd_same, fun d hd ne => ⟨rfl, d, _, upd_same, by rw [upd_ne ne, upd_same], by rw [upd_ne ne] at hd; exact hd, ?_⟩⟩⟩
  have hd0 : H d = none := by rw [upd_ne ne] at hd; exact hd
  have e : upd (del (upd (upd (upd H a (exo a C none)) d (exd d [(f, v)])) a (exo a C (some d))) a) d (.xd [(f, v)]) = upd H d (.xd [(f, v)]) := by
    funext b
    by_cases hb : b = d
    · subst hb
      rw [upd_same, upd_same]
    · rw [upd_ne hb, upd_ne hb]
      by_cases hba : b = a
      · subst hba
        rw [del_same, ha]
      · rw [del_ne hba, upd_ne hba, upd_ne hb, upd_ne hba]
  show W (.ref C) (some d) σ (upd (del (upd (upd (upd H a (exo a C none)) d (exd d [(f, v)])) a (exo a C (some d))) a) d (.xd [(f, v)]))
  rw [e]
  exact hW _ _ _ (h d hd0)
/-- an error class of one field -/
structure PrgF (K : PySem.W.Frag) (mg : Str → Option Value) (x f : Str) (C g : Addr) : Prop where
  g_ : mg x = some (.ref C)
  oB : OexC K C
  nF : PySem.W.findIn K (.ref C) f = some none
  iB : PySem.W.findIn K (.ref C) "__init__" = some (some (.ref g))
  tB : PySem.W.typeIn K (.ref g) = some (.type "function")
/-! ### values and heaps -/
def great : Int := 1000000000000000000000000000000
/-- a value of a built-in kind, or a rule -/
def AnyV (CF CD : Addr) (H : Hp) (v : V) : Prop := Kd H v ∨ ∃ x d, v = .ref x ∧ RuleAt CF CD H x d
theorem AnyV.same {CF CD : Addr} {H H' : Hp} {v : V} (h : AnyV CF CD H v) (s : Same H H') : AnyV CF CD H' v := h.imp (fun k => k.same s) fun ⟨x, d, e, r⟩ => ⟨x, d, e, r.same s⟩
theorem AnyV.ext {CF CD : Addr} {H H' : Hp} {v : V} (h : AnyV CF CD H v) (s : LamX.ExtN H H') : AnyV CF CD H' v := h.imp (fun k => k.ext s) fun ⟨x, d, e, r⟩ => ⟨x, d, e, r.ext s⟩
/-- neither class of rules is below int or bool -/
structure NoInt (K : PySem.W.Frag) (CF CD : Addr) : Prop where
  fi : PySem.W.kitOne K (.ref CF) (.type "int") = some false
  fb : PySem.W.kitOne K (.ref CF) (.type "bool") = some false
  di : PySem.W.kitOne K (.ref CD) (.type "int") = some false
  db : PySem.W.kitOne K (.ref CD) (.type "bool") = some false
def IntTy (K : PySem.W.Frag) (H : Hp) (x : V) : Prop := ∃ t, TyX K H x t ∧ PySem.W.kitOne K t (.type "int") = some (isIntV x) ∧ PySem.W.kitOne K t (.type "bool") = some (isBlV x)
theorem AnyV.int {K : PySem.W.Frag} {CF CD : Addr} {H : Hp} {v : V} (P : PrgQ K CF CD) (N : NoInt K CF CD) (h : AnyV CF CD H v) : IntTy K H v := by
  rcases h with k | ⟨x, d, rfl, dx, r⟩
  · exact k.isInt
  · cases d with
    | fixed _ _ _ _ => exact ⟨_, P.tyF.ty P.icF.cl r, N.fi, N.fb⟩
    | down _ _ _ => exact ⟨_, P.tyD.ty P.icD.cl r, N.di, N.db⟩
def spNumX (K : PySem.W.Frag) : Sp := fun vs H Q _ => ∃ (x : V) (lo hi : Int), vs = [x, .int lo, .int hi] ∧ IntTy K H x ∧ Q (.bl (numV lo hi x)) H
def standsB (d : RD) (n : Int) : Bool := decide (d.start ≤ n) && decide (n % d.mod = d.rest)
def leftI : RD → Int → Int
  | .fixed s _ _ _, n => n - s
  | .down t _ _, _ => t
def takenI : RD → Int → Int
  | .fixed s _ _ _, _ => s
  | .down t _ _, n => n - t
/-- what a rule answers: a refusal of the heap, of the take, or a value -/
inductive Out where
  | size (v : V)
  | take (v : V)
  | val (u : V)
def Out.Then (CZ CN : Addr) (E : XK) (Q : VK) (H : Hp) : Out → Prop
  | .size v => BadE CZ "value" v E H
  | .take v => BadE CN "number" v E H
  | .val u => Q u H
def outSize (v : V) : Out := if numV 0 great v = true then .val .non else .size v
def outStands (d : RD) (v : V) : Out := match v with
  | .int n => if numV 0 great v = true then .val (.bl (standsB d n)) else .size v
  | v => .size v
def outIf (f : Int → Int) (d : RD) (v : V) : Out := match v with
  | .int n => if numV 0 great v = true then (if standsB d n = true then .val (.int (f n)) else .take v) else .size v
  | v => .size v
def outCheck (d : RD) (v : V) : Out := match v with
  | .int n => if numV 0 great v = true then (if standsB d n = true then .val .non else .take v) else .size v
  | v => .size v
def outLeft (d : RD) : V → Out := outIf (leftI d) d
def outTaken (d : RD) : V → Out := outIf (takenI d) d
def spAt (CZ CN CF CD : Addr) (b : Bool) (g : RD → V → Out) : Sp := fun vs H Q E => ∃ (x : Addr) (d : RD) (v : V), vs = [.ref x, v] ∧ RuleAt CF CD H x d ∧ d.Wf ∧ d.isF = b ∧ AnyV CF CD H v ∧ (g d v).Then CZ CN E Q H
def spSize (CZ CN CF CD : Addr) : Sp := fun vs H Q E => ∃ v : V, vs = [v] ∧ AnyV CF CD H v ∧ (outSize v).Then CZ CN E Q H
def spStands (CF CD : Addr) : Sp := fun vs H Q _ => ∃ (x : Addr) (d : RD) (n : Int), vs = [.ref x, .int n] ∧ RuleAt CF CD H x d ∧ d.Wf ∧ Q (.bl (standsB d n)) H
def spCheck (CZ CN CF CD : Addr) : Sp := fun vs H Q E => ∃ (x : Addr) (d : RD) (v : V), vs = [.ref x, v] ∧ RuleAt CF CD H x d ∧ d.Wf ∧ AnyV CF CD H v ∧ (outCheck d v).Then CZ CN E Q H
def spLeftFrom (CF CD : Addr) : Sp := fun vs H Q _ => ∃ (x : Addr) (s r m l n : Int), vs = [.ref x, .int n] ∧ RuleAt CF CD H x (.fixed s r m l) ∧ Q (.int (n - s)) H
/-! ### what is heard -/
abbrev heardEx2 (CZ CN : Addr) (Q : VK) : XK := fun cls d H' => (cls = .ref CZ ∧ ∃ (dd : Addr) (v : V), d = some dd ∧ H' dd = some (.xd [("value", v)]) ∧ ∀ H'' t, Same H' H'' → H'' t = some (.tup [.str "size", v]) → Q (.ref t) H'') ∨
  (cls = .ref CN ∧ ∃ (dd : Addr) (v : V), d = some dd ∧ H' dd = some (.xd [("number", v)]) ∧ ∀ H'' t, Same H' H'' → H'' t = some (.tup [.str "take", v]) → Q (.ref t) H'')
def TTs (CZ CN : Addr) : (XK → Hp → VK → Prop) → Hp → VK → Prop := fun tl H Q => ∀ H1, Same H H1 → tl (heardEx2 CZ CN Q) H1 (heardNx Q)
def Out.Ans (H : Hp) (y : V) : Out → Prop
  | .size v => ∃ a, y = .ref a ∧ H a = some (.tup [.str "size", v])
  | .take v => ∃ a, y = .ref a ∧ H a = some (.tup [.str "take", v])
  | .val u => ∃ a, y = .ref a ∧ H a = some (.lst [u])
theorem Out.Ans.ext {H H' : Hp} {y : V} {o : Out} (h : o.Ans H y) (s : LamX.ExtN H H') : o.Ans H' y := by
  cases o with
  | size v => exact h.imp fun _ ⟨e, z⟩ => ⟨e, s _ _ z (fun _ z => nomatch z)⟩
  | take v => exact h.imp fun _ ⟨e, z⟩ => ⟨e, s _ _ z (fun _ z => nomatch z)⟩
  | val v => exact h.imp fun _ ⟨e, z⟩ => ⟨e, s _ _ z (fun _ z => nomatch z)⟩
theorem heard_out {CZ CN : Addr} {H : Hp} {Q : VK} (o : Out) (hQ : ∀ H' y, Same H H' → o.Ans H' y → Q y H') : o.Then CZ CN (heardEx2 CZ CN Q) (heardNx Q) H := by
  have kept : ∀ {d : Addr} {u : HO} {H'' : Hp}, H d = none → Same (upd H d u) H'' → Same H H'' := fun hd s b o e => s b o (by rw [upd_ne (ne_of_none e hd)]; exact e)
  cases o with
  | size v => exact fun d hd => .inl ⟨rfl, d, v, rfl, upd_same, fun H'' t s at_ => hQ H'' _ (kept hd s) ⟨t, rfl, at_⟩⟩
  | take v => exact fun d hd => .inr ⟨rfl, d, v, rfl, upd_same, fun H'' t s at_ => hQ H'' _ (kept hd s) ⟨t, rfl, at_⟩⟩
  | val u => exact fun H'' l s at_ => hQ H'' _ s ⟨l, rfl, at_⟩
end Fz

set_option Elab.async false
set_option linter.all false
set_option maxRecDepth 100000
set_option maxHeartbeats 2000000
/-! Own layer, fifteenth part: short data and its text; a rule's methods of one heap, of either class. -/
namespace Fz
open PySem PySem.Spec PyProof.Rows L2
/-! ### short data -/
structure Small (d : PyData) : Prop where
  sh : d.showable = true
  nd : d.hasDict = false
  dp : d.depth ≤ 5
  ln : d.shown.length ≤ 1000
theorem great_log {n : Int} (h0 : 0 ≤ n) (h1 : n ≤ great) : n.natAbs.log2 < 1920 := by
  by_cases e : n.natAbs = 0
  · rw [e]
    decide +kernel
  · exact (Nat.log2_lt e).mpr (Nat.lt_of_le_of_lt (show n.natAbs ≤ 1000000000000000000000000000000 by unfold great at h1; omega) (by decide +kernel))
theorem great_len {n : Int} (h0 : 0 ≤ n) (h1 : n ≤ great) : (toString n : Str).length ≤ 31 := toString_length_le h0 (by decide) (show n < 10 ^ 31 by unfold great at h1; omega)
theorem small_int {n : Int} (h0 : 0 ≤ n) (h1 : n ≤ great) : Small (.int n) where
  sh := by rw [PyData.showable]; exact decide_eq_true (great_log h0 h1)
  nd := by rw [PyData.hasDict]
  dp := by rw [PyData.depth]; omega
  ln := by
    rw [PyData.shown]
    exact Nat.le_trans (great_len h0 h1) (by decide)
theorem small_len {d : PyData} (h : d.leavesShort 100 = true) (b : d.bulk ≤ 8) : d.shown.length ≤ 1000 := by
  have z := PyData.shown_le_bulk 100 (by decide) d h
  have z2 : 102 * d.bulk ≤ 102 * 8 := Nat.mul_le_mul_left _ b
  omega
theorem short_int {n : Int} (h0 : 0 ≤ n) (h1 : n ≤ great) : PyData.leavesShort 100 (.int n) = true := by
  rw [PyData.leavesShort]
  refine decide_eq_true ?_
  rw [PyData.shown]
  exact Nat.le_trans (great_len h0 h1) (by decide)
theorem small_one {n : Int} (h0 : 0 ≤ n) (h1 : n ≤ great) : Small (.list [.int n]) where
  sh := by simp only [PyData.showable, PyData.showableAll, decide_eq_true (great_log h0 h1), Bool.and_self]
  nd := by simp only [PyData.hasDict, PyData.hasDictAll, Bool.or_self]
  dp := by simp only [PyData.depth, PyData.depthAll]; decide
  ln := small_len (by simp only [PyData.leavesShort, PyData.leavesShortAll]; have z := short_int h0 h1; rw [PyData.leavesShort] at z; rw [z]; rfl) (by simp only [PyData.bulk, PyData.bulkAll]; decide)
theorem small_take {n : Int} (h0 : 0 ≤ n) (h1 : n ≤ great) : Small (.tuple [.str "take", .int n]) where
  sh := by simp only [PyData.showable, PyData.showableAll, decide_eq_true (great_log h0 h1), Bool.and_self]
  nd := by simp only [PyData.hasDict, PyData.hasDictAll, Bool.or_self]
  dp := by simp only [PyData.depth, PyData.depthAll]; decide
  ln := small_len (by
    have z := short_int h0 h1
    have y : PyData.leavesShort 100 (.str "take") = true := by decide +kernel
    simp only [PyData.leavesShort] at z y
    simp only [PyData.leavesShort, PyData.leavesShortAll]
    rw [z, y]
    rfl) (by simp only [PyData.bulk, PyData.bulkAll]; decide +kernel)
theorem smalls {ds : List PyData} (h : ∀ d ∈ ds, Small d) : PyData.showableAll ds = true ∧ PyData.hasDictAll ds = false ∧ PyData.depthAll ds ≤ 6 ∧ ∀ t ∈ PyData.shownAll ds, t.length ≤ 1000 := by
  induction ds with
  | nil =>
    simp only [PyData.showableAll, PyData.hasDictAll, PyData.depthAll, PyData.shownAll]
    exact ⟨trivial, trivial, by omega, fun t ht => nomatch ht⟩
  | cons d ds ih =>
    obtain ⟨a, b, c, e⟩ := ih fun x hx => h x (List.mem_cons_of_mem _ hx)
    have k := h d List.mem_cons_self
    have k3 := k.dp
    simp only [PyData.showableAll, PyData.hasDictAll, PyData.depthAll, PyData.shownAll, a, b, k.sh, k.nd, Bool.and_self, Bool.or_self]
    refine ⟨trivial, trivial, by omega, fun t ht => ?_⟩
    rcases List.mem_cons.mp ht with rfl | ht
    · exact k.ln
    · exact e t ht
theorem shownAll_len : ∀ ds : List PyData, (PyData.shownAll ds).length = ds.length
  | [] => by simp only [PyData.shownAll, List.length_nil]
  | d :: ds => by
    have ih := shownAll_len ds
    simp only [PyData.shownAll, List.length_cons, ih]
theorem rep_small {K : PySem.W.Frag} {H : Hp} {Q : VK} {l : Addr} {xs : List V} {ds : List PyData} (hl : H l = some (.lst xs)) (dp : DpAll K H xs ds) (h : ∀ d ∈ ds, Small d) (few : ds.length ≤ 900) (fin : Q (.str (PyData.shown (.list ds))) H) : rRepD K [.ref l] H Q := by
  obtain ⟨a, b, c, e⟩ := smalls h
  refine ⟨⟨l, _, rfl, Dp.lst (SqL.of hl) dp, ?_, ?_, ?_, ?_, fin⟩⟩
  · rw [PyData.showable]
    exact a
  · rw [PyData.hasDict]
    exact b
  · rw [PyData.depth]
    omega
  · rw [PyData.shown]
    refine text_from (m := 1000) e ?_
    rw [shownAll_len]
    omega
/-! ### a method of one heap -/
section
variable {P : Program} {w : World} {K : PySem.W.Frag} {mg : Str → Option Value} {base : Heap}
structure AtM (P : Program) (w : World) (K : PySem.W.Frag) (mg : Str → Option Value) (base : Heap) (CZ CN CF CD C : Addr) (b : Bool) (m : Str) (k : Nat) (g : RD → V → Out) (f : Addr) (fd : FuncData) : Prop where
  M : Meth K C m f
  G : FnOk P w K mg base (L2.CX P w) k f fd ["self", "n"] (spAt CZ CN CF CD b g)
  B : L2.Binds K fd ["self", "n"] []
  BK : KBn K fd ["self", "n"] 1 ["n"] (fun us ws => us ++ ws) (fun vs zs => vs ++ zs)
end
def tAt (CZ CN CF CD : Addr) (m : Str) (g : RD → V → Out) (i j : Nat) (E : XK) : TE := tEither (tMeth CF m (spAt CZ CN CF CD true g) [] E (tVar i) (tCons (tVar j) tNil)) (tMeth CD m (spAt CZ CN CF CD false g) [] E (tVar i) (tCons (tVar j) tNil))
def tAtK (CZ CN CF CD : Addr) (m : Str) (g : RD → V → Out) (i j : Nat) (E : XK) : TE := tEither (tMethK CF m (["n"] : List Str).length (spAt CZ CN CF CD true g) (fun vs zs => vs ++ zs) E (tVar i) (tCons (tVar j) tNil)) (tMethK CD m (["n"] : List Str).length (spAt CZ CN CF CD false g) (fun vs zs => vs ++ zs) E (tVar i) (tCons (tVar j) tNil))
section
variable {CZ CN CF CD x : Addr} {m : Str} {g : RD → V → Out} {i j : Nat} {E : XK} {σ : L2.St} {H : Hp} {Q : VK} {d : RD} {v : V} {TL : List (Addr × Str)}
theorem at_ok (no : ∀ d : RD, d.fs.lookup m = none) (vi : σ[i]? = some (some (.ref x))) (vj : σ[j]? = some (some v)) (hx : RuleAt CF CD H x d) (wf : d.Wf) (any : AnyV CF CD H v) (fin : (g d v).Then CZ CN E Q H) : tAt CZ CN CF CD m g i j E σ H Q := by
  obtain ⟨dx, ax⟩ := id hx
  have n := no d
  cases d with
  | fixed z r m l => exact .inl ⟨_, vi, x, dx, _, rfl, ax, n, _, vj, x, _, v, rfl, hx, wf, rfl, any, fin⟩
  | down t r m => exact .inr ⟨_, vi, x, dx, _, rfl, ax, n, _, vj, x, _, v, rfl, hx, wf, rfl, any, fin⟩
theorem atK_ok (no : ∀ d : RD, d.fs.lookup m = none) (vi : σ[i]? = some (some (.ref x))) (vj : σ[j]? = some (some v)) (hx : RuleAt CF CD H x d) (wf : d.Wf) (any : AnyV CF CD H v) (fin : (g d v).Then CZ CN E Q H) : tAtK CZ CN CF CD m g i j E σ H Q := by
  obtain ⟨dx, ax⟩ := id hx
  have n := no d
  cases d with
  | fixed z r m l => exact .inl ⟨_, vi, x, dx, _, rfl, ax, n, _, vj, rfl, x, _, v, rfl, hx, wf, rfl, any, fin⟩
  | down t r m => exact .inr ⟨_, vi, x, dx, _, rfl, ax, n, _, vj, rfl, x, _, v, rfl, hx, wf, rfl, any, fin⟩
theorem heard_at (no : ∀ d : RD, d.fs.lookup m = none) (tabs : LamX.Tabs TL H) (vi : σ[i]? = some (some (.ref x))) (vj : σ[j]? = some (some v)) (hx : RuleAt CF CD H x d) (wf : d.Wf) (any : AnyV CF CD H v) (hQ : ∀ H' y, LamX.ExtN H H' → LamX.Tabs TL H' → (g d v).Ans H' y → Q y H') : Box (LamX.tLam TL (TTs CZ CN) (tAt CZ CN CF CD m g i j)) σ H Q := by
  refine ⟨tabs, fun H3 e3 tabs3 H4 s4 => ?_⟩
  have ext4 := extN_same e3 s4
  exact at_ok no vi vj (hx.ext ext4) wf (any.ext ext4) (heard_out _ fun H5 y s5 ans => hQ H5 y (extN_same ext4 s5) (tabs3.ext fun b o e => s5 b o (s4 b o e)) ans)
theorem heard_atK (no : ∀ d : RD, d.fs.lookup m = none) (tabs : LamX.Tabs TL H) (vi : σ[i]? = some (some (.ref x))) (vj : σ[j]? = some (some v)) (hx : RuleAt CF CD H x d) (wf : d.Wf) (any : AnyV CF CD H v) (hQ : ∀ H' y, LamX.ExtN H H' → LamX.Tabs TL H' → (g d v).Ans H' y → Q y H') : Box (LamX.tLam TL (TTs CZ CN) (tAtK CZ CN CF CD m g i j)) σ H Q := by
  refine ⟨tabs, fun H3 e3 tabs3 H4 s4 => ?_⟩
  have ext4 := extN_same e3 s4
  exact atK_ok no vi vj (hx.ext ext4) wf (any.ext ext4) (heard_out _ fun H5 y s5 ans => hQ H5 y (extN_same ext4 s5) (tabs3.ext fun b o e => s5 b o (s4 b o e)) ans)
end
theorem noStandsAt (d : RD) : d.fs.lookup ("stands_at" : Str) = none := by cases d <;> rfl
theorem noLeftAt (d : RD) : d.fs.lookup ("left_at" : Str) = none := by cases d <;> rfl
theorem noTakenAt (d : RD) : d.fs.lookup ("taken_at" : Str) = none := by cases d <;> rfl
/-! ### answers gathered in a list -/
def Out.dat : Out → PyData
  | .take (.int n) => .tuple [.str "take", .int n]
  | .val (.int k) => .list [.int k]
  | _ => .none
def Out.Num : Out → Prop
  | .take (.int n) => 0 ≤ n ∧ n ≤ great
  | .val (.int k) => 0 ≤ k ∧ k ≤ great
  | _ => False
theorem Out.Num.small {o : Out} (h : o.Num) : Small o.dat := by
  cases o with
  | size v => exact h.elim
  | take v => cases v <;> first | exact h.elim | exact small_take h.1 h.2
  | val v => cases v <;> first | exact h.elim | exact small_one h.1 h.2
theorem Out.Num.dp {o : Out} (h : o.Num) {K : PySem.W.Frag} {H : Hp} {y : V} (a : o.Ans H y) : Dp K H y o.dat := by
  cases o with
  | size v => exact h.elim
  | take v =>
    obtain ⟨a, rfl, z⟩ := a
    cases v <;> first | exact h.elim | exact Dp.tup (SqT.of z) (.cons (.str _) (.cons (.int _) .nil))
  | val v =>
    obtain ⟨a, rfl, z⟩ := a
    cases v <;> first | exact h.elim | exact Dp.lst (SqL.of z) (.cons (.int _) .nil)
theorem Out.Ans.ref {H : Hp} {y : V} {o : Out} (h : o.Ans H y) : ∃ a, y = .ref a := by
  cases o <;> exact h.imp fun _ z => z.1
theorem Out.Ans.put {H : Hp} {y : V} {o : Out} (h : o.Ans H y) (n : ∀ u, o = .val u → ∀ b, u ≠ .ref b) {t b : Addr} {xs : List V} {u : HO} (ht : H t = some (.lst (.ref b :: xs))) : o.Ans (upd H t u) y := by
  cases o with
  | size v => exact h.imp fun a ⟨e, z⟩ => ⟨e, by rw [upd_ne (fun q => by rw [q, ht] at z; cases z)]; exact z⟩
  | take v => exact h.imp fun a ⟨e, z⟩ => ⟨e, by rw [upd_ne (fun q => by rw [q, ht] at z; cases z)]; exact z⟩
  | val v => exact h.imp fun a ⟨e, z⟩ => ⟨e, by
      rw [upd_ne (fun q => by
        rw [q, ht] at z
        exact n v rfl b (List.cons.inj (HO.lst.inj (Option.some.inj z))).1.symm)]
      exact z⟩
def Out.Plain (o : Out) : Prop := ∀ u, o = .val u → ∀ b, u ≠ .ref b
theorem Out.Num.plain {o : Out} (h : o.Num) : o.Plain := fun u e b q => by
  rw [e, q] at h
  exact h
inductive AnsAll (H : Hp) : List V → List Out → Prop
  | nil : AnsAll H [] []
  | cons {y ys o os} : o.Ans H y → AnsAll H ys os → AnsAll H (y :: ys) (o :: os)
theorem AnsAll.ext {H H' : Hp} {ys : List V} {os : List Out} (h : AnsAll H ys os) (s : LamX.ExtN H H') : AnsAll H' ys os := by
  induction h with
  | nil => exact .nil
  | cons a _ ih => exact .cons (a.ext s) ih
theorem AnsAll.put {H : Hp} {ys : List V} {os : List Out} (h : AnsAll H ys os) (n : ∀ o ∈ os, ∀ u, o = .val u → ∀ b, u ≠ .ref b) {t b : Addr} {xs : List V} {u : HO} (ht : H t = some (.lst (.ref b :: xs))) : AnsAll (upd H t u) ys os := by
  induction h with
  | nil => exact .nil
  | cons a _ ih => exact .cons (a.put (n _ List.mem_cons_self) ht) (ih fun o ho => n o (List.mem_cons_of_mem _ ho))
theorem AnsAll.app {H : Hp} {ys : List V} {os : List Out} {y : V} {o : Out} (h : AnsAll H ys os) (a : o.Ans H y) : AnsAll H (ys ++ [y]) (os ++ [o]) := by
  induction h with
  | nil => exact .cons a .nil
  | cons b _ ih => exact .cons b ih
theorem AnsAll.len {H : Hp} {ys : List V} {os : List Out} (h : AnsAll H ys os) : ys.length = os.length := by
  induction h with
  | nil => rfl
  | cons _ _ ih => exact congrArg Nat.succ ih
theorem AnsAll.dp {K : PySem.W.Frag} {H : Hp} {ys : List V} {os : List Out} (h : AnsAll H ys os) (n : ∀ o ∈ os, o.Num) : DpAll K H ys (os.map Out.dat) := by
  induction h with
  | nil => exact .nil
  | cons a _ ih => exact .cons ((n _ List.mem_cons_self).dp a) (ih fun o ho => n o (List.mem_cons_of_mem _ ho))
theorem AnsAll.all {H : Hp} {ys : List V} {os : List Out} {o : Out} (h : AnsAll H ys os) (n : ∀ u ∈ os, u = o) {y : V} (hy : y ∈ ys) : o.Ans H y := by
  induction h with
  | nil => cases hy
  | cons a _ ih =>
    rcases List.mem_cons.mp hy with rfl | hy
    · rw [n _ List.mem_cons_self] at a
      exact a
    · exact ih (fun u hu => n u (List.mem_cons_of_mem _ hu)) hy
/-- a list of answers at td, made behind H0 -/
structure ToldAt (TL : List (Addr × Str)) (H0 : Hp) (td : Addr) (os : List Out) (H : Hp) : Prop where
  ext : LamX.ExtN H0 H
  tabs : LamX.Tabs TL H
  new : ∀ b o, H0 b = some o → (∀ ps, o ≠ .tbl ps) → b ≠ td
  ys : ∃ (a : Addr) (ys : List V), H td = some (.lst (.ref a :: ys)) ∧ AnsAll H (.ref a :: ys) os
theorem ToldAt.first {TL : List (Addr × Str)} {H0 H : Hp} {td : Addr} {o : Out} {y : V} (e : LamX.ExtN H0 H) (t : LamX.Tabs TL H) (a : o.Ans H y) (un : H td = none) : ToldAt TL H0 td [o] (upd H td (.lst [y])) := by
  obtain ⟨b, rfl⟩ := a.ref
  have s := Same.new (o := .lst [V.ref b]) un
  exact ⟨extN_same e s, t.ext s, fun c o h n => ne_of_none (e c o h n) un, b, [], upd_same, .cons (a.ext (.of s)) .nil⟩
theorem ToldAt.app {TL : List (Addr × Str)} {H0 H H' : Hp} {td : Addr} {os : List Out} {o : Out} {y : V} (h : ToldAt TL H0 td os H) (n : ∀ o ∈ os, o.Plain) (k : o.Plain) (e : LamX.ExtN H H') (t : LamX.Tabs TL H') (a : o.Ans H' y) :
    ∃ ys, H' td = some (.lst ys) ∧ ys.length = os.length ∧ ToldAt TL H0 td (os ++ [o]) (upd H' td (.lst (ys ++ [y]))) := by
  obtain ⟨b, ys, ht, all⟩ := h.ys
  have ht' := e _ _ ht (fun _ z => nomatch z)
  have all' := all.ext e
  refine ⟨_, ht', all'.len, fun c u hc nt => ?_, tabs_mv ht' Mv.here t, h.new, b, ys ++ [y], upd_same, ?_⟩
  · rw [upd_ne (h.new c u hc nt)]
    exact e _ _ (h.ext _ _ hc nt) nt
  · exact (all'.put n ht').app (a.put k ht')
/-! ### values that are no heaps -/
def OddV (x : Addr) (H : Hp) (v : V) : Prop := v = .non ∨ v = .bl true ∨ v = .bl false ∨ v = .int (-1) ∨ v = .int (10 ^ 30 + 1) ∨ v = .int (10 ^ 39) ∨ v = .str "1" ∨ (∃ a, v = .ref a ∧ H a = some (.tup [.int 1])) ∨ (∃ a, v = .ref a ∧ H a = some (.lst [.int 0])) ∨ (∃ a, v = .ref a ∧ H a = some (.dK [])) ∨ v = .ref x
section
variable {K : PySem.W.Frag} {CF CD x : Addr} {H H' : Hp} {v : V} {d : RD}
theorem OddV.ext (h : OddV x H v) (s : LamX.ExtN H H') : OddV x H' v := by
  rcases h with h | h | h | h | h | h | h | ⟨a, e, z⟩ | ⟨a, e, z⟩ | ⟨a, e, z⟩ | h
  · exact .inl h
  · exact .inr (.inl h)
  · exact .inr (.inr (.inl h))
  · exact .inr (.inr (.inr (.inl h)))
  · exact .inr (.inr (.inr (.inr (.inl h))))
  · exact .inr (.inr (.inr (.inr (.inr (.inl h)))))
  · exact .inr (.inr (.inr (.inr (.inr (.inr (.inl h))))))
  · exact .inr (.inr (.inr (.inr (.inr (.inr (.inr (.inl ⟨a, e, s _ _ z (fun _ z => nomatch z)⟩)))))))
  · exact .inr (.inr (.inr (.inr (.inr (.inr (.inr (.inr (.inl ⟨a, e, s _ _ z (fun _ z => nomatch z)⟩))))))))
  · exact .inr (.inr (.inr (.inr (.inr (.inr (.inr (.inr (.inr (.inl ⟨a, e, s _ _ z (fun _ z => nomatch z)⟩)))))))))
  · exact .inr (.inr (.inr (.inr (.inr (.inr (.inr (.inr (.inr (.inr h)))))))))
/-- it is the rule itself, or a value of a built-in kind with a short text -/
theorem OddV.how (h : OddV x H v) : v = .ref x ∨ (Kd H v ∧ ∃ dat, RepData K H v dat ∧ dat.showable = true ∧ dat.depth ≤ 60 ∧ dat.shown.length ≤ sizeLine) := by
  rcases h with rfl | rfl | rfl | rfl | rfl | rfl | rfl | ⟨a, rfl, z⟩ | ⟨a, rfl, z⟩ | ⟨a, rfl, z⟩ | rfl
  · exact .inr ⟨True.intro, .none, .inl ⟨.non, by decide +kernel⟩, by decide +kernel, by decide +kernel, by decide +kernel⟩
  · exact .inr ⟨True.intro, .bool true, .inl ⟨.bl _, by decide +kernel⟩, by decide +kernel, by decide +kernel, by decide +kernel⟩
  · exact .inr ⟨True.intro, .bool false, .inl ⟨.bl _, by decide +kernel⟩, by decide +kernel, by decide +kernel, by decide +kernel⟩
  · exact .inr ⟨True.intro, .int (-1), .inl ⟨.int _, by decide +kernel⟩, by decide +kernel, by decide +kernel, by decide +kernel⟩
  · exact .inr ⟨True.intro, .int (10 ^ 30 + 1), .inl ⟨.int _, by decide +kernel⟩, by decide +kernel, by decide +kernel, by decide +kernel⟩
  · exact .inr ⟨True.intro, .int (10 ^ 39), .inl ⟨.int _, by decide +kernel⟩, by decide +kernel, by decide +kernel, by decide +kernel⟩
  · exact .inr ⟨True.intro, .str "1", .inl ⟨.str _, by decide +kernel⟩, by decide +kernel, by decide +kernel, by decide +kernel⟩
  · exact .inr ⟨.inl ⟨_, z⟩, .tuple [.int 1], .inl ⟨Dp.tup (SqT.of z) (.cons (.int _) .nil), by decide +kernel⟩, by decide +kernel, by decide +kernel, by decide +kernel⟩
  · exact .inr ⟨.inr (.inl ⟨_, z⟩), .list [.int 0], .inl ⟨Dp.lst (SqL.of z) (.cons (.int _) .nil), by decide +kernel⟩, by decide +kernel, by decide +kernel, by decide +kernel⟩
  · exact .inr ⟨.inr (.inr ⟨_, z⟩), .dict [], .inr ⟨a, rfl, z, rfl⟩, by decide +kernel, by decide +kernel, by decide +kernel⟩
  · exact .inl rfl
theorem OddV.any (h : OddV x H v) (hx : RuleAt CF CD H x d) : AnyV CF CD H v := by
  rcases h with rfl | rfl | rfl | rfl | rfl | rfl | rfl | ⟨a, rfl, z⟩ | ⟨a, rfl, z⟩ | ⟨a, rfl, z⟩ | rfl
  · exact .inl True.intro
  · exact .inl True.intro
  · exact .inl True.intro
  · exact .inl True.intro
  · exact .inl True.intro
  · exact .inl True.intro
  · exact .inl True.intro
  · exact .inl (.inl ⟨_, z⟩)
  · exact .inl (.inr (.inl ⟨_, z⟩))
  · exact .inl (.inr (.inr ⟨_, z⟩))
  · exact .inr ⟨_, d, rfl, hx⟩
theorem OddV.out (h : OddV x H v) (d : RD) : outStands d v = .size v ∧ outLeft d v = .size v ∧ outTaken d v = .size v := by
  rcases h with rfl | rfl | rfl | rfl | rfl | rfl | rfl | ⟨a, rfl, z⟩ | ⟨a, rfl, z⟩ | ⟨a, rfl, z⟩ | rfl <;> exact ⟨rfl, rfl, rfl⟩
theorem eqb_other {Q : VK} (P : PrgQ K CF CD) (hx : RuleAt CF CD H x d) (kd : Kd H v) (fin : Q (.bl false) H) : rEither (rEqBack CF (spEqR K CF)) (rEqBack CD (spEqR K CD)) v (.ref x) H Q := by
  obtain ⟨dx, ax⟩ := hx
  obtain ⟨n, l, ty, e, no⟩ := OtherV.same (K := K) kd (fun _ _ z => z)
  cases d with
  | fixed s r m l => exact .inl ⟨x, dx, _, rfl, ax, kd, x, dx, _, _, _, rfl, ax, fs_rank (.fixed s r m l), .inr ⟨_, ty, kit_other P.icF.cl.hd P.tF e (no CF), fin⟩⟩
  | down t r m => exact .inr ⟨x, dx, _, rfl, ax, kd, x, dx, _, _, _, rfl, ax, fs_rank (.down t r m), .inr ⟨_, ty, kit_other P.icD.cl.hd P.tD e (no CD), fin⟩⟩
end
/-! ### a test that is a conditional expression -/
section
variable {X : Cx} {a b c : Expr} {tA tB tC : L2.TT} {pos : Pos}
def tIfT (tA tB tC : L2.TT) : L2.TT := fun σ H Q => tA σ H fun d H1 => if d = true then tB σ H1 Q else tC σ H1 Q
theorem pt_ifT (hc : PT X c tA) (ha : PT X a tB) (hb : PT X b tC) : PT X (.IfExp c a b pos) (tIfT tA tB tC) := by
  refine ⟨fun pins s σ H Q I h => isTrue_IfExp (wpAny_mono (hc.run pins s σ H _ I h) (fun d s1 z => ?_) fun _ _ z => z)⟩
  obtain ⟨H1, I1, q1⟩ := z
  cases d with
  | true => exact ha.run pins s1 σ H1 Q I1 q1
  | false => exact hb.run pins s1 σ H1 Q I1 q1
end
end Fz

set_option Elab.async false
set_option linter.all false
set_option maxRecDepth 100000
set_option maxHeartbeats 2000000
/-! Own layer: a classmethod called by keywords; texts and their parts; an error of two fields; what reading promises. -/
namespace Fz
open PySem PySem.Spec PyProof.Rows L2 TL
section
variable {X : Cx} {CX : CXT} {k : Nat} {C p g : Addr} {mc : Value} {fd : FuncData} {ps ks : List Str} {sp : Sp} {E : XK} {o : Expr} {kws : List Keyword} {m : Str} {pos apos : Pos} {ta : TE} {tk : TA} {gg : List Value → List Value → List Value} {gV : List V → List V → List V}
/-- C.m(k = v, ..), m a classmethod -/
def tCMethK (C : Addr) (n : Nat) (sp : Sp) (gV : List V → List V → List V) (E : XK) (ta : TE) (tk : TA) : TE := fun σ H Q => ta σ H fun x H1 => x = .ref C ∧ tk σ H1 fun zs H2 => zs.length = n ∧ sp (gV [.ref C] zs) H2 Q E
theorem pe_cmethK0 {pl : Sem Bool} (he : PE X o ta) (r : ClX.CRead X.K C mc) (c : ClX.CMet X.K C mc m p g) (F : FnOk X.prog X.w X.K X.mg X.base CX k g fd ps sp) (room : Room k X.A) (binds : KBn X.K fd ps 1 ks gg gV) (pass : Passes CX X E) (hkw : PK X kws tk)
    (named : (backToKw pos (keywordEach kws X.env)).all (·.1.isSome) = true := by rfl) (names : (backToKw pos (keywordEach kws X.env)).filterMap (·.1) = ks := by rfl)
    (plain : ((backTo pos (starEach [] X.env)).any (·.1) || (backToKw pos (keywordEach kws X.env)).any (·.1.isNone)) = false := by rfl)
    (tree : eval (.Call (.Attribute o m apos) [] kws pos) X.env = (do
      let ov ← eval o X.env
      standAt apos.atName
      let (f, first) ← holding [ov] (getMethod ov m pl)
      callWith pos f first (backTo pos (starEach [] X.env)) (backToKw pos (keywordEach kws X.env))) := by rfl) :
    PE X (.Call (.Attribute o m apos) [] kws pos) (tCMethK C ks.length sp gV E ta tk) := by
  refine ⟨fun pins s σ H Q I h => PySem.W.methodCall_KW (pl := pl) (thn (he.run pins s σ H _ I h) fun u s1 ⟨x, H1, I1, rx, ex, q⟩ => ?_) tree⟩
  subst ex
  obtain rfl : u = Value.ref C := rx
  refine ClX.getmethcm_ok I1 r c fun s2 I2 => ?_
  refine PySem.W.callWith_of (P := PySem.W.MethP X.K s1.heap.objs.size g (.ref C)) plain (PySem.W.keeps_M c.fi) (evalArgs_kw2_nil named ?_)
  refine thn (hkw.run pos _ s2 σ H1 _ I2 q) fun ws s3 ⟨zs, H2, I3, rz, len, q2⟩ => ⟨⟨ClX.pin_at I3, I3.kIn⟩, ?_⟩
  rw [names]
  have z : wpAny (model X.prog X.w) X.A (call (.ref s1.heap.objs.size) ([] ++ []) (ks.zip ws)) (EP X ((s1.heap.objs.size, PySem.W.methodObj (.ref g) (.ref C)) :: pins) σ Q) X.xe s3 := by
    refine wpAny_call (PySem.W.method_call (ClX.pin_at I3) ?_)
    refine codeAny_mono (F.run X.A X.stack s3 H2 ⟨[.ref C], ks.zip ws⟩ (gg [.ref C] ws) (gV [.ref C] zs) Q E room I3.env0 (binds.to s3 [.ref C] ws I3.kIn rfl (rz.length.symm.trans len)) (binds.rel (.cons rfl .nil) rz) q2) fun res s' got => ?_
    match res, got with
    | .error err, got => exact pass _ σ H2 s3 err s' I3 got
    | .ok (.ret u), got => exact I3.after got
    | .ok .next, got => exact got.elim
    | .ok .brk, got => exact got.elim
    | .ok .cont, got => exact got.elim
  exact thn z fun _ _ y => ClX.unpinE y
end
/-! ### texts and their parts -/
theorem spl_ne (S : List Nat) : ∀ (l acc : List Nat) (k : Nat), spl S k acc l ≠ []
  | [], acc, k => by rw [spl_nil]; simp
  | c :: r, acc, 0 => by
    show (if pre S (c :: r) = true then acc :: spl S (S.length - 1) [] r else spl S 0 (acc ++ [c]) r) ≠ []
    split
    · simp
    · exact spl_ne S r _ 0
  | c :: r, acc, k + 1 => spl_ne S r acc k
theorem split_ne (z : Str) : Txt.split z sp1 ≠ [] := fun e => by
  have q := split_spl z sp1 (by rw [tl_sp]; simp) (kind_ok sp_small)
  rw [e] at q
  exact spl_ne _ _ _ _ q.symm
theorem joinL_mem (S : List Nat) : ∀ (ps : List (List Nat)), (∀ p ∈ ps, p.length ≤ (joinL S ps).length ∧ ∀ c ∈ p, c ∈ joinL S ps)
  | [], p, h => by cases h
  | [q], p, h => by
    rw [List.mem_singleton.mp h]
    exact ⟨Nat.le_refl _, fun _ z => z⟩
  | q :: r :: t, p, h => by
    show p.length ≤ (q ++ (S ++ joinL S (r :: t))).length ∧ ∀ c ∈ p, c ∈ q ++ (S ++ joinL S (r :: t))
    rw [List.length_append, List.length_append]
    rcases List.mem_cons.mp h with rfl | h
    · exact ⟨by omega, fun c hc => List.mem_append_left _ hc⟩
    · obtain ⟨a, b⟩ := joinL_mem S (r :: t) p h
      exact ⟨by omega, fun c hc => List.mem_append_right _ (List.mem_append_right _ (b c hc))⟩
/-- a short text of plain signs -/
structure Plain (n : Nat) (z : Str) : Prop where
  len : z.length ≤ n
  asc : ∀ c ∈ tl z, c < 128
theorem Plain.ok {n : Nat} {z : Str} (h : Plain n z) : PySem.PyData.strOk z = true := by
  unfold PySem.PyData.strOk
  rw [← Array.all_toList, List.all_eq_true]
  intro c hc
  have q := h.asc c hc
  exact decide_eq_true (by omega)
theorem Plain.part {n : Nat} {z : Str} (h : Plain n z) {p : Str} (hp : p ∈ Txt.split z sp1) : Plain n p := by
  have j := StrLaws.join_split z sp1
  have e := tl_join sp1 (Txt.split z sp1)
  rw [j] at e
  obtain ⟨a, b⟩ := joinL_mem (tl sp1) ((Txt.split z sp1).map tl) (tl p) (List.mem_map_of_mem hp)
  rw [← e] at a b
  have l1 := len_tl p
  have l2 := len_tl z
  exact ⟨by have := h.len; omega, fun c hc => h.asc c (b c hc)⟩
theorem Plain.parts {n : Nat} {z : Str} (h : Plain n z) : (Txt.split z sp1).length ≤ n + 2 := by
  have a := PyProof.Rows.split_le z sp1
  have b := h.len
  omega
/-- words of a list: each short and plain, not too many -/
structure WsOk (ws : List Str) : Prop where
  each : ∀ z ∈ ws, Plain 5000 z
  few : ws.length ≤ 6000
theorem Plain.ws {z : Str} (h : Plain 5000 z) : WsOk (Txt.split z sp1) := ⟨fun _ hp => h.part hp, by have := h.parts; omega⟩
/-- what the joined words are -/
theorem joinL_len (S : List Nat) (m : Nat) : ∀ (ps : List (List Nat)), (∀ p ∈ ps, p.length ≤ m) → (joinL S ps).length ≤ ps.length * (m + S.length)
  | [], _ => by simp [joinL]
  | [q], h => by
    have a := h q (by simp)
    show q.length ≤ 1 * (m + S.length)
    omega
  | q :: r :: t, h => by
    have a := h q (by simp)
    have b := joinL_len S m (r :: t) fun p hp => h p (List.mem_cons_of_mem _ hp)
    show (q ++ (S ++ joinL S (r :: t))).length ≤ (t.length + 1 + 1) * (m + S.length)
    rw [List.length_append, List.length_append]
    rw [List.length_cons] at b
    rw [Nat.add_mul (t.length + 1) 1]
    omega
theorem joinL_in (S : List Nat) : ∀ (ps : List (List Nat)) (c : Nat), c ∈ joinL S ps → c ∈ S ∨ ∃ p ∈ ps, c ∈ p
  | [], c, h => by cases h
  | [q], c, h => .inr ⟨q, by simp, h⟩
  | q :: r :: t, c, h => by
    rcases List.mem_append.mp (show c ∈ q ++ (S ++ joinL S (r :: t)) from h) with h | h
    · exact .inr ⟨q, by simp, h⟩
    · rcases List.mem_append.mp h with h | h
      · exact .inl h
      · rcases joinL_in S (r :: t) c h with h | ⟨p, hp, h⟩
        · exact .inl h
        · exact .inr ⟨p, List.mem_cons_of_mem _ hp, h⟩
theorem plain_join {ws : List Str} {n m : Nat} (h : ∀ z ∈ ws, Plain n z) (few : ws.length ≤ m) : Plain (m * (n + 1)) (Str.join sp1 ws) := by
  have e := tl_join sp1 ws
  have l := len_tl (Str.join sp1 ws)
  rw [tl_sp] at e
  refine ⟨?_, fun c hc => ?_⟩
  · have a := joinL_len [32] n (ws.map tl) fun p hp => by
      obtain ⟨z, hz, rfl⟩ := List.mem_map.mp hp
      have l1 := len_tl z
      have l2 := (h z hz).len
      omega
    rw [← e, List.length_map] at a
    have b : ws.length * (n + [32].length) ≤ m * (n + 1) := Nat.mul_le_mul_right _ few
    omega
  · rw [e] at hc
    rcases joinL_in _ _ _ hc with hc | ⟨p, hp, hc⟩
    · rw [List.mem_singleton.mp hc]
      decide
    · obtain ⟨z, hz, rfl⟩ := List.mem_map.mp hp
      exact (h z hz).asc c hc
/-! ### words in a heap -/
def WordsAt (H : Hp) (p : Addr) (ws : List Str) : Prop := H p = some (.lst (ws.map V.str))
theorem WordsAt.same {H H' : Hp} {p : Addr} {ws : List Str} (h : WordsAt H p ws) (s : Same H H') : WordsAt H' p ws := s _ _ h
def optI : Option Int → V
  | some i => .int i
  | none => .non
def optN : Option Nat → V
  | some i => .int (i : Int)
  | none => .non
theorem at_str {ws : List Str} {i : Nat} {z : Str} (h : ws[i]? = some z) : atI (ws.map V.str) (i : Int) = some (.str z) := by
  have l : i < ws.length := by
    rcases Nat.lt_or_ge i ws.length with q | q
    · exact q
    · rw [List.getElem?_eq_none q] at h
      cases h
  unfold atI ixN
  rw [if_pos (by omega), if_pos (by rw [List.length_map]; omega)]
  show (ws.map V.str)[(i : Int).toNat]? = _
  rw [Int.toNat_natCast, List.getElem?_map, h]
  rfl
/-- x[a:b] of a list of words -/
theorem cut_strs (ws : List Str) (a b : Nat) : cutV (ws.map V.str) (some (a : Int)) (some (b : Int)) = ((ws.drop a).take (b - a)).map V.str := by
  unfold cutV
  rw [HT.sIx_nat, HT.sIx_nat, List.length_map, ← List.map_drop, ← List.map_take]
  congr 1
  rcases Nat.le_total a ws.length with h | h
  · rw [Nat.min_eq_left h]
    rcases Nat.le_total b ws.length with h2 | h2
    · rw [Nat.min_eq_left h2]
    · rw [Nat.min_eq_right h2, List.take_of_length_le (by rw [List.length_drop]; omega), List.take_of_length_le (by rw [List.length_drop]; omega)]
  · rw [Nat.min_eq_right h, List.drop_length, List.drop_eq_nil_of_le h]
    simp
theorem dp_strs {K : PySem.W.Frag} {H : Hp} : ∀ ws : List Str, DpAll K H (ws.map V.str) (ws.map PyData.str)
  | [] => .nil
  | z :: r => .cons (.str z) (dp_strs r)
theorem lay_strs : ∀ {ws : List Str}, (∀ z ∈ ws, PySem.PyData.strOk z = true) → PyData.canLayAll0 (ws.map PyData.str) = true
  | [], _ => rfl
  | z :: r, h => by
    show (PyData.canLay0 (.str z) && PyData.canLayAll0 (r.map PyData.str)) = true
    rw [lay_strs fun y hy => h y (List.mem_cons_of_mem _ hy), Bool.and_true]
    show PySem.PyData.strOk z = true
    exact h z (List.mem_cons_self ..)
theorem depth_strs : ∀ ws : List Str, PyData.depthAll (ws.map PyData.str) ≤ 1
  | [] => by decide
  | z :: r => by
    have q := depth_strs r
    show max (PyData.depth (.str z)) (PyData.depthAll (r.map PyData.str)) ≤ 1
    have e : PyData.depth (.str z) ≤ 1 := by simp [PyData.depth]
    omega
theorem shaped_strs {ws : List Str} (h : ∀ z ∈ ws, PySem.PyData.strOk z = true) : SeqAt.shaped (.list (ws.map PyData.str)) = true := by
  unfold SeqAt.shaped
  rw [show PyData.canLay0 (.list (ws.map PyData.str)) = PyData.canLayAll0 (ws.map PyData.str) from by simp [PyData.canLay0], lay_strs h, Bool.true_and]
  refine decide_eq_true ?_
  have q := depth_strs ws
  simp only [PyData.depth]
  omega
theorem eqv_strs : ∀ xs ys : List Str, PyData.eqvAll (xs.map PyData.str) (ys.map PyData.str) = decide (xs = ys)
  | [], [] => by simp [PyData.eqvAll]
  | [], y :: ys => by simp [PyData.eqvAll]
  | x :: xs, [] => by simp [PyData.eqvAll]
  | x :: xs, y :: ys => by
    show (PyData.eqv (.str x) (.str y) && PyData.eqvAll (xs.map PyData.str) (ys.map PyData.str)) = _
    rw [eqv_strs xs ys]
    by_cases h : x = y <;> simp [PyData.eqv, h]
/-- words[a:b] == [..] -/
theorem eq_words {K : PySem.W.Frag} {H : Hp} {Q : VK} {a b : Addr} {xs ys : List Str} (ha : H a = some (.lst (xs.map V.str))) (hb : H b = some (.lst (ys.map V.str))) (ox : ∀ z ∈ xs, PySem.PyData.strOk z = true) (oy : ∀ z ∈ ys, PySem.PyData.strOk z = true) (fin : Q (.bl (decide (xs = ys))) H) : rEqD K (.ref a) (.ref b) H Q := by
  refine ⟨.list (xs.map PyData.str), .list (ys.map PyData.str), Dp.lst (SqL.of ha) (dp_strs xs), Dp.lst (SqL.of hb) (dp_strs ys), shaped_strs ox, shaped_strs oy, ?_⟩
  rw [show PyData.eqv (.list (xs.map PyData.str)) (.list (ys.map PyData.str)) = PyData.eqvAll (xs.map PyData.str) (ys.map PyData.str) from by simp [PyData.eqv], eqv_strs]
  exact fin
theorem inV_strs (z : Str) (ws : List Str) : inV (.str z) (ws.map V.str) = decide (z ∈ ws) := by
  unfold inV
  induction ws with
  | nil => simp
  | cons y r ih =>
    rw [List.map_cons, List.any_cons, ih]
    have e : eqV (.str y) (.str z) = decide (z = y) := by
      by_cases h : z = y
      · subst h
        simp [eqV]
      · simp [eqV, h, Ne.symm h]
    rw [e]
    by_cases h : z = y <;> simp [h]
theorem flat_strs (ws : List Str) : (ws.map V.str).all flatV = true := by
  rw [List.all_map, List.all_eq_true]
  intro z _
  rfl
/-! ### slots in a heap -/
def SlotAt (H : Hp) (t : Addr) : WSlot → Prop
  | .one l => l ≠ [] ∧ H t = some (.tup (l.map V.str))
  | .num lo hi => 0 ≤ lo ∧ lo ≤ 400 ∧ 0 ≤ hi ∧ hi ≤ 400 ∧ H t = some (.tup [.int lo, .int hi])
theorem SlotAt.same {H H' : Hp} {t : Addr} {s : WSlot} (h : SlotAt H t s) (m : Same H H') : SlotAt H' t s := by
  cases s with
  | one l => exact ⟨h.1, m _ _ h.2⟩
  | num lo hi => exact ⟨h.1, h.2.1, h.2.2.1, h.2.2.2.1, m _ _ h.2.2.2.2⟩
inductive SlotsL (H : Hp) : List V → List WSlot → Prop
  | nil : SlotsL H [] []
  | cons {t : Addr} {s : WSlot} {xs : List V} {sl : List WSlot} : SlotAt H t s → SlotsL H xs sl → SlotsL H (.ref t :: xs) (s :: sl)
theorem SlotsL.same {H H' : Hp} {xs : List V} {sl : List WSlot} (h : SlotsL H xs sl) (m : Same H H') : SlotsL H' xs sl := by
  induction h with
  | nil => exact .nil
  | cons a _ ih => exact .cons (a.same m) ih
theorem SlotsL.len {H : Hp} {xs : List V} {sl : List WSlot} (h : SlotsL H xs sl) : xs.length = sl.length := by
  induction h with
  | nil => rfl
  | cons _ _ ih => rw [List.length_cons, List.length_cons, ih]
theorem SlotsL.app {H : Hp} {xs ys : List V} {sl tl : List WSlot} (h : SlotsL H xs sl) (g : SlotsL H ys tl) : SlotsL H (xs ++ ys) (sl ++ tl) := by
  induction h with
  | nil => exact g
  | cons a _ ih => exact .cons a ih
theorem SlotsL.at_ {H : Hp} {xs : List V} {sl : List WSlot} (h : SlotsL H xs sl) {i : Nat} {s : WSlot} (e : sl[i]? = some s) : ∃ t, xs[i]? = some (.ref t) ∧ SlotAt H t s := by
  induction h generalizing i with
  | nil => simp at e
  | cons a _ ih =>
    cases i with
    | zero =>
      cases e
      exact ⟨_, rfl, a⟩
    | succ i => exact ih (by simpa using e)
/-! ### an error of two fields -/
def spBadT (C : Addr) : Sp := fun vs H Q _ => ∃ (a : Addr) (x y : V), vs = [.ref a, x, y] ∧ H a = some (exo a C none) ∧ ∀ d, H d = none → d ≠ a → Q .non (upd (upd (upd H d (exd d [("line", x)])) a (exo a C (some d))) d (exd d [("word", y), ("line", x)]))
def BadT (C : Addr) (x y : V) (E : XK) (H : Hp) : Prop := ∀ d, H d = none → E (.ref C) (some d) (upd H d (.xd [("word", y), ("line", x)]))
theorem badt_made {C : Addr} {x y : V} {E : XK} {W : WX} {σ : L2.St} {H : Hp} {ta : TA} (args : ∀ Q : List V → Hp → Prop, Q [x, y] H → ta σ H Q) (h : BadT C x y E H) (hW : ∀ cls d H', E cls d H' → W cls d σ H') : tMkO C (spBadT C) [] ta σ H (fun cls d H' => W cls d σ H') := by
  refine args _ ⟨(show 2 ≤ 1000 by decide), fun a ha => ⟨a, x, y, rfl, upd_same, fun d hd ne => ⟨rfl, d, _, by rw [upd_ne (Ne.symm ne), upd_same], upd_same, by rw [upd_ne ne] at hd; exact hd, ?_⟩⟩⟩
  have hd0 : H d = none := by rw [upd_ne ne] at hd; exact hd
  have e : upd (del (upd (upd (upd (upd H a (exo a C none)) d (exd d [("line", x)])) a (exo a C (some d))) d (exd d [("word", y), ("line", x)])) a) d (.xd [("word", y), ("line", x)]) = upd H d (.xd [("word", y), ("line", x)]) := by
    funext b
    by_cases hb : b = d
    · subst hb
      rw [upd_same, upd_same]
    · rw [upd_ne hb, upd_ne hb]
      by_cases hba : b = a
      · subst hba
        rw [del_same, ha]
      · rw [del_ne hba, upd_ne hb, upd_ne hba, upd_ne hb, upd_ne hba]
  show W (.ref C) (some d) σ (upd (del (upd (upd (upd (upd H a (exo a C none)) d (exd d [("line", x)])) a (exo a C (some d))) d (exd d [("word", y), ("line", x)])) a) d (.xd [("word", y), ("line", x)]))
  rw [e]
  exact hW _ _ _ (h d hd0)
/-- an error class of two fields -/
structure PrgT (K : PySem.W.Frag) (mg : Str → Option Value) (C g : Addr) : Prop where
  g_ : mg "BadText" = some (.ref C)
  oB : OexC K C
  nL : PySem.W.findIn K (.ref C) "line" = some none
  nW : PySem.W.findIn K (.ref C) "word" = some none
  iB : PySem.W.findIn K (.ref C) "__init__" = some (some (.ref g))
  tB : PySem.W.typeIn K (.ref g) = some (.type "function")
/-! ### what reading promises -/
def spNumOf : Sp := fun vs H Q _ => ∃ (z : Str) (lo hi : Int), vs = [.str z, .int lo, .int hi] ∧ 0 ≤ lo ∧ lo ≤ 400 ∧ 0 ≤ hi ∧ hi ≤ 400 ∧ z.length ≤ 5000 ∧ Q (optI (numOf z lo hi)) H
def spLeastM : Sp := fun vs H Q _ => ∃ (p : Addr) (ws : List Str), vs = [.ref p] ∧ WordsAt H p ws ∧ WsOk ws ∧ Q (.int (leastM ws)) H
def spSlots : Sp := fun vs H Q _ => ∃ (p : Addr) (ws : List Str), vs = [.ref p] ∧ WordsAt H p ws ∧ ws ≠ [] ∧ WsOk ws ∧ ∀ H' l xs, Same H H' → H' l = some (.lst xs) → SlotsL H' xs (slotsW ws) → Q (.ref l) H'
def spFits : Sp := fun vs H Q _ => ∃ (z : Str) (t : Addr) (s : WSlot), vs = [.str z, .ref t] ∧ z.length ≤ 5000 ∧ SlotAt H t s ∧ Q (.bl (fitsB z s)) H
def spWrong : Sp := fun vs H Q _ => ∃ (p : Addr) (ws : List Str), vs = [.ref p] ∧ WordsAt H p ws ∧ ws ≠ [] ∧ WsOk ws ∧ ∀ H', Same H H' → Q (optN (wrongL ws)) H'
def spRuleOf (CF CD : Addr) : Sp := fun vs H Q _ => ∃ (p : Addr) (d : RD), vs = [.ref p] ∧ WordsAt H p (wordsOf d) ∧ d.Wf ∧ ∀ H' x, Same H H' → RuleAt CF CD H' x d → Q (.ref x) H'
/-- a value that is no text -/
def NoText (CF CD : Addr) (H : Hp) (v : V) : Prop := v = .non ∨ (∃ b, v = .bl b) ∨ (∃ i, v = .int i) ∨ (∃ a xs, v = .ref a ∧ H a = some (.lst xs)) ∨ (∃ a xs, v = .ref a ∧ H a = some (.tup xs)) ∨ (∃ a, v = .ref a ∧ H a = some (.dK [])) ∨ ∃ x d, v = .ref x ∧ RuleAt CF CD H x d
/-- what Rule.read does with the value v: the rule read is data -/
def ReadV (CT CF CD : Addr) (H : Hp) (Q : VK) (E : XK) (v : V) : Prop :=
  (NoText CF CD H v ∧ ∀ H', Same H H' → BadT CT (.int 0) (.int 0) E H') ∨
  ∃ z, v = .str z ∧ Plain 5000 z ∧ (∀ k : Nat, wrongL (Txt.split z sp1) = some k → ∀ H', Same H H' → BadT CT (.int 0) (.int k) E H') ∧
    ∀ d : RD, d.Wf → z = d.text → wrongL (Txt.split z sp1) = none → ∀ H' x, Same H H' → RuleAt CF CD H' x d → Q (.ref x) H'
def spRead (CT CF CD : Addr) : Sp := fun vs H Q E => ∃ (C : Addr) (v : V), vs = [.ref C, v] ∧ ReadV CT CF CD H Q E v
end Fz

set_option Elab.async false
set_option linter.all false
set_option maxRecDepth 100000
set_option maxHeartbeats 2000000
/-! Own layer: rows of worths that come again, their least form (pure). -/
namespace Fz
open PySem PySem.Spec PyProof.Rows L2
/-- the worth of the heap h: a ahead, n that come again -/
def atW (row : List Int) (a n h : Nat) : Int := row.getD (if h < a then h else a + (h - a) % n) 0
structure Told (row : List Int) (a n : Nat) : Prop where
  len : row.length = a + n
  n1 : 1 ≤ n
  fit : ∀ x ∈ row, 0 ≤ x ∧ x ≤ 400
theorem atW_low {row : List Int} {a n h : Nat} (l : h < a + n) : atW row a n h = row.getD h 0 := by
  unfold atW
  by_cases c : h < a
  · rw [if_pos c]
  · rw [if_neg c, Nat.mod_eq_of_lt (by omega)]
    congr 1
    omega
theorem atW_high {row : List Int} {a n h : Nat} (l : a ≤ h) : atW row a n h = row.getD (a + (h - a) % n) 0 := by
  unfold atW
  rw [if_neg (by omega)]
theorem atW_per {row : List Int} {a n i : Nat} (l : a ≤ i) (k : Nat) : atW row a n (i + n * k) = atW row a n i := by
  rw [atW_high l, atW_high (by omega), show i + n * k - a = (i - a) + n * k by omega, Nat.add_mul_mod_self_left]
theorem atW_per1 {row : List Int} {a n i : Nat} (l : a ≤ i) : atW row a n (i + n) = atW row a n i := by
  have q := atW_per (row := row) (n := n) l 1
  rw [Nat.mul_one] at q
  exact q
/-- the least form of a row that goes on without end -/
structure Form (W : Nat → Int) (b p : Nat) : Prop where
  p1 : 1 ≤ p
  per : ∀ i, b ≤ i → W (i + p) = W i
  min : ∀ s c, 1 ≤ s → (∀ i, c ≤ i → W (i + s) = W i) → p ≤ s
  low : b = 0 ∨ W (b - 1 + p) ≠ W (b - 1)
theorem Form.uniq {W : Nat → Int} {b p b' p' : Nat} (f : Form W b p) (g : Form W b' p') : b = b' ∧ p = p' := by
  have e : p = p' := Nat.le_antisymm (f.min p' b' g.p1 g.per) (g.min p b f.p1 f.per)
  subst e
  refine ⟨?_, rfl⟩
  rcases Nat.lt_trichotomy b b' with h | h | h
  · rcases g.low with z | z
    · omega
    · exact absurd (f.per (b' - 1) (by omega)) z
  · exact h
  · rcases f.low with z | z
    · omega
    · exact absurd (g.per (b - 1) (by omega)) z
/-- of what comes again from some heap on, all from a on comes again so -/
theorem good_of {row : List Int} {a n s c : Nat} (n1 : 1 ≤ n) (h : ∀ i, c ≤ i → atW row a n (i + s) = atW row a n i) : ∀ i, a ≤ i → atW row a n (i + s) = atW row a n i := fun i hi => by
  have e1 := atW_per (row := row) (n := n) hi c
  have e2 := atW_per (row := row) (n := n) (show a ≤ i + s by omega) c
  have m : c ≤ n * c := Nat.le_mul_of_pos_left c n1
  have e3 := h (i + n * c) (by omega)
  rw [show i + n * c + s = i + s + n * c by omega, e2, e1] at e3
  exact e3
/-! ### the period that is found by repeating -/
def Rep (r : List Int) (p : Nat) : Prop := (List.replicate (r.length / p) (r.take p)).flatten = r
theorem rep_get (l : List Int) : ∀ (k i : Nat), i < k * l.length → (List.replicate k l).flatten.getD i 0 = l.getD (i % l.length) 0
  | 0, i, h => by simp at h
  | k + 1, i, h => by
    rw [List.replicate_succ, List.flatten_cons]
    by_cases c : i < l.length
    · rw [Nat.mod_eq_of_lt c, List.getD_eq_getElem?_getD, List.getElem?_append_left c, ← List.getD_eq_getElem?_getD]
    · have c2 : l.length ≤ i := by omega
      rw [List.getD_eq_getElem?_getD, List.getElem?_append_right c2, ← List.getD_eq_getElem?_getD, rep_get l k (i - l.length) (by rw [Nat.add_mul] at h; omega)]
      congr 1
      exact (Nat.mod_eq_sub_mod c2).symm
theorem flat_len (l : List Int) : ∀ k : Nat, (List.replicate k l).flatten.length = k * l.length
  | 0 => by simp
  | k + 1 => by
    rw [List.replicate_succ, List.flatten_cons, List.length_append, flat_len l k, Nat.add_mul]
    omega
theorem ext_getD {xs ys : List Int} (l : xs.length = ys.length) (h : ∀ i, i < xs.length → xs.getD i 0 = ys.getD i 0) : xs = ys := by
  refine List.ext_getElem l fun i h1 h2 => ?_
  have q := h i h1
  rw [List.getD_eq_getElem?_getD, List.getD_eq_getElem?_getD, List.getElem?_eq_getElem h1, List.getElem?_eq_getElem h2] at q
  exact q
theorem rep_iff {r : List Int} {p : Nat} (p1 : 1 ≤ p) (p2 : p ≤ r.length) : Rep r p ↔ p ∣ r.length ∧ ∀ i, i < r.length → r.getD i 0 = r.getD (i % p) 0 := by
  have tl : (r.take p).length = p := by rw [List.length_take]; omega
  have fl := flat_len (r.take p) (r.length / p)
  rw [tl] at fl
  have get : ∀ i, i < r.length / p * p → (List.replicate (r.length / p) (r.take p)).flatten.getD i 0 = r.getD (i % p) 0 := fun i hi => by
    rw [rep_get _ _ _ (by rw [tl]; exact hi), tl, List.getD_eq_getElem?_getD, List.getElem?_take_of_lt (Nat.mod_lt _ (by omega)), ← List.getD_eq_getElem?_getD]
  constructor
  · intro h
    have e : r.length / p * p = r.length := by rw [← fl, h]
    refine ⟨Nat.dvd_of_mul_dvd_mul_right (k := 1) (by decide) (by rw [Nat.mul_one, Nat.mul_one]; exact ⟨r.length / p, by rw [Nat.mul_comm, e]⟩), fun i hi => ?_⟩
    have q := get i (by omega)
    rw [h] at q
    exact q
  · rintro ⟨d, h⟩
    have e : r.length / p * p = r.length := Nat.div_mul_cancel d
    exact ext_getD (by rw [fl, e]) fun i hi => by
      rw [fl] at hi
      rw [get i hi, ← h i (by omega)]
theorem rep_self {r : List Int} (h : 1 ≤ r.length) : Rep r r.length := (rep_iff h (Nat.le_refl _)).mpr ⟨Nat.dvd_refl _, fun i hi => by rw [Nat.mod_eq_of_lt hi]⟩
/-- what the program finds -/
structure LeastRep (r : List Int) (p : Nat) : Prop where
  p1 : 1 ≤ p
  p2 : p ≤ r.length
  rep : Rep r p
  min : ∀ q, 1 ≤ q → q < p → ¬ Rep r q
structure Back (row : List Int) (a p b : Nat) : Prop where
  le : b ≤ a
  same : ∀ i, b ≤ i → i < a → row.getD i 0 = row.getD (i + p) 0
  low : b = 0 ∨ row.getD (b - 1) 0 ≠ row.getD (b - 1 + p) 0
section
variable {row : List Int} {a n p b : Nat}
theorem drop_get (row : List Int) (a i : Nat) : (row.drop a).getD i 0 = row.getD (a + i) 0 := by
  rw [List.getD_eq_getElem?_getD, List.getElem?_drop, ← List.getD_eq_getElem?_getD]
theorem prog_form (t : Told row a n) (l : LeastRep (row.drop a) p) (k : Back row a p b) : Form (atW row a n) b p := by
  have ln : (row.drop a).length = n := by rw [List.length_drop, t.len]; omega
  have n1 := t.n1
  have p2 := l.p2
  rw [ln] at p2
  have p1 := l.p1
  obtain ⟨d, per⟩ := (rep_iff l.p1 l.p2).mp l.rep
  rw [ln] at d per
  have high : ∀ i, a ≤ i → atW row a n (i + p) = atW row a n i := fun i hi => by
    have e : ∀ j, a ≤ j → atW row a n j = row.getD (a + (j - a) % p) 0 := fun j hj => by
      have m := Nat.mod_lt (j - a) (show n > 0 by omega)
      have q := per ((j - a) % n) m
      rw [drop_get, drop_get, Nat.mod_mod_of_dvd _ d] at q
      rw [atW_high hj, q]
    rw [e i hi, e (i + p) (by omega), show i + p - a = (i - a) + p by omega, Nat.add_mod_right]
  refine ⟨p1, fun i hi => ?_, fun s c s1 h => ?_, ?_⟩
  · by_cases c : a ≤ i
    · exact high i c
    · have q := k.same i hi (by omega)
      rw [atW_low (by omega), atW_low (by omega), q]
  · have good := good_of n1 h
    clear h
    induction s using Nat.strongRecOn with
    | _ s ih =>
      by_cases big : n < s
      · omega
      · have many : ∀ (q i : Nat), a ≤ i → atW row a n (i + s * q) = atW row a n i := fun q => by
          induction q with
          | zero => intro i _; rw [Nat.mul_zero, Nat.add_zero]
          | succ q ih2 =>
            intro i hi
            rw [Nat.mul_succ, ← Nat.add_assoc, good (i + s * q) (by omega), ih2 i hi]
        by_cases z : n % s = 0
        · refine Nat.le_of_not_lt fun lt => l.min s s1 lt ((rep_iff s1 (by rw [ln]; omega)).mpr ⟨by rw [ln]; exact Nat.dvd_of_mod_eq_zero z, fun i hi => ?_⟩)
          rw [ln] at hi
          rw [drop_get, drop_get]
          have e := Nat.div_add_mod i s
          have q := many (i / s) (a + i % s) (by omega)
          have le := Nat.mod_le i s
          rw [show a + i % s + s * (i / s) = a + i by omega, atW_low (by omega), atW_low (by omega)] at q
          exact q
        · have r := Nat.mod_lt n (show s > 0 by omega)
          have w := ih (n % s) r (by omega) fun i hi => by
            have e := Nat.div_add_mod n s
            have q := many (n / s) (i + n % s) (by omega)
            rw [show i + n % s + s * (n / s) = i + n by omega, atW_per1 hi] at q
            exact q.symm
          omega
  · rcases k.low with z | z
    · exact .inl z
    · by_cases z0 : b = 0
      · exact .inl z0
      have le := k.le
      refine .inr fun e => z ?_
      rw [atW_low (by omega), atW_low (by omega)] at e
      exact e.symm
/-- what the law finds -/
structure LawForm (W : Nat → Int) (a n start size : Nat) : Prop where
  s1 : 1 ≤ size
  s2 : size ≤ n
  le : start ≤ a
  same : ∀ i, start ≤ i → i + size < a + 3 * n → W i = W (i + size)
  low : start = 0 ∨ W (start - 1) ≠ W (start - 1 + size)
  min : ∀ s, 1 ≤ s → s < size → ∃ i, a ≤ i ∧ i + s < a + 3 * n ∧ W i ≠ W (i + s)
theorem law_form (t : Told row a n) {start size : Nat} (l : LawForm (atW row a n) a n start size) : Form (atW row a n) start size := by
  have n1 := t.n1
  have s2 := l.s2
  refine ⟨l.s1, fun i hi => ?_, fun s c s1 h => ?_, ?_⟩
  · by_cases c : i + size < a + 3 * n
    · exact (l.same i hi c).symm
    · have ai : a ≤ i := by omega
      have m := Nat.mod_lt (i - a) (show n > 0 by omega)
      have e := Nat.div_add_mod (i - a) n
      have q := l.same (a + (i - a) % n) (by have := l.le; omega) (by omega)
      have w1 := atW_per (row := row) (n := n) (show a ≤ a + (i - a) % n by omega) ((i - a) / n)
      have w2 := atW_per (row := row) (n := n) (show a ≤ a + (i - a) % n + size by omega) ((i - a) / n)
      rw [show a + (i - a) % n + n * ((i - a) / n) = i by omega] at w1
      rw [show a + (i - a) % n + size + n * ((i - a) / n) = i + size by omega] at w2
      rw [w1, w2]
      exact q.symm
  · refine Nat.le_of_not_lt fun lt => ?_
    obtain ⟨i, hi, _, ne⟩ := l.min s s1 lt
    exact ne (good_of n1 h i hi).symm
  · rcases l.low with z | z
    · exact .inl z
    · exact .inr fun e => z e.symm
def nums (W : Nat → Int) (k : Nat) : List Int := (List.range k).map W
theorem nums_len (W : Nat → Int) (k : Nat) : (nums W k).length = k := by unfold nums; rw [List.length_map, List.length_range]
theorem nums_succ (W : Nat → Int) (k : Nat) : nums W (k + 1) = nums W k ++ [W k] := by
  unfold nums
  rw [List.range_succ, List.map_append]
  rfl
theorem nums_get {W : Nat → Int} {k i : Nat} (h : i < k) : (nums W k).getD i 0 = W i := by
  unfold nums
  rw [List.getD_eq_getElem?_getD, List.getElem?_map, List.getElem?_range h]
  rfl
theorem take_nums (t : Told row a n) {k : Nat} (h : k ≤ a + n) : row.take k = nums (atW row a n) k := by
  refine ext_getD (by rw [List.length_take, t.len, nums_len]; omega) fun i hi => ?_
  rw [List.length_take, t.len] at hi
  rw [nums_get (by omega), atW_low (by omega), List.getD_eq_getElem?_getD, List.getElem?_take_of_lt (by omega), ← List.getD_eq_getElem?_getD]
theorem nums_take {W : Nat → Int} {k m : Nat} (h : k ≤ m) : (nums W m).take k = nums W k := by
  unfold nums
  rw [← List.map_take, List.take_range, Nat.min_eq_left h]
/-- told in longer form: the same row -/
theorem longer_told (t : Told row a n) (m k : Nat) (k1 : 1 ≤ k) : Told (nums (atW row a n) (a + m + n * k)) (a + m) (n * k) := by
  have n1 := t.n1
  refine ⟨nums_len _ _, Nat.le_trans n1 (Nat.le_mul_of_pos_right n k1), fun x hx => ?_⟩
  unfold nums at hx
  obtain ⟨i, _, rfl⟩ := List.mem_map.mp hx
  have bound : ∀ j, j < a + n → 0 ≤ row.getD j 0 ∧ row.getD j 0 ≤ 400 := fun j hj => by
    rw [List.getD_eq_getElem?_getD, List.getElem?_eq_getElem (by rw [t.len]; exact hj)]
    exact t.fit _ (List.getElem_mem _)
  unfold atW
  split
  · exact bound i (by omega)
  · have q := Nat.mod_lt (i - a) (show n > 0 by omega)
    exact bound _ (by omega)
theorem longer_at (t : Told row a n) (m k : Nat) (k1 : 1 ≤ k) (h : Nat) : atW (nums (atW row a n) (a + m + n * k)) (a + m) (n * k) h = atW row a n h := by
  have n1 := t.n1
  have nk : n ≤ n * k := Nat.le_mul_of_pos_right n k1
  by_cases c : h < a + m + n * k
  · rw [atW_low c, nums_get c]
  · have c1 : a + m ≤ h := by omega
    have q := Nat.mod_lt (h - (a + m)) (show n * k > 0 by omega)
    rw [atW_high c1, nums_get (by omega)]
    have e := Nat.div_add_mod (h - (a + m)) (n * k)
    have w := atW_per (row := row) (n := n) (show a ≤ a + m + (h - (a + m)) % (n * k) by omega) (k * ((h - (a + m)) / (n * k)))
    rw [← Nat.mul_assoc, show a + m + (h - (a + m)) % (n * k) + n * k * ((h - (a + m)) / (n * k)) = h by omega] at w
    exact w.symm
end
end Fz

set_option Elab.async false
set_option linter.all false
set_option maxRecDepth 100000
set_option maxHeartbeats 2000000
/-! Own layer: tables of worths as objects; walks over a list or a tuple; tests that may be asked for less. -/
namespace Fz
open PySem PySem.Spec PyProof.Rows L2
section
variable {X : Cx} {tg e : Expr} {te : TE}
/-- a test may be asked for less -/
def tWeakT (t : L2.TT) : L2.TT := fun σ H Q => ∃ Q' : Bool → Hp → Prop, t σ H Q' ∧ ∀ b H', Q' b H' → Q b H'
theorem pt_weak {t : L2.TT} (h : PT X e t) : PT X e (tWeakT t) := ⟨fun pins s σ H Q I ⟨Q', h', w⟩ => thn (h.run pins s σ H Q' I h') fun b s1 ⟨H1, I1, q⟩ => ⟨H1, I1, w _ _ q⟩⟩
theorem weakT_mono {t : L2.TT} : ∀ (σ : L2.St) (H : Hp) (Q Q' : Bool → Hp → Prop), (∀ b H1, Q b H1 → Q' b H1) → tWeakT t σ H Q → tWeakT t σ H Q' := fun σ H Q Q' h ⟨q, a, b⟩ => ⟨q, a, fun c H1 z => h _ _ (b c H1 z)⟩
theorem weakT_of {t : L2.TT} {σ : L2.St} {H : Hp} {Q : Bool → Hp → Prop} (h : t σ H Q) : tWeakT t σ H Q := ⟨Q, h, fun _ _ z => z⟩
theorem at_nat' {xs : List V} {i : Nat} {v : V} (h : xs[i]? = some v) : atI xs (i : Int) = some v := by
  have l : i < xs.length := by
    rcases Nat.lt_or_ge i xs.length with q | q
    · exact q
    · rw [List.getElem?_eq_none q] at h
      cases h
  unfold atI ixN
  rw [if_pos (by omega), if_pos (by omega)]
  show xs[(i : Int).toNat]? = _
  rw [Int.toNat_natCast, h]
theorem at_last {ys : List V} {b : V} : atI (ys ++ [b]) (-1) = some b := by
  have l : (ys ++ [b]).length = ys.length + 1 := by rw [List.length_append] <;> rfl
  unfold atI ixN
  rw [if_neg (by decide), if_pos (by omega), l]
  show (ys ++ [b])[((-1 : Int) + ((ys.length + 1 : Nat) : Int)).toNat]? = _
  rw [show ((-1 : Int) + ((ys.length + 1 : Nat) : Int)).toNat = ys.length by omega, List.getElem?_append_right (by omega), show ys.length - ys.length = 0 by omega]
  rfl
theorem cutV_take (xs : List V) (k : Nat) : cutV xs none (some (k : Int)) = xs.take k := by
  unfold cutV
  rw [HT.sIx_nat, HT.sIx_none, List.drop_zero, Nat.sub_zero]
  rcases Nat.le_total k xs.length with h | h
  · rw [Nat.min_eq_left h]
  · rw [Nat.min_eq_right h, List.take_length, List.take_of_length_le h]
theorem cutV_drop (xs : List V) (k : Nat) : cutV xs (some (k : Int)) none = xs.drop k := by
  unfold cutV
  rw [HT.sIx_nat, HT.sIx_none]
  rcases Nat.le_total k xs.length with h | h
  · rw [Nat.min_eq_left h, List.take_of_length_le (by rw [List.length_drop]; omega)]
  · rw [Nat.min_eq_right h, List.drop_length, List.drop_eq_nil_of_le h]
    simp
theorem eqv_ints : ∀ xs ys : List Int, PyData.eqvAll (xs.map PyData.int) (ys.map PyData.int) = decide (xs = ys)
  | [], [] => by simp [PyData.eqvAll]
  | [], y :: ys => by simp [PyData.eqvAll]
  | x :: xs, [] => by simp [PyData.eqvAll]
  | x :: xs, y :: ys => by
    show (PyData.eqv (.int x) (.int y) && PyData.eqvAll (xs.map PyData.int) (ys.map PyData.int)) = _
    rw [eqv_ints xs ys]
    by_cases h : x = y <;> simp [PyData.eqv, h]
theorem eqv_lists (xs ys : List Int) : PyData.eqv (.list (xs.map PyData.int)) (.list (ys.map PyData.int)) = decide (xs = ys) := by
  rw [show PyData.eqv (.list (xs.map PyData.int)) (.list (ys.map PyData.int)) = PyData.eqvAll (xs.map PyData.int) (ys.map PyData.int) from by simp [PyData.eqv], eqv_ints]
theorem eqv_tups (xs ys : List Int) : PyData.eqv (.tuple (xs.map PyData.int)) (.tuple (ys.map PyData.int)) = decide (xs = ys) := by
  rw [show PyData.eqv (.tuple (xs.map PyData.int)) (.tuple (ys.map PyData.int)) = PyData.eqvAll (xs.map PyData.int) (ys.map PyData.int) from by simp [PyData.eqv], eqv_ints]
theorem shaped_tints (ns : List Int) : SeqAt.shaped (.tuple (ns.map PyData.int)) = true := by
  have q := depth_ints ns
  unfold SeqAt.shaped
  rw [show PyData.canLay0 (.tuple (ns.map PyData.int)) = PyData.canLayAll0 (ns.map PyData.int) from by simp [PyData.canLay0], lay_ints, Bool.true_and]
  refine decide_eq_true ?_
  simp only [PyData.depth]
  omega
theorem ne_ints {K : PySem.W.Frag} {H : Hp} {Q : VK} {a b : Addr} {xs ys : List Int} (ha : H a = some (.lst (xs.map V.int))) (hb : H b = some (.lst (ys.map V.int))) (fin : Q (.bl (!decide (xs = ys))) H) : rNeD K (.ref a) (.ref b) H Q := by
  refine ⟨.list (xs.map PyData.int), .list (ys.map PyData.int), Dp.lst (SqL.of ha) (dp_ints xs), Dp.lst (SqL.of hb) (dp_ints ys), shaped_ints xs, shaped_ints ys, ?_⟩
  rw [eqv_lists]
  exact fin
theorem eq_tups {K : PySem.W.Frag} {H : Hp} {Q : VK} {a b : Addr} {xs ys : List Int} (ha : H a = some (.tup (xs.map V.int))) (hb : H b = some (.tup (ys.map V.int))) (fin : Q (.bl (decide (xs = ys))) H) : rEqD K (.ref a) (.ref b) H Q := by
  refine ⟨.tuple (xs.map PyData.int), .tuple (ys.map PyData.int), Dp.tup (SqT.of ha) (dp_ints xs), Dp.tup (SqT.of hb) (dp_ints ys), shaped_tints xs, shaped_tints ys, ?_⟩
  rw [eqv_tups]
  exact fin
theorem rep_map (ns : List Int) : ∀ k : Nat, (List.replicate k (ns.map V.int)).flatten = ((List.replicate k ns).flatten).map V.int
  | 0 => by simp
  | k + 1 => by rw [List.replicate_succ, List.replicate_succ, List.flatten_cons, List.flatten_cons, rep_map ns k, List.map_append]
/-- a walk over a list or a tuple -/
def iSeq (K : PySem.W.Frag) (te : TE) : TI := fun σ H R => iList K te σ H R ∨ iTup K te σ H R
theorem pi_seq (h : PE X e te) : PI X tg e (iSeq X.K te) := ⟨fun pins s σ H R I z => z.elim ((pi_list (tg := tg) h).run pins s σ H R I) ((pi_tup (tg := tg) h).run pins s σ H R I)⟩
end
/-- at l: a list or a tuple of these -/
def SeqAt2 (H : Hp) (l : Addr) (xs : List V) : Prop := H l = some (.lst xs) ∨ H l = some (.tup xs)
theorem SeqAt2.same {H H' : Hp} {l : Addr} {xs : List V} (h : SeqAt2 H l xs) (s : Same H H') : SeqAt2 H' l xs := h.imp (fun z => s _ _ z) fun z => s _ _ z
theorem SeqAt2.of {K : PySem.W.Frag} {H : Hp} {l : Addr} {xs : List V} (h : SeqAt2 H l xs) : SqL K H l xs ∨ SqT K H l xs := h.imp (fun z => SqL.of z) fun z => SqT.of z
theorem SeqAt2.len {K : PySem.W.Frag} {H : Hp} {l : Addr} {xs : List V} (h : SeqAt2 H l xs) : LenV K (.ref l) H xs.length := h.imp (fun z => ⟨xs, SqL.of z, rfl⟩) fun z => ⟨xs, SqT.of z, rfl⟩
theorem SeqAt2.ix {K : PySem.W.Frag} {H : Hp} {Q : VK} {l : Addr} {xs : List V} {i : Int} {v : V} (h : SeqAt2 H l xs) (e : atI xs i = some v) (q : Q v H) : rIx K (.ref l) (.int i) H Q := by
  rcases h with z | z
  · exact .inl ⟨l, xs, i, v, rfl, rfl, SqL.of z, e, q⟩
  · exact .inr (.inl ⟨l, xs, i, v, rfl, rfl, SqT.of z, e, q⟩)
/-- the argument is a list or a tuple of these, or no list and no tuple -/
def SeqOf (H : Hp) (v : V) : Option (List V) → Prop
  | some xs => ∃ l, v = .ref l ∧ SeqAt2 H l xs
  | none => Kd H v ∧ ∀ l, v = .ref l → ∃ kvs, H l = some (.dK kvs)
theorem SeqOf.same {H H' : Hp} {v : V} {o : Option (List V)} (h : SeqOf H v o) (s : Same H H') : SeqOf H' v o := by
  cases o with
  | some xs => exact h.imp fun l z => ⟨z.1, z.2.same s⟩
  | none => exact ⟨h.1.same s, fun l e => (h.2 l e).imp fun k z => s _ _ z⟩
theorem seq_kit {K : PySem.W.Frag} {H : Hp} {v : V} {o : Option (List V)} (h : SeqOf H v o) : ∃ t, TyX K H v t ∧ PySem.W.kitAny K t [.type "list", .type "tuple"] = some o.isSome := by
  have no : ∀ n : String, kitB n "list" = some false → kitB n "tuple" = some false → PySem.W.kitAny K (.type n) [.type "list", .type "tuple"] = some false := fun n a b =>
    kitAny_cons (kit_ty a) (fun _ => kitAny_cons (kit_ty b) (fun _ => kitAny_nil) fun z => nomatch z) fun z => nomatch z
  cases o with
  | some xs =>
    obtain ⟨l, rfl, h⟩ := h
    rcases h with h | h
    · exact ⟨_, .base (.lst h), kitAny_cons (b := true) (kit_ty (show kitB "list" "list" = some true by decide +kernel)) (fun z => nomatch z) fun _ => rfl⟩
    · exact ⟨_, .base (.tup h), kitAny_cons (b := false) (kit_ty (show kitB "tuple" "list" = some false by decide +kernel)) (fun _ => kitAny_cons (b := true) (kit_ty (show kitB "tuple" "tuple" = some true by decide +kernel)) (fun z => nomatch z) fun _ => rfl) fun z => nomatch z⟩
  | none =>
    obtain ⟨kd, h⟩ := h
    cases v with
    | non => exact ⟨_, .base .non, no _ (by decide +kernel) (by decide +kernel)⟩
    | bl b => exact ⟨_, .base (.bl b), no _ (by decide +kernel) (by decide +kernel)⟩
    | int i => exact ⟨_, .base (.int i), no _ (by decide +kernel) (by decide +kernel)⟩
    | str z => exact ⟨_, .base (.str z), no _ (by decide +kernel) (by decide +kernel)⟩
    | ref a =>
      obtain ⟨kvs, e⟩ := h a rfl
      exact ⟨_, .base (.dK e), no _ (by decide +kernel) (by decide +kernel)⟩
    | byt _ => exact kd.elim
    | flt _ => exact kd.elim
    | ty _ => exact kd.elim
theorem baded {C : Addr} {f : Str} {v : V} {E : XK} {W : WX} {σ : L2.St} {H : Hp} (h : BadE C f v E H) (hW : ∀ cls d H', E cls d H' → W cls d σ H') : tMkO C (spErrI C f) [] (tCons (tC v) tNil) σ H (fun cls d H' => W cls d σ H') := by
  refine ⟨(show 1 ≤ 1000 by decide), fun a ha => ⟨a, v, rfl, upd_same, fun d hd ne => ⟨rfl, d, _, upd_same, by rw [upd_ne ne, upd_same], by rw [upd_ne ne] at hd; exact hd, ?_⟩⟩⟩
  have hd0 : H d = none := by rw [upd_ne ne] at hd; exact hd
  have e : upd (del (upd (upd (upd H a (exo a C none)) d (exd d [(f, v)])) a (exo a C (some d))) a) d (.xd [(f, v)]) = upd H d (.xd [(f, v)]) := by
    funext b
    by_cases hb : b = d
    · subst hb
      rw [upd_same, upd_same]
    · rw [upd_ne hb, upd_ne hb]
      by_cases hba : b = a
      · subst hba
        rw [del_same, ha]
      · rw [del_ne hba, upd_ne hba, upd_ne hb, upd_ne hba]
  show W (.ref C) (some d) σ (upd (del (upd (upd (upd H a (exo a C none)) d (exd d [(f, v)])) a (exo a C (some d))) a) d (.xd [(f, v)]))
  rw [e]
  exact hW _ _ _ (h d hd0)
/-! ### the parts of a table -/
/-- the items are worths, the first is 0 -/
def worthsOk (xs : List V) : Bool := xs.all (numV 0 400) && decide (xs[0]? = some (.int 0))
def toN : V → Nat
  | .int i => i.toNat
  | _ => 0
/-- the wrong one of the parts -/
def dueT (b p : V) (o : Option (List V)) : Option Str := if numV 0 1000 b = true then (if numV 1 1000 p = true then (match o with
  | some xs => if xs.length = toN b + toN p then (if worthsOk xs = true then none else some "numbers") else some "numbers"
  | none => some "numbers") else some "period") else some "begin"
theorem all_ints {xs : List V} {lo hi : Int} (h : xs.all (numV lo hi) = true) : ∃ ns : List Int, xs = ns.map V.int ∧ ∀ n ∈ ns, lo ≤ n ∧ n ≤ hi := by
  induction xs with
  | nil => exact ⟨[], rfl, fun _ z => by cases z⟩
  | cons x r ih =>
    rw [List.all_cons, Bool.and_eq_true] at h
    obtain ⟨i, rfl, a, b⟩ := numV_is h.1
    obtain ⟨ns, rfl, q⟩ := ih h.2
    refine ⟨i :: ns, rfl, fun n hn => ?_⟩
    rcases List.mem_cons.mp hn with rfl | hn
    · exact ⟨a, b⟩
    · exact q n hn
theorem dueT_none {b p : V} {o : Option (List V)} (h : dueT b p o = none) : ∃ (bn pn : Nat) (ns : List Int), b = .int bn ∧ p = .int pn ∧ o = some (ns.map V.int) ∧ bn ≤ 1000 ∧ 1 ≤ pn ∧ pn ≤ 1000 ∧ Told ns bn pn ∧ ns[0]? = some 0 := by
  unfold dueT at h
  cases e1 : numV 0 1000 b with
  | false => rw [e1] at h; cases h
  | true =>
    rw [e1, if_pos rfl] at h
    cases e2 : numV 1 1000 p with
    | false => rw [e2] at h; cases h
    | true =>
      rw [e2, if_pos rfl] at h
      cases o with
      | none => cases h
      | some xs =>
        dsimp only at h
        by_cases l : xs.length = toN b + toN p
        · rw [if_pos l] at h
          cases w : worthsOk xs with
          | false => rw [w] at h; cases h
          | true =>
            unfold worthsOk at w
            rw [Bool.and_eq_true] at w
            obtain ⟨ns, rfl, q⟩ := all_ints w.1
            obtain ⟨bi, rfl, b0, b1⟩ := numV_is e1
            obtain ⟨pi, rfl, p0, p1⟩ := numV_is e2
            obtain ⟨bn, rfl⟩ := Int.eq_ofNat_of_zero_le b0
            obtain ⟨pn, rfl⟩ := Int.eq_ofNat_of_zero_le (show 0 ≤ pi by omega)
            have f := of_decide_eq_true w.2
            rw [List.getElem?_map] at f
            refine ⟨bn, pn, ns, rfl, rfl, rfl, by omega, by omega, by omega, ⟨by rw [List.length_map] at l; exact l, by omega, q⟩, ?_⟩
            cases z : ns[0]? with
            | none => rw [z] at f; cases f
            | some v =>
              rw [z] at f
              have f2 : V.int v = .int 0 := Option.some.inj f
              rw [V.int.inj f2]
        · rw [if_neg l] at h; cases h
theorem dueT_of {bn pn : Nat} {ns : List Int} (b1 : bn ≤ 1000) (p1 : pn ≤ 1000) (t : Told ns bn pn) (z : ns[0]? = some 0) : dueT (.int bn) (.int pn) (some (ns.map V.int)) = none := by
  unfold dueT
  have e1 : numV 0 1000 (.int bn) = true := by unfold numV; simp; omega
  have e2 : numV 1 1000 (.int pn) = true := by have := t.n1; unfold numV; simp; omega
  rw [if_pos e1, if_pos e2]
  dsimp only
  have l : (ns.map V.int).length = toN (.int bn) + toN (.int pn) := by
    rw [List.length_map, t.len]
    rfl
  rw [if_pos l]
  have w : worthsOk (ns.map V.int) = true := by
    unfold worthsOk
    rw [Bool.and_eq_true]
    refine ⟨?_, decide_eq_true (by rw [List.getElem?_map, z]; rfl)⟩
    rw [List.all_map, List.all_eq_true]
    intro n hn
    have q := t.fit n hn
    show numV 0 400 (.int n) = true
    unfold numV
    simp
    omega
  rw [if_pos w]
/-! ### tables -/
structure TabC (K : PySem.W.Frag) (C : Addr) : Prop where
  cl : Cls K C
  nBegin : PySem.W.findIn K (.ref C) "begin" = some none
  nPeriod : PySem.W.findIn K (.ref C) "period" = some none
  nNumbers : PySem.W.findIn K (.ref C) "numbers" = some none
def tfs (b p : Int) (t : Addr) : List (Str × V) := putF "numbers" (.ref t) (putF "period" (.int p) (putF "begin" (.int b) []))
def TabAt (CT : Addr) (H : Hp) (x : Addr) (b p : Nat) (ns : List Int) : Prop := ∃ dx t, H x = some (.ins CT dx (tfs b p t)) ∧ H t = some (.tup (ns.map V.int))
theorem TabAt.same {CT : Addr} {H H' : Hp} {x : Addr} {b p : Nat} {ns : List Int} (h : TabAt CT H x b p ns) (s : Same H H') : TabAt CT H' x b p ns := let ⟨dx, t, a, c⟩ := h; ⟨dx, t, s _ _ a, s _ _ c⟩
theorem TabAt.ext {CT : Addr} {H H' : Hp} {x : Addr} {b p : Nat} {ns : List Int} (h : TabAt CT H x b p ns) (s : LamX.ExtN H H') : TabAt CT H' x b p ns := let ⟨dx, t, a, c⟩ := h; ⟨dx, t, s _ _ a (fun _ z => nomatch z), s _ _ c (fun _ z => nomatch z)⟩
theorem TabAt.mv {CT : Addr} {H H' : Hp} {x p q : Addr} {n b pe : Nat} {ns : List Int} (h : TabAt CT H x b pe ns) (pen : PenAt n H p q) (m : Mv p H H') : TabAt CT H' x b pe ns := by
  obtain ⟨dx, t, a, c⟩ := h
  obtain ⟨xs, hp⟩ := pen.lst
  exact ⟨dx, t, m _ _ (fun z => by rw [z, hp] at a; cases a) a, m _ _ (fun z => by rw [z, hp] at c; cases c) c⟩
/-- Table.__init__ -/
def spTable (CB CT : Addr) : Sp := fun vs H Q E => ∃ (x dx : Addr) (b p v : V) (o : Option (List V)), vs = [.ref x, b, p, v] ∧ H x = some (.ins CT dx []) ∧ Kd H b ∧ Kd H p ∧ SeqOf H v o ∧ (∀ xs, o = some xs → xs.length ≤ 3000 ∧ ∀ y ∈ xs, Kd H y) ∧
  (∀ z H', dueT b p o = some z → Mv x H H' → BadE CB "part" (.str z) E H') ∧
  (dueT b p o = none → ∀ (bn pn : Nat) (ns : List Int), b = .int bn → p = .int pn → o = some (ns.map V.int) → Told ns bn pn → ∀ H' b' p', Form (atW ns bn pn) b' p' → b' + p' ≤ bn + pn → Mv x H H' → (∃ t, H' x = some (.ins CT dx (tfs b' p' t)) ∧ H' t = some (.tup ((nums (atW ns bn pn) (b' + p')).map V.int))) → Q .non H')
def spCheckP (CB : Addr) : Sp := fun vs H Q E => ∃ (b p v : V) (o : Option (List V)), vs = [b, p, v] ∧ Kd H b ∧ Kd H p ∧ SeqOf H v o ∧ (∀ xs, o = some xs → xs.length ≤ 3000 ∧ ∀ y ∈ xs, Kd H y) ∧ (∀ z H', dueT b p o = some z → Same H H' → BadE CB "part" (.str z) E H') ∧ (dueT b p o = none → ∀ H', Same H H' → Q .non H')
def spLeastP : Sp := fun vs H Q _ => ∃ (l : Addr) (ns : List Int), vs = [.ref l] ∧ H l = some (.lst (ns.map V.int)) ∧ 1 ≤ ns.length ∧ ns.length ≤ 3000 ∧ ∀ H' p, Same H H' → LeastRep ns p → Q (.int (p : Nat)) H'
/-- Table(a, n, row) that may not fail -/
theorem table_made {CB CT x dx l : Addr} {H : Hp} {a n : Nat} {row : List Int} (hl : SeqAt2 H l (row.map V.int)) (t : Told row a n) (z : row[0]? = some 0) (a1 : a ≤ 1000) (n1 : n ≤ 1000) (hx : H x = none) (hd : H dx = none) {E : XK} {G : Hp → Prop}
    (hG : ∀ H' b p, Same H H' → Form (atW row a n) b p → b + p ≤ a + n → TabAt CT H' x b p (nums (atW row a n) (b + p)) → G H') : spTable CB CT [.ref x, .int a, .int n, .ref l] (upd (upd H dx (.own x)) x (.ins CT dx [])) (fun v H' => v = .non ∧ G H') E := by
  have up := up_made (C := CT) hx hd
  have due := dueT_of a1 n1 t z
  refine ⟨x, dx, .int a, .int n, .ref l, some (row.map V.int), rfl, upd_same, True.intro, True.intro, ⟨l, rfl, hl.same up⟩, fun xs e => ?_, fun z H' e _ => ?_, fun _ bn pn ns e1 e2 e3 told H' b p f le mv at_ => ⟨rfl, ?_⟩⟩
  · cases e
    refine ⟨by rw [List.length_map, t.len]; omega, fun y hy => ?_⟩
    obtain ⟨i, _, rfl⟩ := List.mem_map.mp hy
    exact True.intro
  · rw [due] at e
    cases e
  · have q1 : bn = a := by have := V.int.inj e1; omega
    have q2 : pn = n := by have := V.int.inj e2; omega
    have q3 : ns = row := ((List.map_inj_right fun _ _ h => V.int.inj h).mp (Option.some.inj e3)).symm
    subst q1 q2 q3
    obtain ⟨t', h1, h2⟩ := at_
    exact hG H' b p (made_same hx hd mv) f le ⟨dx, t', h1, h2⟩
end Fz

set_option Elab.async false
set_option linter.all false
set_option maxRecDepth 100000
set_option maxHeartbeats 2000000
/-! Own layer: rows that are lists or tuples; the least period by comparing (pure); targets that are fields. -/
namespace Fz
open PySem PySem.Spec PyProof.Rows L2
/-- at l: a tuple (t) or a list of these -/
def SqB (t : Bool) (H : Hp) (l : Addr) (xs : List V) : Prop := H l = some (if t = true then .tup xs else .lst xs)
theorem SqB.same {t : Bool} {H H' : Hp} {l : Addr} {xs : List V} (h : SqB t H l xs) (s : Same H H') : SqB t H' l xs := s _ _ h
theorem SqB.ii {t : Bool} {H : Hp} {l : Addr} {xs : List V} (h : SqB t H l xs) : SeqAt2 H l xs := by
  cases t with
  | false => exact .inl h
  | true => exact .inr h
theorem SeqAt2.bb {H : Hp} {l : Addr} {xs : List V} (h : SeqAt2 H l xs) : ∃ t, SqB t H l xs := by
  rcases h with h | h
  · exact ⟨false, h⟩
  · exact ⟨true, h⟩
theorem cutV_all {xs : List V} {lo hi : Option Int} (h : HT.sIx xs.length 0 lo = 0 ∧ HT.sIx xs.length xs.length hi = xs.length) : cutV xs lo hi = xs := by
  unfold cutV
  rw [h.1, h.2, List.drop_zero, Nat.sub_zero, List.take_length]
def rSlS (K : PySem.W.Frag) : V → Option Int → Option Int → Hp → VK → Prop := fun x lo hi H Q => rSlL K x lo hi H Q ∨ rSlA K x lo hi H Q
theorem sl_seq {X : Cx} : SlR X (rSlS X.K) := sl_list.or sl_tupA
theorem SqB.cut {K : PySem.W.Frag} {t : Bool} {H : Hp} {l : Addr} {xs : List V} {lo hi : Option Int} {Q : VK} (h : SqB t H l xs) (q : ∀ p H', Same H H' → SqB t H' p (cutV xs lo hi) → Q (.ref p) H') : rSlS K (.ref l) lo hi H Q := by
  cases t with
  | false => exact .inl ⟨l, xs, rfl, SqL.of h, fun p hp => q p _ (Same.new hp) upd_same⟩
  | true => exact .inr ⟨l, xs, rfl, SqT.of h, fun w => q l H (fun _ _ z => z) (by rw [cutV_all w]; exact h), fun _ p hp => q p _ (Same.new hp) upd_same⟩
theorem SqB.eq {K : PySem.W.Frag} {t : Bool} {H : Hp} {a b : Addr} {xs ys : List Int} {Q : VK} (ha : SqB t H a (xs.map V.int)) (hb : SqB t H b (ys.map V.int)) (fin : Q (.bl (decide (xs = ys))) H) : rEqD K (.ref a) (.ref b) H Q := by
  cases t with
  | false =>
    refine ⟨.list (xs.map PyData.int), .list (ys.map PyData.int), Dp.lst (SqL.of ha) (dp_ints xs), Dp.lst (SqL.of hb) (dp_ints ys), shaped_ints xs, shaped_ints ys, ?_⟩
    rw [eqv_lists]
    exact fin
  | true => exact eq_tups ha hb fin
theorem SqB.tuple {K : PySem.W.Frag} {t : Bool} {H : Hp} {l : Addr} {xs : List V} {Q : VK} (h : SqB t H l xs) (q : ∀ p H', Same H H' → H' p = some (.tup xs) → Q (.ref p) H') : ∃ p ys, [V.ref l] = [.ref p] ∧ ((SqL K H p ys ∧ ∀ l, H l = none → Q (.ref l) (upd H l (.tup ys))) ∨ (SqT K H p ys ∧ Q (.ref p) H)) := by
  cases t with
  | false => exact ⟨l, xs, rfl, .inl ⟨SqL.of h, fun p hp => q p _ (Same.new hp) upd_same⟩⟩
  | true => exact ⟨l, xs, rfl, .inr ⟨SqT.of h, q l H (fun _ _ z => z) h⟩⟩
/-- the period p repeats exactly if p divides the length and the row without its last p items is the row without its first p -/
theorem near_iff {r : List Int} {p : Nat} (p1 : 1 ≤ p) (p2 : p ≤ r.length) : Rep r p ↔ (r.length % p = 0 ∧ r.take (r.length - p) = r.drop p) := by
  rw [rep_iff p1 p2]
  have gt : ∀ i, i < r.length - p → (r.take (r.length - p)).getD i 0 = r.getD i 0 := fun i hi => by
    rw [List.getD_eq_getElem?_getD, List.getElem?_take_of_lt hi, ← List.getD_eq_getElem?_getD]
  have gd : ∀ i, (r.drop p).getD i 0 = r.getD (p + i) 0 := fun i => drop_get r p i
  constructor
  · rintro ⟨d, h⟩
    refine ⟨Nat.mod_eq_zero_of_dvd d, ext_getD (by rw [List.length_take, List.length_drop]; omega) fun i hi => ?_⟩
    rw [List.length_take] at hi
    have hi2 : i < r.length - p := by omega
    rw [gt i hi2, gd, h i (by omega), h (p + i) (by omega), Nat.add_mod_left]
  · rintro ⟨d, h⟩
    refine ⟨Nat.dvd_of_mod_eq_zero d, fun i => ?_⟩
    induction i using Nat.strongRecOn with
    | ind i ih =>
      intro hi
      rcases Nat.lt_or_ge i p with l | l
      · rw [Nat.mod_eq_of_lt l]
      · have q := ih (i - p) (by omega) (by omega)
        have e : (r.take (r.length - p)).getD (i - p) 0 = (r.drop p).getD (i - p) 0 := by rw [h]
        rw [gt (i - p) (by omega), gd, show p + (i - p) = i by omega] at e
        rw [← e, q]
        have m : (i - p) % p = i % p := by
          conv => rhs; rw [show i = i - p + p by omega, Nat.add_mod_right]
        rw [m]
section
variable {X : Cx} {o : Expr} {f : Str} {pos : Pos} {ta : TE}
/-- e.f = the value, as a target -/
def gFld (K : PySem.W.Frag) (ta : TE) (f : Str) : TG := fun y σ H Q => ta σ H fun x H2 => ∃ a C dx fs, x = .ref a ∧ H2 a = some (.ins C dx fs) ∧ Cls K C ∧ NoAttr K C f ∧ fs.length < 1000 ∧ Q σ (upd H2 a (.ins C dx (putF f y fs)))
theorem pg_fld (ha : PE X o ta) : PG X (.Attribute o f pos) (gFld X.K ta f) := by
  refine ⟨fun pins s σ H v u Q I r h => ?_⟩
  refine PySem.W.kas_attr (thn (ha.run pins s σ H _ I h) fun ov s1 ⟨x, H1, I1, rx, a, C, dx, fs, ex, ea, c, n, l, q⟩ => ?_)
  subst ex
  obtain rfl : ov = Value.ref a := rx
  exact setattr_ok I1 ea c n l r fun s2 I2 => ⟨σ, _, I2, q⟩
end
/-- what is wrong with the row of a table before its worths are looked at -/
def dueW (part : Str) (b p : V) (o : Option (List V)) : Option Str := if numV 0 1000 b = true then (if numV 1 1000 p = true then (match o with
  | some xs => if xs.length = toN b + toN p then none else some part
  | none => some part) else some "period") else some "begin"
theorem dueW_some {b p : V} {o : Option (List V)} {z : Str} (h : dueW "numbers" b p o = some z) : dueT b p o = some z := by
  unfold dueW at h
  unfold dueT
  cases e1 : numV 0 1000 b with
  | false => rw [e1] at h; exact h
  | true =>
    rw [e1, if_pos rfl] at h
    rw [if_pos rfl]
    cases e2 : numV 1 1000 p with
    | false => rw [e2] at h; exact h
    | true =>
      rw [e2, if_pos rfl] at h
      rw [if_pos rfl]
      cases o with
      | none => exact h
      | some xs =>
        dsimp only at h ⊢
        by_cases l : xs.length = toN b + toN p
        · rw [if_pos l] at h; cases h
        · rw [if_neg l] at h ⊢; exact h
theorem dueW_none {part : Str} {b p : V} {o : Option (List V)} (h : dueW part b p o = none) : ∃ (bn pn : Nat) (xs : List V), b = .int bn ∧ p = .int pn ∧ o = some xs ∧ bn ≤ 1000 ∧ 1 ≤ pn ∧ pn ≤ 1000 ∧ xs.length = bn + pn ∧ dueT b p o = if worthsOk xs = true then none else some ("numbers" : Str) := by
  unfold dueW at h
  cases e1 : numV 0 1000 b with
  | false => rw [e1] at h; cases h
  | true =>
    rw [e1, if_pos rfl] at h
    cases e2 : numV 1 1000 p with
    | false => rw [e2] at h; cases h
    | true =>
      rw [e2, if_pos rfl] at h
      cases o with
      | none => cases h
      | some xs =>
        dsimp only at h
        by_cases l : xs.length = toN b + toN p
        · obtain ⟨bi, rfl, b0, b1⟩ := numV_is e1
          obtain ⟨pi, rfl, p0, p1⟩ := numV_is e2
          obtain ⟨bn, rfl⟩ := Int.eq_ofNat_of_zero_le b0
          obtain ⟨pn, rfl⟩ := Int.eq_ofNat_of_zero_le (show 0 ≤ pi by omega)
          refine ⟨bn, pn, xs, rfl, rfl, rfl, by omega, by omega, by omega, l, ?_⟩
          unfold dueT
          rw [if_pos e1, if_pos e2]
          dsimp only
          rw [if_pos l]
        · rw [if_neg l] at h; cases h
/-- check_row -/
def spCheckR (CB : Addr) : Sp := fun vs H Q E => ∃ (b p v : V) (part : Str) (o : Option (List V)), vs = [b, p, v, .str part] ∧ Kd H b ∧ Kd H p ∧ SeqOf H v o ∧ (∀ xs, o = some xs → xs.length ≤ 3000) ∧ (∀ z H', dueW part b p o = some z → Same H H' → BadE CB "part" (.str z) E H') ∧ (dueW part b p o = none → ∀ H', Same H H' → Q .non H')
/-- least_period -/
def spLeastR : Sp := fun vs H Q _ => ∃ (l : Addr) (t : Bool) (ns : List Int), vs = [.ref l] ∧ SqB t H l (ns.map V.int) ∧ 1 ≤ ns.length ∧ ns.length ≤ 3000 ∧ ∀ H' p, Same H H' → LeastRep ns p → Q (.int (p : Nat)) H'
/-- least_form -/
def spLeastF : Sp := fun vs H Q _ => ∃ (l : Addr) (t : Bool) (ns : List Int) (bn pn : Nat), vs = [.ref l, .int bn] ∧ SqB t H l (ns.map V.int) ∧ Told ns bn pn ∧ bn + pn ≤ 3000 ∧ ∀ H' u b p, Same H H' → H' u = some (.tup [.int (b : Nat), .int (p : Nat)]) → Form (atW ns bn pn) b p → b + p ≤ bn + pn → Q (.ref u) H'
end Fz

set_option Elab.async false
set_option linter.all false
set_option maxRecDepth 100000
set_option maxHeartbeats 2000000
namespace Fz
open PySem PySem.Spec PyProof.Rows L2
/-- one step of a reading -/
local macro_rules | `(tactic| walk_at "st") => `(tactic| first
  | refine ⟨_, rfl, ?_⟩
  | refine Or.inl ⟨_, rfl, ?_⟩
  | refine Or.inr ⟨_, rfl, ?_⟩
  | refine ⟨_, _, _, _, rfl, rfl, SqL.of (by first | assumption | exact upd_same), rfl, ?_⟩
  | refine ⟨_, _, _, _, rfl, rfl, (by first | assumption | exact upd_same), rfl, ?_⟩
  | refine ⟨_, _, rfl, .inl ⟨_, SqL.of (by first | assumption | exact upd_same), rfl⟩, ?_⟩
  | refine ⟨_, _, rfl, rfl, (show (0 : Int) < _ by first | decide | omega), ?_⟩
  | refine ⟨_, _, rfl, rfl, (show (0 : Int) < _ ∧ _ < _ by first | exact ⟨by decide, by decide⟩ | omega), ?_⟩
  | refine ⟨_, _, rfl, rfl, (show (_ < _ ∧ _ < _) ∨ (_ < _ ∧ _ < _) by first | exact .inl ⟨by decide, by decide⟩ | omega), ?_⟩
  | refine ⟨_, _, rfl, rfl, (show (0 : Int) ≤ _ ∧ _ ≤ _ ∧ _ < _ by first | exact ⟨by decide, by decide, by decide⟩ | exact ⟨by decide, by decide, by omega⟩), ?_⟩
  | refine ⟨_, _, rfl, rfl, ?_⟩)

/-! ### the text -/
def topS (i : Nat) : Stmt := PySem.Challenge.pw_freetakes_k17_tables_in_least_form.main.body.getD i (.Pass ⟨0, 0, 0, 0⟩)

abbrev s_pen : Stmt := topS 23
abbrev s_draw : Stmt := topS 24
abbrev s_pick : Stmt := topS 25
section
variable {P : Program} {w : World} {K : PySem.W.Frag} {mg : Str → Option Value} {base : Heap}

theorem sc_pen : FnScope ["_law_script"] ["_law_script"] (defScope s_pen) := ⟨rfl, rfl, rfl, by decide +kernel, rfl, by decide +kernel, by decide +kernel⟩
theorem ok_pen {f : Addr} {fd : FuncData} (F : Fun K "_law_pen" "_law_pen" s_pen f fd) (T : Blt mg) : FnOk P w K mg base CX0 1 f fd ["_law_script"] (spPen K) := by
  refine F.ok sc_pen (fun vs H Q E h => ?_) (fun cdv A outer s H vs Q E hr h => ?_)
  · obtain ⟨a, ns, rfl, _⟩ := h
    rfl
  · obtain ⟨a, ns, rfl, hS, hl, k⟩ := h
    refine ⟨_, (pss_one (ps_ret (pe_lst (pa_cons (pe_callTy call_list_of rfl T.z_list (by decide +kernel) (pa_cons (pe_slice sl_list (pv 0) po_none (po_some pe_int)) pa_nil)) (pa_cons pe_int (pa_cons pe_int pa_nil)))))), ?_⟩
    refine ⟨_, rfl, _, rfl, _, _, rfl, hS, fun l0 hl0 => ⟨_, _, rfl, .inl (SqL.of upd_same), fun l1 hl1 => ⟨by show 3 ≤ sizeLine; decide, fun p hp => ?_⟩⟩⟩
    have n01 : l1 ≠ l0 := fun z => by rw [z, upd_same] at hl1; cases hl1
    have h1 : H l1 = none := by rw [upd_ne n01] at hl1; exact hl1
    have npl1 : p ≠ l1 := fun z => by rw [z, upd_same] at hp; cases hp
    have hp1 : (upd H l0 (.lst (cutV (List.map V.int ns) none (some 63)))) p = none := by rw [upd_ne npl1] at hp; exact hp
    have npl0 : p ≠ l0 := fun z => by rw [z, upd_same] at hp1; cases hp1
    have hp0 : H p = none := by rw [upd_ne npl0] at hp1; exact hp1
    have ecut : cutV (List.map V.int ns) none (some 63) = List.map V.int ns := by
      unfold cutV
      show List.take (HT.sIx (List.map V.int ns).length (List.map V.int ns).length (some (63 : Int)) - 0) (List.drop 0 (List.map V.int ns)) = _
      rw [show ((63 : Int)) = ((63 : Nat) : Int) from rfl, HT.sIx_nat, List.drop_zero, Nat.sub_zero]
      exact List.take_of_length_le (by rw [List.length_map]; omega)
    refine k _ p l1 hp0 h1 ⟨ns, 0, 0, upd_same, ?_, Ne.symm npl1, hl, Int.le_refl _, Int.le_refl _⟩ (fun b o e => ?_)
    · rw [upd_ne (Ne.symm npl1), upd_same, ecut]
    · rw [upd_ne (ne_of_none e hp0), upd_ne (ne_of_none e h1), upd_ne (ne_of_none e hl0)]
      exact e
theorem sc_draw : FnScope ["_law_pen_here", "_law_many", "_law_turn", "_law_cell", "_law_mixed", "_law_digit", "_law_great"] ["_law_pen_here", "_law_many"] (defScope s_draw) := ⟨rfl, rfl, rfl, by decide +kernel, rfl, by decide +kernel, by decide +kernel⟩
theorem ok_draw {f : Addr} {fd : FuncData} (F : Fun K "_law_draw" "_law_draw" s_draw f fd) (T : Blt mg) : FnOk P w K mg base CX0 1 f fd ["_law_pen_here", "_law_many"] spDraw := by
  refine F.ok sc_draw (fun vs H Q E h => ?_) (fun cdv A outer s H vs Q E hr h => ?_)
  · obtain ⟨n, p, q, m, rfl, _⟩ := h
    rfl
  · obtain ⟨n, p, q, m, rfl, ⟨ns, spot, great, hp, hq, hqp, hl, h0, h1⟩, hn, hm, hm2, k⟩ := h
    refine ⟨_, (pss_cons (ps_if (pt_cmpR op_gt (pe_ix ix_list (pv 0) pe_int (fun _ _ => rfl)) pe_int (nomark _)) (pss_cons (ps_set (i := 5) sc_draw.nd rfl (Or.inl rfl) (pe_op op_mod (pe_callTy call_int1 rfl T.z_int (by decide +kernel) (pa_cons (pe_ix ix_list (pv 0) pe_int (fun _ _ => rfl)) pa_nil)) (pv 1)))
  (pss_cons (ps_asg (pe_op op_fdivW (pe_callTy call_int1 rfl T.z_int (by decide +kernel) (pa_cons (pe_ix ix_list (pv 0) pe_int (fun _ _ => rfl)) pa_nil)) (pv 1)) (pg_sub (pv 0) pe_int set_list))
  (pss_one (ps_ret (pv 5))))) pss_nil)
  (pss_cons (ps_set (i := 2) sc_draw.nd rfl (Or.inl rfl) (pe_ix ix_list (pv 0) pe_int (fun _ _ => rfl)))
  (pss_cons (ps_asg (pe_op op_add (pv 2) pe_int) (pg_sub (pv 0) pe_int set_list))
  (pss_cons (ps_set (i := 3) sc_draw.nd rfl (Or.inl rfl) (pe_op op_add (pe_op op_mul pe_int (pv 2)) pe_int))
  (C8.pss_cut (ps_if (pt_cmpR (op_neD hr.units) (pe_ix ix_list (pv 0) pe_int (fun _ _ => rfl)) (pe_lst pa_nil) (nomark _)) (pss_one (ps_set (i := 3) sc_draw.nd rfl (Or.inl rfl) (pe_ix ix_list (pe_ix ix_list (pv 0) pe_int (fun _ _ => rfl)) (pe_op op_mod (pe_callTy call_int1 rfl T.z_int (by decide +kernel) (pa_cons (pv 2) pa_nil)) (pe_callB call_len rfl T.z_len (by decide +kernel) (pa_cons (pe_ix ix_list (pv 0) pe_int (fun _ _ => rfl)) pa_nil))) (fun _ _ => rfl)))) pss_nil)
  (C8.pss_cut (ps_if (PW.pt (pw_and (pt_cmpR op_lt (pv 2) (pe_callB call_len rfl T.z_len (by decide +kernel) (pa_cons (pe_ix ix_list (pv 0) pe_int (fun _ _ => rfl)) pa_nil)) (nomark _)) (pw_and1 (pt_cmpR op_ge (pe_callB call_abs rfl T.z_abs (by decide +kernel) (pa_cons (pv 3) pa_nil)) (pe_op op_pow pe_int pe_int) (nomark _))))) (pss_cons (ps_set (i := 6) sc_draw.nd rfl (Or.inl rfl) (pe_op op_add (pe_op op_mul pe_int (pe_op op_sub (pe_callB call_abs rfl T.z_abs (by decide +kernel) (pa_cons (pv 3) pa_nil)) (pe_op op_pow pe_int pe_int))) (pe_callTy call_int1 rfl T.z_int (by decide +kernel) (pa_cons (pe_cmpR op_lt (pv 3) pe_int (nomark _)) pa_nil))))
  (pss_cons (ps_asg (pe_op op_fdivW (pe_callTy call_int1 rfl T.z_int (by decide +kernel) (pa_cons (pv 6) pa_nil)) (pv 1)) (pg_sub (pv 0) pe_int set_list))
  (pss_one (ps_ret (pe_op op_mod (pe_callTy call_int1 rfl T.z_int (by decide +kernel) (pa_cons (pv 6) pa_nil)) (pv 1)))))) pss_nil)
  (C8.pss_cut (ps_set (i := 4) sc_draw.nd rfl (Or.inl rfl) (pe_op op_mod (pe_callTy call_int1 rfl T.z_int (by decide +kernel) (pa_cons (pe_op op_pow (pe_op op_add (pe_op op_add (pe_op op_mod (pe_callTy call_int1 rfl T.z_int (by decide +kernel) (pa_cons (pv 3) pa_nil)) pe_int) (pe_op op_mul pe_int (pv 2))) pe_int) pe_int) pa_nil)) pe_int))
  (pss_cons (ps_set (i := 4) sc_draw.nd rfl (Or.inl rfl) (pe_op op_mod (pe_callTy call_int1 rfl T.z_int (by decide +kernel) (pa_cons (pe_op op_pow (pe_op op_add (pe_op op_add (pe_op op_mul (pv 4) (pe_op op_add (pe_op op_mul pe_int (pv 2)) pe_int)) (pe_op op_mul (pe_op op_mul pe_int (pv 2)) (pv 2))) pe_int) pe_int) pa_nil)) pe_int))
  (pss_one (ps_ret (pe_op op_mod (pe_callTy call_int1 rfl T.z_int (by decide +kernel) (pa_cons (pe_op op_fdiv (pv 4) pe_int) pa_nil)) (pv 1)))))))))))), ?_⟩
    iterate 4 walk_at "st"
    refine ite2 (fun hg => ?_) (fun hg => ?_)
    · repeat walk_at "st"
      exact k _ _ ⟨ns, spot, great / m, upd_same, by rw [upd_ne hqp]; exact hq, hqp, hl, h0, by omega⟩ Mv.here (Int.emod_nonneg _ (by omega)) (Int.emod_lt_of_pos _ hm)
    · repeat walk_at "st"
      have mul0 : spot ≤ 100000 := by omega
      refine ⟨fun σ' H' => ∃ cell : Int, σ' = [some (.ref p), some (.int m), some (.int spot), some (.int cell), none, none, none] ∧ H' p = some (.lst [.ref q, .int (spot + 1), .int great]) ∧ H' q = some (.lst (ns.map V.int)) ∧ Mv p H H', ?_, ?_⟩
      · have hq1 : upd H p (.lst [.ref q, .int (spot + 1), .int great]) q = some (.lst (ns.map V.int)) := by rw [upd_ne hqp]; exact hq
        have hp1 : upd H p (.lst [.ref q, .int (spot + 1), .int great]) p = some (.lst [.ref q, .int (spot + 1), .int great]) := upd_same
        have mv1 : Mv p H (upd H p (.lst [.ref q, .int (spot + 1), .int great])) := Mv.here
        show tIfS _ _ _ _ _ (upd H p (.lst [.ref q, .int (spot + 1), .int great]))
        generalize upd H p (.lst [.ref q, .int (spot + 1), .int great]) = H1 at hq1 hp1 mv1 ⊢
        repeat walk_at "st"
        refine ⟨Nat.zero_le _, fun l hl0 => ?_⟩
        have hp2 : upd H1 l (.lst []) p = some (.lst [.ref q, .int (spot + 1), .int great]) := by rw [upd_ne (ne_of_none hp1 hl0)]; exact hp1
        have hq2 : upd H1 l (.lst []) q = some (.lst (ns.map V.int)) := by rw [upd_ne (ne_of_none hq1 hl0)]; exact hq1
        have mv2 : Mv p H (upd H1 l (.lst [])) := mv1.trans (Mv.new hl0)
        refine ⟨_, _, Dp.lst (SqL.of hq2) (dp_ints ns), Dp.lst (SqL.of upd_same) .nil, shaped_ints ns, shaped_ints [], _, rfl, ?_⟩
        refine ite2 (fun ht => ?_) (fun _ => ⟨_, rfl, hp2, hq2, mv2⟩)
        have hne : 0 < (ns.map V.int).length := by
          cases ns with
          | nil => exact absurd ht (by decide)
          | cons z zs => rw [List.length_map]; exact Nat.succ_pos _
        have hpos : (0 : Int) < (((ns.map V.int).length : Nat) : Int) := by omega
        obtain ⟨x, hx, ax⟩ := at_mod spot hne
        obtain ⟨z, hz, rfl⟩ := List.mem_map.mp hx
        iterate 2 walk_at "st"
        iterate 2 walk_at "st"
        iterate 2 walk_at "st"
        iterate 1 walk_at "st"
        refine ⟨_, _, rfl, rfl, hpos, q, _, _, _, rfl, rfl, SqL.of hq2, ax, ?_⟩
        exact ⟨z, rfl, hp2, hq2, mv2⟩
      · rintro σ' H' ⟨cell, rfl, hp', hq', mv⟩
        have small : ∀ H'', Mv p H H'' → H'' p = some (.lst [.ref q, .int (spot + 1), .int great]) → H'' q = some (.lst (ns.map V.int)) → PenAt (n + 1) H'' p q := fun H'' _ a b => ⟨ns, spot + 1, great, a, b, hqp, hl, by omega, by omega⟩
        refine ⟨fun σ'' H'' => σ'' = [some (.ref p), some (.int m), some (.int spot), some (.int cell), none, none, none] ∧ H'' = H', ?_, ?_⟩
        · repeat walk_at "st"
          refine ite2 (fun _ => ?_) (fun _ => iteF ⟨rfl, rfl⟩)
          repeat walk_at "st"
          refine ite2 (fun _ => ?_) (fun _ => ⟨rfl, rfl⟩)
          repeat walk_at "st"
          exact k _ _ ⟨ns, spot + 1, _, upd_same, by rw [upd_ne hqp]; exact hq', hqp, hl, by omega, by omega⟩ (mv.trans Mv.here) (Int.emod_nonneg _ (by omega)) (Int.emod_lt_of_pos _ hm)
        · rintro σ'' H'' ⟨rfl, rfl⟩
          refine ⟨fun σ₂ H₂ => ∃ mixed : Int, σ₂ = [some (.ref p), some (.int m), some (.int spot), some (.int cell), some (.int mixed), none, none] ∧ 0 ≤ mixed ∧ mixed < 2147483648 ∧ H₂ = H'', ?_, ?_⟩
          · repeat walk_at "st"
            exact ⟨Int.emod_nonneg _ (by decide), Int.lt_trans (Int.emod_lt_of_pos _ (by decide)) (by decide), rfl⟩
          · rintro σ₂ H₂ ⟨mixed, rfl, m0, m1, rfl⟩
            have b1 : 0 ≤ mixed * (2 * spot + 95) := Int.mul_nonneg m0 (by omega)
            have b2 : mixed * (2 * spot + 95) ≤ 2147483648 * 300000 := Int.mul_le_mul (by omega) (by omega) (by omega) (by omega)
            have b3 : 0 ≤ 20912 * spot * spot := Int.mul_nonneg (by omega) h0
            have b4 : 20912 * spot * spot ≤ 2091200000 * 100000 := Int.mul_le_mul (by omega) (by omega) (by omega) (by omega)
            repeat walk_at "st"
            exact k _ _ (small _ mv hp' hq') mv (Int.emod_nonneg _ (by omega)) (Int.emod_lt_of_pos _ hm)
theorem sc_pick : FnScope ["_law_pen_here", "_law_some"] ["_law_pen_here", "_law_some"] (defScope s_pick) := ⟨rfl, rfl, rfl, by decide +kernel, rfl, by decide +kernel, by decide +kernel⟩
theorem ok_pick {f fD : Addr} {fd fdD : FuncData} (F : Fun K "_law_pick" "_law_pick" s_pick f fd) (T : Blt mg) (D : Fun K "_law_draw" "_law_draw" s_draw fD fdD) (gD : mg "_law_draw" = some (.ref fD)) (b_draw : L2.Binds K fdD ["_law_pen_here", "_law_many"] []) :
    FnOk P w K mg base CX0 2 f fd ["_law_pen_here", "_law_some"] (spPick K) := by
  have G_draw : FnOk P w K mg base CX0 1 fD fdD ["_law_pen_here", "_law_many"] spDraw := ok_draw D T
  refine F.ok sc_pick (fun vs H Q E h => ?_) (fun cdv A outer s H vs Q E hr h => ?_)
  · obtain ⟨n, p, q, l, xs, rfl, _⟩ := h
    rfl
  · obtain ⟨n, p, q, l, xs, rfl, hp, hn, hlp, hl, h0, h1, k⟩ := h
    refine ⟨_, (pss_one (ps_ret (pe_ix ix_list (pv 1) (pe_call G_draw (hr.mono (by decide)) rfl gD D.kp b_draw .nil pass0 (by exact (pa_cons (pv 0) (pa_cons (pe_callB call_len rfl T.z_len (by decide +kernel) (pa_cons (pv 1) pa_nil)) pa_nil)))) (fun _ _ => rfl)))), ?_⟩
    iterate 3 walk_at "st"
    refine ⟨_, _, rfl, .inl ⟨_, SqL.of hl, rfl⟩, n, p, q, _, rfl, hp, hn, by omega, small_log (by omega) (by omega), fun H' r hp' mv r0 r1 => ?_⟩
    obtain ⟨x, hx, ax⟩ := at_in r0 r1
    exact ⟨_, _, _, _, rfl, rfl, SqL.of (mv l _ hlp hl), ax, k H' x hp' mv hx⟩
end
section
variable {P : Program} {w : World} {K : PySem.W.Frag} {mg : Str → Option Value} {base : Heap}

abbrev s_is_number : Stmt := topS 8
theorem sc_is_number : FnScope ["value", "least", "most"] ["value", "least", "most"] (defScope s_is_number) := ⟨rfl, rfl, rfl, by decide +kernel, rfl, by decide +kernel, by decide +kernel⟩
theorem ok_is_number {f : Addr} {fd : FuncData} (F : Fun K "is_number" "is_number" s_is_number f fd) (T : Blt mg) : FnOk P w K mg base CX0 1 f fd ["value", "least", "most"] spNum := by
  refine F.ok sc_is_number (fun vs H Q E h => ?_) (fun cdv A outer s H vs Q E hr h => ?_)
  · obtain ⟨x, lo, hi, rfl, _⟩ := h
    rfl
  · obtain ⟨x, lo, hi, rfl, kd, k⟩ := h
    obtain ⟨t, ty, k1, k2⟩ := kd.isInt (K := K)
    refine ⟨_, (pss_one (ps_ret (pe_and (pe_callB call_isi rfl T.z_isinstance (by decide +kernel) (pa_cons (pv 0) (pa_cons (pe_bltn (v := .ty "int") rfl T.z_int (by decide +kernel) rfl) pa_nil))) (pe_and (pe_not (pe_callB call_isi rfl T.z_isinstance (by decide +kernel) (pa_cons (pv 0) (pa_cons (pe_bltn (v := .ty "bool") rfl T.z_bool (by decide +kernel) rfl) pa_nil)))) (pe_one (pe_chain op_le op_le (pv 1) (pv 0) (pv 2))))))), ?_⟩
    refine ⟨_, rfl, _, _, _, _, _, rfl, .ty "int", ty, k1, _, rfl, ?_⟩
    refine ite2 (fun i1 => ?_) (fun i1 => ?_)
    · refine ⟨_, rfl, _, _, _, _, _, rfl, .ty "bool", ty, k2, _, rfl, _, rfl, ?_⟩
      refine ite2 (fun i2 => ?_) (fun i2 => ?_)
      · obtain ⟨i, rfl⟩ : ∃ i, x = V.int i := by
          cases x with
          | int i => exact ⟨i, rfl⟩
          | bl b => exact absurd i2 Bool.false_ne_true
          | _ => exact absurd i1 Bool.false_ne_true
        iterate 2 walk_at "st"
        refine ⟨_, _, rfl, rfl, _, rfl, ?_⟩
        refine ite2 (fun i3 => ?_) (fun i3 => ?_)
        · iterate 2 walk_at "st"
          have e : numV lo hi (.int i) = decide (i ≤ hi) := by
            show (decide (lo ≤ i) && decide (i ≤ hi)) = _
            rw [i3, Bool.true_and]
          show Q (.bl (decide (i ≤ hi))) _
          rw [← e]
          exact k
        · have e : numV lo hi (.int i) = false := by
            show (decide (lo ≤ i) && decide (i ≤ hi)) = _
            rw [Bool.eq_false_iff.mpr i3, Bool.false_and]
          rw [e] at k
          exact k
      · have e : numV lo hi x = false := by
          cases x with
          | int i => exact absurd rfl i2
          | _ => rfl
        rw [e] at k
        exact k
    · have e : numV lo hi x = false := by
        cases x with
        | int i => exact absurd rfl i1
        | _ => rfl
      rw [e] at k
      exact k
abbrev s_bt : Stmt := inClass (topS 4) 0
theorem sc_bt : FnScope ["self", "part"] ["self", "part"] (defScope s_bt) := ⟨rfl, rfl, rfl, by decide +kernel, rfl, by decide +kernel, by decide +kernel⟩
theorem ok_bt {f C : Addr} {x : Str} {fd : FuncData} (F : Fun K "__init__" "BadTable.__init__" s_bt f fd) (T : PrgF K mg x "part" C f) : FnOk P w K mg base CX0 1 f fd ["self", "part"] (spErrI C "part") := by
  refine F.ok sc_bt (fun vs H Q E h => ?_) (fun cdv A outer s H vs Q E hr h => ?_)
  · obtain ⟨a, v, rfl, _⟩ := h
    rfl
  · obtain ⟨a, v, rfl, ha, k⟩ := h
    refine ⟨_, (pss_one (ps_ost (pv 0) (pv 1))), ?_⟩
    exact ⟨_, rfl, _, rfl, a, C, rfl, T.oB, T.nF, .inl ⟨ha, fun d n ne => k d n ne⟩⟩
abbrev s_cr : Stmt := topS 12
theorem sc_cr : FnScope ["begin", "period", "told", "part"] ["begin", "period", "told", "part"] (defScope s_cr) := ⟨rfl, rfl, rfl, by decide +kernel, rfl, by decide +kernel, by decide +kernel⟩
theorem ok_cr {CB f fN fBt : Addr} {fd fdN fdBt : FuncData} (F : Fun K "check_row" "check_row" s_cr f fd) (U : Blt mg) (N : Fun K "is_number" "is_number" s_is_number fN fdN) (gN : mg "is_number" = some (.ref fN)) (b_num : L2.Binds K fdN ["value", "least", "most"] [])
    (PB : PrgF K mg "BadTable" "part" CB fBt) (Bt : Fun K "__init__" "BadTable.__init__" s_bt fBt fdBt) (b_bt : L2.Binds K fdBt ["self", "part"] []) {tMO : Tok} (gMO : mg "MOST" = some (.int 1000 tMO)) : FnOk P w K mg base (L2.CX P w) 3 f fd ["begin", "period", "told", "part"] (spCheckR CB) := by
  have G_num : FnOk P w K mg base CX0 1 fN fdN ["value", "least", "most"] spNum := ok_is_number N U
  have G_bt : FnOk P w K mg base CX0 1 fBt fdBt ["self", "part"] (spErrI CB "part") := ok_bt Bt PB
  refine F.okX sc_cr (fun vs H Q E h => ?_) (fun cdv A outer s H vs Q E hr h => ?_)
  · obtain ⟨b, p, v, part, o, rfl, _⟩ := h
    rfl
  · obtain ⟨b, p, v, part, o, rfl, kb, kp, so, ks, bad, fin⟩ := h
    refine ⟨_, (pss_cons (ps_if (pt_not (pt_val (pe_call G_num (hr.mono (by decide)) rfl gN N.kp b_num .nil pass0 (by exact (pa_cons (pv 0) (pa_cons pe_int (pa_cons (pe_glob (v := .int 1000) rfl gMO ⟨tMO, rfl⟩) pa_nil))))))) (pss_one (ps_raise rfl (takes_of rfl rfl rfl rfl) (pmk_oex PB.oB PB.iB PB.tB G_bt (hr.mono (by decide)) b_bt .nil pass0 rfl PB.g_ (by exact (pa_cons pe_str pa_nil))))) pss_nil)
  (pss_cons (ps_if (pt_not (pt_val (pe_call G_num (hr.mono (by decide)) rfl gN N.kp b_num .nil pass0 (by exact (pa_cons (pv 1) (pa_cons pe_int (pa_cons (pe_glob (v := .int 1000) rfl gMO ⟨tMO, rfl⟩) pa_nil))))))) (pss_one (ps_raise rfl (takes_of rfl rfl rfl rfl) (pmk_oex PB.oB PB.iB PB.tB G_bt (hr.mono (by decide)) b_bt .nil pass0 rfl PB.g_ (by exact (pa_cons pe_str pa_nil))))) pss_nil)
  (pss_one (ps_if (PW.pt (pw_or (pt_not (pt_val (pe_callB call_isiT rfl U.z_isinstance (by decide +kernel) (pa_cons (pv 2) (pa_cons (pe_tup (pa_cons (pe_bltn (v := .ty "list") rfl U.z_list (by decide +kernel) rfl) (pa_cons (pe_bltn (v := .ty "tuple") rfl U.z_tuple (by decide +kernel) rfl) pa_nil))) pa_nil))))) (pw_or1 (pt_cmpR op_ne (pe_callB call_len rfl U.z_len (by decide +kernel) (pa_cons (pv 2) pa_nil)) (pe_op op_add (pv 0) (pv 1)) (nomark _))))) (pss_one (ps_raise rfl (takes_of rfl rfl rfl rfl) (pmk_oex PB.oB PB.iB PB.tB G_bt (hr.mono (by decide)) b_bt .nil pass0 rfl PB.g_ (by exact (pa_cons (pv 3) pa_nil))))) pss_nil)))), ?_⟩
    have same0 : Same H H := fun _ _ z => z
    have sz : (10000 : Nat) ≤ sizeLine := by show 10000 ≤ 16777216; decide
    refine ⟨_, rfl, b, 0, 1000, rfl, kb, _, rfl, ?_⟩
    cases e1 : numV 0 1000 b with
    | false => exact iteT (baded (W := fun cls d _ H => E cls d H) (bad _ H (by unfold dueW; rw [e1]; rfl) same0) fun _ _ _ z => z)
    | true =>
      refine iteF ?_
      refine ⟨_, rfl, p, 1, 1000, rfl, kp, _, rfl, ?_⟩
      cases e2 : numV 1 1000 p with
      | false => exact iteT (baded (W := fun cls d _ H => E cls d H) (bad _ H (by unfold dueW; rw [e1, e2]; rfl) same0) fun _ _ _ z => z)
      | true =>
        refine iteF ?_
        obtain ⟨bi, rfl, b0, b1⟩ := numV_is e1
        obtain ⟨pi, rfl, p0, p1⟩ := numV_is e2
        obtain ⟨bn, rfl⟩ := Int.eq_ofNat_of_zero_le b0
        obtain ⟨pn, rfl⟩ := Int.eq_ofNat_of_zero_le (show 0 ≤ pi by omega)
        refine ⟨_, rfl, by show 2 ≤ sizeLine; omega, fun t0 ht0 => ?_⟩
        have s0 := Same.new (o := .tup [V.ty "list", .ty "tuple"]) ht0
        obtain ⟨ty, tyx, kit⟩ := seq_kit (K := K) (so.same s0)
        refine ⟨v, t0, _, ty, _, _, rfl, upd_same, .cons (.ty "list") (.cons (.ty "tuple") .nil), tyx, kit, _, rfl, ?_⟩
        have bad2 : ∀ H', Same H H' → dueW part (.int bn) (.int pn) o = some part → ∃ σv : L2.St, σv[3]? = some (some (V.str part)) ∧ True := fun _ _ _ => ⟨[none, none, none, some (.str part)], rfl, trivial⟩
        cases o with
        | none => exact iteT (iteT ⟨_, rfl, baded (σ := []) (W := fun cls d _ H => E cls d H) (bad _ _ (by unfold dueW; rw [if_pos e1, if_pos e2]) s0) fun _ _ _ z => z⟩)
        | some xs =>
          obtain ⟨l, rfl, hl⟩ := so
          have few := ks xs rfl
          have unf : dueW part (.int bn) (.int pn) (some xs) = if xs.length = bn + pn then none else some part := by
            unfold dueW
            rw [if_pos e1, if_pos e2]
            rfl
          refine iteF ?_
          refine ⟨_, rfl, _, _, rfl, (hl.same s0).len, _, rfl, _, rfl, _, _, rfl, rfl, rfl, _, rfl, ?_⟩
          refine ite2 (fun c => ?_) (fun c => ?_)
          · have c1 : ¬ xs.length = bn + pn := fun y => by
              have q : (!decide (V.int (xs.length : Int) = V.int ((bn : Int) + pn))) = true := c
              rw [decide_eq_true (show V.int (xs.length : Int) = V.int ((bn : Int) + pn) from by rw [y]; rfl)] at q
              cases q
            exact ⟨_, rfl, baded (σ := []) (W := fun cls d _ H => E cls d H) (bad _ _ (by rw [unf, if_neg c1]) s0) fun _ _ _ z => z⟩
          · have c1 : xs.length = bn + pn := Classical.byContradiction fun y => c (by
              show (!decide (V.int (xs.length : Int) = V.int ((bn : Int) + pn))) = true
              rw [decide_eq_false fun z => y (by have := V.int.inj z; omega)]
              rfl)
            exact fin (by rw [unf, if_pos c1]) _ s0
end
end Fz
set_option Elab.async false
set_option linter.all false
set_option maxRecDepth 100000
set_option maxHeartbeats 2000000
namespace Fz
open PySem PySem.Spec PyProof.Rows L2
/-- one step of a reading -/
local macro_rules | `(tactic| walk_at "st") => `(tactic| first
  | refine ⟨_, rfl, ?_⟩
  | refine Or.inl ⟨_, rfl, ?_⟩
  | refine Or.inr ⟨_, rfl, ?_⟩
  | refine ⟨_, _, _, _, rfl, rfl, SqL.of (by first | assumption | exact upd_same), rfl, ?_⟩
  | refine ⟨_, _, _, _, rfl, rfl, (by first | assumption | exact upd_same), rfl, ?_⟩
  | refine ⟨_, _, rfl, .inl ⟨_, SqL.of (by first | assumption | exact upd_same), rfl⟩, ?_⟩
  | refine ⟨_, _, rfl, rfl, (show (0 : Int) < _ by first | decide | omega), ?_⟩
  | refine ⟨_, _, rfl, rfl, (show (0 : Int) < _ ∧ _ < _ by first | exact ⟨by decide, by decide⟩ | omega), ?_⟩
  | refine ⟨_, _, rfl, rfl, (show (_ < _ ∧ _ < _) ∨ (_ < _ ∧ _ < _) by first | exact .inl ⟨by decide, by decide⟩ | omega), ?_⟩
  | refine ⟨_, _, rfl, rfl, (show (0 : Int) ≤ _ ∧ _ ≤ _ ∧ _ < _ by first | exact ⟨by decide, by decide, by decide⟩ | exact ⟨by decide, by decide, by omega⟩), ?_⟩
  | refine ⟨_, _, rfl, rfl, ?_⟩)

section
variable {P : Program} {w : World} {K : PySem.W.Frag} {mg : Str → Option Value} {base : Heap}

abbrev s_lp : Stmt := topS 14
theorem sc_lp : FnScope ["again", "many", "period"] ["again"] (defScope s_lp) := ⟨rfl, rfl, rfl, by decide +kernel, rfl, by decide +kernel, by decide +kernel⟩
theorem ok_lp {f : Addr} {fd : FuncData} (F : Fun K "least_period" "least_period" s_lp f fd) (U : Blt mg) : FnOk P w K mg base CX0 1 f fd ["again"] spLeastR := by
  refine F.ok sc_lp (fun vs H Q E h => ?_) (fun cdv A outer s H vs Q E hr h => ?_)
  · obtain ⟨l, t, ns, rfl, _⟩ := h
    rfl
  · obtain ⟨l, t, ns, rfl, hl, n1, n2, fin⟩ := h
    refine ⟨_, (pss_cons (ps_set (i := 1) sc_lp.nd rfl (Or.inl rfl) (pe_callB call_len rfl U.z_len (by decide +kernel) (pa_cons (pv 0) pa_nil)))
  (pss_cons (ps_for PassesOwn.never rfl (pi_range2 rfl U.z_range (by exact (pa_cons pe_int (pa_cons (pv 1) pa_nil)))) (pg_name (i := 2) sc_lp.nd rfl (Or.inl rfl)) (pss_one (ps_if (PW.pt (pw_and (pt_cmpR op_eq (pe_op op_mod (pv 1) (pv 2)) pe_int (nomark _)) (pw_and1 (pt_cmpR (op_eqD hr.units) (pe_slice sl_seq (pv 0) po_none (po_some (pe_op op_sub (pv 1) (pv 2)))) (pe_slice sl_seq (pv 0) (po_some (pv 2)) po_none) (nomark _))))) (pss_one (ps_ret (pv 2))) pss_nil)))
  (pss_one (ps_ret (pv 1))))), ?_⟩
    have sz : (10000 : Nat) ≤ sizeLine := by show 10000 ≤ 16777216; decide
    refine ⟨_, rfl, _, _, rfl, hl.ii.len, ?_⟩
    show ∃ _, _
    rw [List.length_map]
    refine ⟨_, rfl, 1, (ns.length : Int), rfl, ⟨by decide, by decide, by omega, by omega⟩, for_range (lo := 1) (n := ((ns.length : Int) - 1).toNat) (fun i σ' H' => ∃ v2 : Option V, σ' = [some (.ref l), some (.int (ns.length : Nat)), v2] ∧ Same H H' ∧ ∀ q, 1 ≤ q → q ≤ i → ¬ Rep ns q) ⟨_, rfl, fun _ _ z => z, fun s x y => by omega⟩ ?_ ?_⟩
    rotate_left
    · rintro σ' H' ⟨v2, rfl, s, no⟩
      exact ⟨_, rfl, fin _ ns.length s ⟨n1, Nat.le_refl _, rep_self n1, fun q a b => no q a (by omega)⟩⟩
    rintro i σ' H2 hi ⟨v2, rfl, s2, no⟩
    have si : ((1 : Int) + (i : Nat)) = ((1 + i : Nat) : Int) := by omega
    have i1 : 1 + i < ns.length := by omega
    have hl2 := hl.same s2
    rw [si]
    refine ⟨_, rfl, _, rfl, _, _, rfl, rfl, by omega, rfl, _, rfl, ?_⟩
    have em : ((ns.length : Nat) : Int) % ((1 + i : Nat) : Int) = ((ns.length % (1 + i) : Nat) : Int) := rfl
    refine ite2 (fun c => ?_) (fun c => ?_)
    · have c1 : ns.length % (1 + i) = 0 := by
        have q : V.int (((ns.length : Nat) : Int) % ((1 + i : Nat) : Int)) = V.int 0 := of_decide_eq_true c
        have q1 := V.int.inj q
        rw [em] at q1
        omega
      refine ⟨_, rfl, _, rfl, _, rfl, _, _, rfl, rfl, _, rfl, hl2.cut fun p1 H3 s3 h3 => ?_⟩
      have e1 : cutV (ns.map V.int) none (some ((ns.length : Int) - ((1 + i : Nat) : Int))) = (ns.take (ns.length - (1 + i))).map V.int := by
        have q := cutV_take (ns.map V.int) (ns.length - (1 + i))
        rw [show ((ns.length - (1 + i) : Nat) : Int) = (ns.length : Int) - ((1 + i : Nat) : Int) by omega] at q
        rw [q, List.map_take]
      rw [e1] at h3
      refine ⟨_, rfl, _, rfl, _, rfl, (hl2.same s3).cut fun p2 H4 s4 h4 => ?_⟩
      have e2 : cutV (ns.map V.int) (some ((1 + i : Nat) : Int)) none = (ns.drop (1 + i)).map V.int := by rw [cutV_drop, List.map_drop]
      rw [e2] at h4
      refine SqB.eq (h3.same s4) h4 ⟨_, rfl, ?_⟩
      have ni := near_iff (r := ns) (p := 1 + i) (by omega) (by omega)
      refine ite2 (fun d => ?_) (fun d => ?_)
      · have d1 : ns.take (ns.length - (1 + i)) = ns.drop (1 + i) := of_decide_eq_true d
        exact ⟨_, rfl, fin _ (1 + i) ((s2.trans s3).trans s4) ⟨by omega, by omega, ni.mpr ⟨c1, d1⟩, fun q a b => no q a (by omega)⟩⟩
      · refine ⟨_, rfl, (s2.trans s3).trans s4, fun q a b => ?_⟩
        by_cases z : q = 1 + i
        · rw [z]
          exact fun r => d (decide_eq_true (ni.mp r).2)
        · exact no q a (by omega)
    · refine iteF ⟨_, rfl, s2, fun q a b => ?_⟩
      by_cases z : q = 1 + i
      · rw [z]
        intro r
        have ni := (near_iff (r := ns) (p := 1 + i) (by omega) (by omega)).mp r
        exact c (decide_eq_true (by show V.int (((ns.length : Nat) : Int) % ((1 + i : Nat) : Int)) = V.int 0; rw [em, ni.1]; rfl))
      · exact no q a (by omega)
abbrev s_lf : Stmt := topS 13
theorem sc_lf : FnScope ["told", "begin", "period"] ["told", "begin"] (defScope s_lf) := ⟨rfl, rfl, rfl, by decide +kernel, rfl, by decide +kernel, by decide +kernel⟩
theorem ok_lf {f fLp : Addr} {fd fdLp : FuncData} (F : Fun K "least_form" "least_form" s_lf f fd) (U : Blt mg) (Lp : Fun K "least_period" "least_period" s_lp fLp fdLp) (gLp : mg "least_period" = some (.ref fLp)) (b_lp : L2.Binds K fdLp ["again"] []) : FnOk P w K mg base CX0 2 f fd ["told", "begin"] spLeastF := by
  have G_lp : FnOk P w K mg base CX0 1 fLp fdLp ["again"] spLeastR := ok_lp Lp U
  refine F.ok sc_lf (fun vs H Q E h => ?_) (fun cdv A outer s H vs Q E hr h => ?_)
  · obtain ⟨l, t, ns, bn, pn, rfl, _⟩ := h
    rfl
  · obtain ⟨l, t, ns, bn, pn, rfl, hl, told, few, fin⟩ := h
    refine ⟨_, (pss_cons (ps_set (i := 2) sc_lf.nd rfl (Or.inl rfl) (pe_call G_lp (hr.mono (by decide)) rfl gLp Lp.kp b_lp .nil pass0 (by exact (pa_cons (pe_slice sl_seq (pv 0) (po_some (pv 1)) po_none) pa_nil))))
  (C8.pss_cut (ps_while PassesOwn.never (pt_weak (PW.pt (pw_and (pt_cmpR op_gt (pv 1) pe_int (nomark _)) (pw_and1 (pt_cmpR op_eq (pe_ix ix_seq (pv 0) (pe_op op_sub (pv 1) pe_int) (fun _ _ => rfl)) (pe_ix ix_seq (pv 0) (pe_op op_add (pe_op op_sub (pv 1) pe_int) (pv 2)) (fun _ _ => rfl)) (nomark _)))))) (pss_one (ps_set (i := 1) sc_lf.nd rfl (Or.inl rfl) (pe_op op_sub (pv 1) pe_int))))
  (pss_one (ps_ret (pe_tup (pa_cons (pv 1) (pa_cons (pv 2) pa_nil))))))), ?_⟩
    have sz : (10000 : Nat) ≤ sizeLine := by show 10000 ≤ 16777216; decide
    have n1 := told.n1
    have dl : (ns.drop bn).length = pn := by rw [List.length_drop, told.len]; omega
    refine ⟨_, rfl, _, rfl, _, rfl, hl.cut fun l2 H2 s2 h2 => ?_⟩
    have ed : cutV (ns.map V.int) (some (bn : Int)) none = (ns.drop bn).map V.int := by rw [cutV_drop, List.map_drop]
    rw [ed] at h2
    refine ⟨l2, t, ns.drop bn, rfl, h2, by omega, by omega, fun H3 a s4 lr => ?_⟩
    have s13 := s2.trans s4
    have hl3 := hl.same s13
    have a2 := lr.p2
    rw [dl] at a2
    have a1 := lr.p1
    refine ⟨fun σ' H' => ∃ k : Nat, σ' = [some (.ref l), some (.int k), some (.int a)] ∧ Same H3 H' ∧ Back ns bn a k, ?_, ?_⟩
    · refine while_by (fun σ' H' => ∃ k : Nat, σ' = [some (.ref l), some (.int k), some (.int a)] ∧ Same H3 H' ∧ k ≤ bn ∧ ∀ i, k ≤ i → i < bn → ns.getD i 0 = ns.getD (i + a) 0) (fun σ' _ => match σ'[1]? with
        | some (some (V.int k)) => k.toNat
        | _ => 0) ⟨bn, rfl, fun _ _ z => z, Nat.le_refl _, fun i a b => by omega⟩ ?_ weakT_mono
      rintro σ' H' ⟨k, rfl, s, k1, same⟩
      refine weakT_of ?_
      have at2 := (hl3.same s).ii
      refine ⟨_, rfl, _, _, rfl, rfl, _, rfl, ?_⟩
      refine ite2 (fun c => ?_) (fun c => ?_)
      · have c1 : 0 < k := by have q : (0 : Int) < (k : Int) := of_decide_eq_true c; omega
        have g1 : ns[k - 1]? = some (ns.getD (k - 1) 0) := by
          rw [List.getD_eq_getElem?_getD, List.getElem?_eq_getElem (by rw [told.len]; omega)]
          rfl
        have g2 : ns[k - 1 + a]? = some (ns.getD (k - 1 + a) 0) := by
          rw [List.getD_eq_getElem?_getD, List.getElem?_eq_getElem (by rw [told.len]; omega)]
          rfl
        have h1 : atI (ns.map V.int) ((k : Int) - 1) = some (.int (ns.getD (k - 1) 0)) := by
          have q := at_nat' (xs := ns.map V.int) (i := k - 1) (v := .int (ns.getD (k - 1) 0)) (by rw [List.getElem?_map, g1]; rfl)
          rw [show ((k - 1 : Nat) : Int) = (k : Int) - 1 by omega] at q
          exact q
        have h2 : atI (ns.map V.int) ((k : Int) - 1 + a) = some (.int (ns.getD (k - 1 + a) 0)) := by
          have q := at_nat' (xs := ns.map V.int) (i := k - 1 + a) (v := .int (ns.getD (k - 1 + a) 0)) (by rw [List.getElem?_map, g2]; rfl)
          rw [show ((k - 1 + a : Nat) : Int) = (k : Int) - 1 + a by omega] at q
          exact q
        refine ⟨_, rfl, _, rfl, _, _, rfl, rfl, at2.ix h1 ⟨_, rfl, _, rfl, _, _, rfl, rfl, _, rfl, _, _, rfl, rfl, at2.ix h2 ⟨rfl, _, rfl, ?_⟩⟩⟩
        refine ite2 (fun d => ?_) (fun d => ?_)
        · have d1 : ns.getD (k - 1) 0 = ns.getD (k - 1 + a) 0 := V.int.inj (of_decide_eq_true d)
          refine ⟨_, rfl, _, _, rfl, rfl, ⟨k - 1, by rw [show ((k - 1 : Nat) : Int) = (k : Int) - 1 by omega]; rfl, s, by omega, fun i h1 h2 => ?_⟩, ?_⟩
          · by_cases e : i = k - 1
            · rw [e]; exact d1
            · exact same i (by omega) h2
          · show ((k : Int) - 1).toNat < (k : Int).toNat
            omega
        · exact ⟨k, rfl, s, k1, same, .inr fun y => d (decide_eq_true (by rw [y]))⟩
      · have c1 : k = 0 := by
          have q : ¬ (0 : Int) < (k : Int) := fun y => c (decide_eq_true y)
          omega
        exact iteF ⟨k, rfl, s, k1, same, .inl c1⟩
    rintro σ' H4 ⟨k, rfl, s5, back⟩
    have form := prog_form told lr back
    have le := back.le
    refine ⟨_, rfl, _, rfl, by show 2 ≤ sizeLine; omega, fun u hu => ?_⟩
    exact fin _ u k a ((s13.trans s5).trans (Same.new hu)) upd_same form (by omega)
end
end Fz
set_option Elab.async false
set_option linter.all false
set_option maxRecDepth 100000
set_option maxHeartbeats 2000000
namespace Fz
open PySem PySem.Spec PyProof.Rows L2
/-- one step of a reading -/
local macro_rules | `(tactic| walk_at "st") => `(tactic| first
  | refine ⟨_, rfl, ?_⟩
  | refine Or.inl ⟨_, rfl, ?_⟩
  | refine Or.inr ⟨_, rfl, ?_⟩
  | refine ⟨_, _, _, _, rfl, rfl, SqL.of (by first | assumption | exact upd_same), rfl, ?_⟩
  | refine ⟨_, _, _, _, rfl, rfl, (by first | assumption | exact upd_same), rfl, ?_⟩
  | refine ⟨_, _, rfl, .inl ⟨_, SqL.of (by first | assumption | exact upd_same), rfl⟩, ?_⟩
  | refine ⟨_, _, rfl, rfl, (show (0 : Int) < _ by first | decide | omega), ?_⟩
  | refine ⟨_, _, rfl, rfl, (show (0 : Int) < _ ∧ _ < _ by first | exact ⟨by decide, by decide⟩ | omega), ?_⟩
  | refine ⟨_, _, rfl, rfl, (show (_ < _ ∧ _ < _) ∨ (_ < _ ∧ _ < _) by first | exact .inl ⟨by decide, by decide⟩ | omega), ?_⟩
  | refine ⟨_, _, rfl, rfl, (show (0 : Int) ≤ _ ∧ _ ≤ _ ∧ _ < _ by first | exact ⟨by decide, by decide, by decide⟩ | exact ⟨by decide, by decide, by omega⟩), ?_⟩
  | refine ⟨_, _, rfl, rfl, ?_⟩)

section
variable {P : Program} {w : World} {K : PySem.W.Frag} {mg : Str → Option Value} {base : Heap}

abbrev s_ti : Stmt := inClass (topS 20) 1
theorem sc_ti : FnScope ["self", "begin", "period", "numbers", "number"] ["self", "begin", "period", "numbers"] (defScope s_ti) := ⟨rfl, rfl, rfl, by decide +kernel, rfl, by decide +kernel, by decide +kernel⟩
theorem ok_ti {CB CT f fN fBt fCr fLp fLf : Addr} {fd fdN fdBt fdCr fdLp fdLf : FuncData} (F : Fun K "__init__" "Table.__init__" s_ti f fd) (U : Blt mg) (TC : TabC K CT) (N : Fun K "is_number" "is_number" s_is_number fN fdN) (gN : mg "is_number" = some (.ref fN)) (b_num : L2.Binds K fdN ["value", "least", "most"] [])
    (PB : PrgF K mg "BadTable" "part" CB fBt) (Bt : Fun K "__init__" "BadTable.__init__" s_bt fBt fdBt) (b_bt : L2.Binds K fdBt ["self", "part"] []) {tMO : Tok} (gMO : mg "MOST" = some (.int 1000 tMO)) {tMW : Tok} (gMW : mg "MOST_WORTH" = some (.int 400 tMW))
    (Cr : Fun K "check_row" "check_row" s_cr fCr fdCr) (gCr : mg "check_row" = some (.ref fCr)) (b_cr : L2.Binds K fdCr ["begin", "period", "told", "part"] [])
    (Lp : Fun K "least_period" "least_period" s_lp fLp fdLp) (gLp : mg "least_period" = some (.ref fLp)) (b_lp : L2.Binds K fdLp ["again"] [])
    (Lf : Fun K "least_form" "least_form" s_lf fLf fdLf) (gLf : mg "least_form" = some (.ref fLf)) (b_lf : L2.Binds K fdLf ["told", "begin"] []) : FnOk P w K mg base (L2.CX P w) 5 f fd ["self", "begin", "period", "numbers"] (spTable CB CT) := by
  have G_num : FnOk P w K mg base CX0 1 fN fdN ["value", "least", "most"] spNum := ok_is_number N U
  have G_bt : FnOk P w K mg base CX0 1 fBt fdBt ["self", "part"] (spErrI CB "part") := ok_bt Bt PB
  have G_cr : FnOk P w K mg base (L2.CX P w) 3 fCr fdCr ["begin", "period", "told", "part"] (spCheckR CB) := ok_cr Cr U N gN b_num PB Bt b_bt gMO
  have G_lf : FnOk P w K mg base CX0 2 fLf fdLf ["told", "begin"] spLeastF := ok_lf Lf U Lp gLp b_lp
  refine F.okX sc_ti (fun vs H Q E h => ?_) (fun cdv A outer s H vs Q E hr h => ?_)
  · obtain ⟨x, dx, b, p, v, o, rfl, _⟩ := h
    rfl
  · obtain ⟨x, dx, b, p, v, o, rfl, hx, kb, kp, so, ks, bad, fin⟩ := h
    refine ⟨_, (pss_cons (ps_expr (pe_call G_cr (hr.mono (by decide)) rfl gCr Cr.kp b_cr .nil (passes_call (takes_of rfl rfl rfl rfl) (fun _ _ _ _ h => h)) (by exact (pa_cons (pv 1) (pa_cons (pv 2) (pa_cons (pv 3) (pa_cons pe_str pa_nil)))))))
  (C8.pss_cut (ps_if (PW.pt (pw_or (pt_not (pt_val (pe_callB (cr_all rfl) rfl U.z_all (by decide +kernel) (pa_cons (pe_lc (own := [("number", 4)]) rfl sc_ti.nd (pi_seq (pv 3)) (blkOk_by (by kernel_rfl)) (fun s_ H_ C_ cl_ fp_ => (pg_name (i := 4) sc_ti.nd rfl (Or.inl rfl))) (fun s_ H_ C_ cl_ fp_ => pts_nil) (fun s_ H_ C_ cl_ fp_ => (pe_call G_num (hr.mono (by decide)) rfl gN N.kp b_num .nil pass0 (by exact (pa_cons (pv 4) (pa_cons pe_int (pa_cons (pe_glob (v := .int 400) rfl gMW ⟨tMW, rfl⟩) pa_nil))))))) pa_nil)))) (pw_or1 (pt_cmpR op_ne (pe_ix ix_seq (pv 3) pe_int (fun _ _ => rfl)) pe_int (nomark _))))) (pss_one (ps_raise rfl (takes_of rfl rfl rfl rfl) (pmk_oex PB.oB PB.iB PB.tB G_bt (hr.mono (by decide)) b_bt .nil pass0 rfl PB.g_ (by exact (pa_cons pe_str pa_nil))))) pss_nil)
  (pss_cons (ps_asg (pe_call G_lf (hr.mono (by decide)) rfl gLf Lf.kp b_lf .nil pass0 (by exact (pa_cons (pv 3) (pa_cons (pv 1) pa_nil)))) (pg_tup rfl (pgs_cons (pg_fld (pv 0)) (pgs_cons (pg_fld (pv 0)) pgs_nil))))
  (pss_one (ps_fld (pv 0) (pe_callTy call_tuple_of rfl U.z_tuple (by decide +kernel) (pa_cons (pe_slice sl_seq (pv 3) po_none (po_some (pe_op op_add (pe_fld (pv 0) rfl) (pe_fld (pv 0) rfl)))) pa_nil)) rfl))))), ?_⟩
    have sz : (10000 : Nat) ≤ sizeLine := by show 10000 ≤ 16777216; decide
    have mvS : ∀ {Ha Hb : Hp}, Same Ha Hb → Mv x Ha Hb := fun s b o _ e => s b o e
    refine ⟨_, rfl, _, rfl, _, rfl, b, p, v, "numbers", o, rfl, kb, kp, so, fun xs e => (ks xs e).1, fun z H' e s => bad z H' (dueW_some e) (mvS s), fun due H1 s1 => ?_⟩
    obtain ⟨bn, pn, xs, rfl, rfl, rfl, b1, p0, p1, len, unf⟩ := dueW_none due
    obtain ⟨l, rfl, hl⟩ := so
    obtain ⟨few, kds⟩ := ks xs rfl
    obtain ⟨t, hbA⟩ := hl.bb
    have hl0 := hl.same s1
    have x0 : 0 < xs.length := by omega
    -- what stands behind the asking of all items
    have rest : ∀ H3 D, H3 D = some (.lst ((xs.map (numV 0 400)).map V.bl)) → ∀ C : Bool → Hp → Prop, (xs.all (numV 0 400) = false → C false H3) → (xs.all (numV 0 400) = true → C true H3) → rAll K [.ref D] H3 (fun x H4 => ∃ k, x = .bl k ∧ C k H4) := fun H3 D hD C cf ct => by
      refine ⟨D, xs.map (numV 0 400), rfl, SqL.of hD, _, rfl, ?_⟩
      have al : (xs.map (numV 0 400)).all id = xs.all (numV 0 400) := by rw [List.all_map]; rfl
      rw [al]
      cases e3 : xs.all (numV 0 400) with
      | false => exact cf e3
      | true => exact ct e3
    have bads : ∀ H3, Same H H3 → xs.all (numV 0 400) = false → BadE CB "part" (.str "numbers") E H3 := fun H3 s3 e3 => bad _ H3 (by rw [unf]; unfold worthsOk; rw [e3]; rfl) (mvS s3)
    have goods : ∀ H3, Same H H3 → xs.all (numV 0 400) = true → ∃ n0 : Int, atI xs 0 = some (.int n0) ∧ SeqAt2 H3 l xs ∧ (n0 ≠ 0 → BadE CB "part" (.str "numbers") E H3) ∧ (n0 = 0 → dueT (.int bn) (.int pn) (some xs) = none) := fun H3 s3 e3 => by
      obtain ⟨ns, rfl, fit⟩ := all_ints e3
      rw [List.length_map] at x0
      have e4 : (ns.map V.int)[0]? = some (.int ns[0]) := by rw [List.getElem?_map, List.getElem?_eq_getElem x0]; rfl
      refine ⟨ns[0], at_nat' (i := 0) e4, hl.same s3, fun d1 => bad _ H3 ?_ (mvS s3), fun d1 => ?_⟩
      · rw [unf]
        unfold worthsOk
        rw [e3, e4, decide_eq_false (fun y => d1 (V.int.inj (Option.some.inj y)))]
        rfl
      · rw [unf]
        unfold worthsOk
        rw [e3, e4, d1, decide_eq_true rfl]
        rfl
    have step : ∀ (D : Addr) (i : Nat) (y : V) (H' : Hp), xs[i]? = some y → Same H1 H' → H' D = some (.lst (((xs.take i).map (numV 0 400)).map V.bl)) → Kd H' y ∧ ((xs.take i).map (numV 0 400)).length < sizeLine ∧ ((xs.take (i + 1)).map (numV 0 400)).map V.bl = ((xs.take i).map (numV 0 400)).map V.bl ++ [V.bl (numV 0 400 y)] := fun D i y H' hy sH hD => by
      refine ⟨(kds y (List.mem_of_getElem? hy)).same (s1.trans sH), by rw [List.length_map, List.length_take]; omega, ?_⟩
      rw [List.take_succ, hy]
      simp
    have tk : xs.take xs.length = xs := List.take_length
    refine ⟨fun σ' H' => ∃ v4 : Option V, σ' = [some (.ref x), some (.int bn), some (.int pn), some (.ref l), v4] ∧ Same H H' ∧ dueT (.int bn) (.int pn) (some xs) = none, ?_, ?_⟩
    rotate_left
    · rintro σ' H3 ⟨v4, rfl, s3, due3⟩
      obtain ⟨bn', pn', ns, e1, e2, e3, _, _, _, told, z0⟩ := dueT_none due3
      obtain rfl : bn' = bn := by have := V.int.inj e1; omega
      obtain rfl : pn' = pn := by have := V.int.inj e2; omega
      obtain rfl := Option.some.inj e3
      have hb3 : SqB t H3 l (ns.map V.int) := hbA.same s3
      rw [List.length_map] at few
      have hx3 : H3 x = some (.ins CT dx []) := s3 _ _ hx
      refine ⟨_, rfl, _, rfl, l, t, ns, bn', pn', rfl, hb3, told, by omega, fun H4 u k a s4 hu form le => ?_⟩
      have hx4 : H4 x = some (.ins CT dx []) := s4 _ _ hx3
      have hb4 := hb3.same s4
      refine ⟨u, _, rfl, SqT.of hu, rfl, _, _, rfl, ⟨_, rfl, x, CT, dx, _, rfl, hx4, TC.cl, TC.nBegin, by show 0 < 1000; decide, ?_⟩⟩
      refine ⟨_, _, rfl, ⟨_, rfl, x, CT, dx, _, rfl, upd_same, TC.cl, TC.nPeriod, by show 1 < 1000; decide, rfl, ?_⟩⟩
      rw [upd_upd]
      have lx : l ≠ x := fun z => by
        have q := (hl.same s3).same s4
        rw [z] at q
        rcases q with q | q <;> (rw [hx4] at q; cases q)
      have hb5 : ∀ o, SqB t (upd H4 x o) l (ns.map V.int) := fun o => by
        show upd H4 x o l = _
        rw [upd_ne lx]
        exact hb4
      refine ⟨_, rfl, _, rfl, x, CT, dx, _, _, rfl, upd_same, TC.cl, TC.nBegin, rfl, _, rfl, x, CT, dx, _, _, rfl, upd_same, TC.cl, TC.nPeriod, rfl, _, _, rfl, rfl, _, rfl, (hb5 _).cut fun l3 H5 s5 h5 => ?_⟩
      have et : cutV (ns.map V.int) none (some ((k : Int) + a)) = (nums (atW ns bn' pn') (k + a)).map V.int := by
        have q := cutV_take (ns.map V.int) (k + a)
        rw [show ((k + a : Nat) : Int) = (k : Int) + a by omega] at q
        rw [q, ← List.map_take, take_nums told (by omega)]
      rw [et] at h5
      have fin2 : ∀ l4 H6, Same H5 H6 → H6 l4 = some (.tup ((nums (atW ns bn' pn') (k + a)).map V.int)) → Q .non (upd H6 x (.ins CT dx (tfs k a l4))) := fun l4 H6 s6 h6 => by
        have hx6 := s6 _ _ (s5 _ _ upd_same)
        have n4 : l4 ≠ x := fun z => by rw [z, hx6] at h6; cases h6
        refine fin due3 bn' pn' ns rfl rfl rfl told _ k a form le (fun b o nb e => ?_) ⟨l4, upd_same, ?_⟩
        · rw [upd_ne nb]
          refine s6 _ _ (s5 _ _ ?_)
          rw [upd_ne nb]
          exact s4 _ _ (s3 _ _ e)
        · rw [upd_ne n4]
          exact h6
      cases t with
      | false =>
        refine ⟨_, _, rfl, .inl ⟨SqL.of h5, fun l4 h4 => ?_⟩⟩
        have s6 := Same.new (o := .tup ((nums (atW ns bn' pn') (k + a)).map V.int)) h4
        exact ⟨_, rfl, x, CT, dx, _, rfl, s6 _ _ (s5 _ _ upd_same), TC.cl, TC.nNumbers, by show 2 < 1000; decide, fin2 l4 _ s6 upd_same⟩
      | true =>
        refine ⟨_, _, rfl, .inr ⟨SqT.of h5, ?_⟩⟩
        exact ⟨_, rfl, x, CT, dx, _, rfl, s5 _ _ upd_same, TC.cl, TC.nNumbers, by show 2 < 1000; decide, fin2 l3 _ (fun _ _ z => z) h5⟩
    rcases hl0 with hl1 | hl1
    · refine .inl ⟨_, rfl, l, rfl, ⟨_, SqL.of hl1⟩, fun D hD => ?_⟩
      refine lc_list (K := K) (a := l) (xs := xs) (fun i H' => Same H1 H' ∧ H' D = some (.lst (((xs.take i).map (numV 0 400)).map V.bl))) ⟨Same.new hD, upd_same⟩ (fun i H' _ q => SqL.of (q.1 _ _ hl1)) (fun i y H' hi q => ?_) (fun H' q => ?_)
      · obtain ⟨kd, lt, ex⟩ := step D i y H' hi q.1 q.2
        refine ⟨rfl, ?_⟩
        refine iteT (B := Same H1 H' ∧ H' D = some (.lst (((xs.take (i + 1)).map (numV 0 400)).map V.bl))) ?_
        refine ⟨_, rfl, y, 0, 400, rfl, kd, _, q.2, by rw [List.length_map]; exact lt, fun b o e => ?_, ?_⟩
        · have nb : b ≠ D := fun z => by rw [z, hD] at e; cases e
          rw [upd_ne nb]
          exact q.1 b o e
        · rw [upd_same, ex]
      · refine rest H' D (by rw [← tk]; exact q.2) _ (fun e3 => ?_) (fun e3 => ?_)
        · exact iteT (iteT (baded (W := fun cls d _ H => E cls d H) (bads H' (s1.trans q.1) e3) fun _ _ _ z => z))
        · obtain ⟨n0, at0, sq, ne, eq⟩ := goods H' (s1.trans q.1) e3
          refine iteF ⟨_, rfl, sq.ix at0 ⟨rfl, _, rfl, ?_⟩⟩
          refine ite2 (fun d => ?_) (fun d => ?_)
          · refine baded (W := fun cls d _ H => E cls d H) (ne fun y => ?_) fun _ _ _ z => z
            have q : (!decide (V.int n0 = V.int 0)) = true := d
            rw [y, decide_eq_true rfl] at q
            cases q
          · exact ⟨_, rfl, s1.trans q.1, eq (Classical.byContradiction fun y => d (by
              show (!decide (V.int n0 = V.int 0)) = true
              rw [decide_eq_false fun z => y (V.int.inj z)]
              rfl))⟩
    · refine .inr ⟨_, rfl, l, rfl, ⟨_, SqT.of hl1⟩, fun D hD => ?_⟩
      refine lc_it (walk_tup (K := K) (a := l) (xs := xs)) (fun i H' => Same H1 H' ∧ H' D = some (.lst (((xs.take i).map (numV 0 400)).map V.bl))) ⟨Same.new hD, upd_same⟩ (fun i H' _ q => SqT.of (q.1 _ _ hl1)) (fun i y H' H'' lt q yy => ?_) (fun H' q => ?_)
      · obtain ⟨rfl, hi⟩ := yy
        obtain ⟨kd, lt, ex⟩ := step D i y H'' hi q.1 q.2
        refine ⟨rfl, ?_⟩
        refine iteT (B := Same H1 H'' ∧ H'' D = some (.lst (((xs.take (i + 1)).map (numV 0 400)).map V.bl))) ?_
        refine ⟨_, rfl, y, 0, 400, rfl, kd, _, q.2, by rw [List.length_map]; exact lt, fun b o e => ?_, ?_⟩
        · have nb : b ≠ D := fun z => by rw [z, hD] at e; cases e
          rw [upd_ne nb]
          exact q.1 b o e
        · rw [upd_same, ex]
      · refine rest H' D (by rw [← tk]; exact q.2) _ (fun e3 => ?_) (fun e3 => ?_)
        · exact iteT (iteT (baded (W := fun cls d _ H => E cls d H) (bads H' (s1.trans q.1) e3) fun _ _ _ z => z))
        · obtain ⟨n0, at0, sq, ne, eq⟩ := goods H' (s1.trans q.1) e3
          refine iteF ⟨_, rfl, sq.ix at0 ⟨rfl, _, rfl, ?_⟩⟩
          refine ite2 (fun d => ?_) (fun d => ?_)
          · refine baded (W := fun cls d _ H => E cls d H) (ne fun y => ?_) fun _ _ _ z => z
            have q : (!decide (V.int n0 = V.int 0)) = true := d
            rw [y, decide_eq_true rfl] at q
            cases q
          · exact ⟨_, rfl, s1.trans q.1, eq (Classical.byContradiction fun y => d (by
              show (!decide (V.int n0 = V.int 0)) = true
              rw [decide_eq_false fun z => y (V.int.inj z)]
              rfl))⟩
end
end Fz
set_option Elab.async false
set_option linter.all false
set_option maxRecDepth 100000
set_option maxHeartbeats 2000000
namespace Fz
open PySem PySem.Spec PyProof.Rows L2
/-- one step of a reading -/
local macro_rules | `(tactic| walk_at "st") => `(tactic| first
  | refine ⟨_, rfl, ?_⟩
  | refine Or.inl ⟨_, rfl, ?_⟩
  | refine Or.inr ⟨_, rfl, ?_⟩
  | refine ⟨_, _, _, _, rfl, rfl, SqL.of (by first | assumption | exact upd_same), rfl, ?_⟩
  | refine ⟨_, _, _, _, rfl, rfl, (by first | assumption | exact upd_same), rfl, ?_⟩
  | refine ⟨_, _, rfl, .inl ⟨_, SqL.of (by first | assumption | exact upd_same), rfl⟩, ?_⟩
  | refine ⟨_, _, rfl, rfl, (show (0 : Int) < _ by first | decide | omega), ?_⟩
  | refine ⟨_, _, rfl, rfl, (show (0 : Int) < _ ∧ _ < _ by first | exact ⟨by decide, by decide⟩ | omega), ?_⟩
  | refine ⟨_, _, rfl, rfl, (show (_ < _ ∧ _ < _) ∨ (_ < _ ∧ _ < _) by first | exact .inl ⟨by decide, by decide⟩ | omega), ?_⟩
  | refine ⟨_, _, rfl, rfl, (show (0 : Int) ≤ _ ∧ _ ≤ _ ∧ _ < _ by first | exact ⟨by decide, by decide, by decide⟩ | exact ⟨by decide, by decide, by omega⟩), ?_⟩
  | refine ⟨_, _, rfl, rfl, ?_⟩)

section
variable {P : Program} {w : World} {K : PySem.W.Frag} {mg : Str → Option Value} {base : Heap}

abbrev s_eqT : Stmt := inClass (topS 20) 3
theorem sc_eqT : FnScope ["self", "other"] ["self", "other"] (defScope s_eqT) := ⟨rfl, rfl, rfl, by decide +kernel, rfl, by decide +kernel, by decide +kernel⟩
theorem tfs_b (b p : Int) (t : Addr) : (tfs b p t).lookup ("begin" : Str) = some (.int b) := rfl
theorem tfs_p (b p : Int) (t : Addr) : (tfs b p t).lookup ("period" : Str) = some (.int p) := rfl
theorem tfs_n (b p : Int) (t : Addr) : (tfs b p t).lookup ("numbers" : Str) = some (.ref t) := rfl
/-- == of tables -/
def spEqT (K : PySem.W.Frag) (CT : Addr) : Sp := fun vs H Q _ => ∃ (a : Addr) (b p : Nat) (ns : List Int) (y : V), vs = [.ref a, y] ∧ TabAt CT H a b p ns ∧
  ((∃ (c : Addr) (b' p' : Nat) (ms : List Int), y = .ref c ∧ TabAt CT H c b' p' ms ∧ Q (.bl (decide (b = b' ∧ p = p' ∧ ns = ms))) H) ∨ ∃ t, TyX K H y t ∧ PySem.W.kitOne K t (.ref CT) = some false ∧ Q (.bl false) H)
theorem ok_eqT {CT f : Addr} {fd : FuncData} (F : Fun K "__eq__" "Table.__eq__" s_eqT f fd) (U : Blt mg) (gTab : mg "Table" = some (.ref CT)) (TC : TabC K CT) (ty : TyC K CT) (self_ : PySem.W.kitOne K (.ref CT) (.ref CT) = some true) : FnOk P w K mg base CX0 1 f fd ["self", "other"] (spEqT K CT) := by
  refine F.ok sc_eqT (fun vs H Q E h => ?_) (fun cdv A outer s H vs Q E hr h => ?_)
  · obtain ⟨a, b, p, ns, y, rfl, _⟩ := h
    rfl
  · obtain ⟨a, b, p, ns, y, rfl, ⟨dx, t, ha, ht⟩, how⟩ := h
    refine ⟨_, (pss_one (ps_ret (pe_and (pe_callB call_isi rfl U.z_isinstance (by decide +kernel) (pa_cons (pv 1) (pa_cons (pe_glob (v := .ref _) rfl gTab rfl) pa_nil))) (pe_and (pe_cmpR op_eq (pe_fld (pv 0) rfl) (pe_fld (pv 1) rfl) (nomark _)) (pe_and (pe_cmpR op_eq (pe_fld (pv 0) rfl) (pe_fld (pv 1) rfl) (nomark _)) (pe_one (pe_cmpR (op_eqD hr.units) (pe_fld (pv 0) rfl) (pe_fld (pv 1) rfl) (nomark _)))))))), ?_⟩
    rcases how with ⟨c, b', p', ms, rfl, ⟨dy, u, hc, hu⟩, fin⟩ | ⟨t', tyx, no, fin⟩
    · refine ⟨_, rfl, _, _, _, _, _, rfl, .own CT, ty.ty TC.cl hc, self_, _, rfl, iteT ?_⟩
      refine ⟨_, rfl, a, CT, dx, _, _, rfl, ha, TC.cl, TC.nBegin, tfs_b _ _ _, _, rfl, c, CT, dy, _, _, rfl, hc, TC.cl, TC.nBegin, tfs_b _ _ _, rfl, _, rfl, ?_⟩
      refine ite2 (fun e1 => ?_) (fun e1 => ?_)
      · have q1 : b = b' := by have z := V.int.inj (of_decide_eq_true e1); omega
        refine ⟨_, rfl, a, CT, dx, _, _, rfl, ha, TC.cl, TC.nPeriod, tfs_p _ _ _, _, rfl, c, CT, dy, _, _, rfl, hc, TC.cl, TC.nPeriod, tfs_p _ _ _, rfl, _, rfl, ?_⟩
        refine ite2 (fun e2 => ?_) (fun e2 => ?_)
        · have q2 : p = p' := by have z := V.int.inj (of_decide_eq_true e2); omega
          refine ⟨_, rfl, a, CT, dx, _, _, rfl, ha, TC.cl, TC.nNumbers, tfs_n _ _ _, _, rfl, c, CT, dy, _, _, rfl, hc, TC.cl, TC.nNumbers, tfs_n _ _ _, eq_tups ht hu ?_⟩
          rw [show decide (b = b' ∧ p = p' ∧ ns = ms) = decide (ns = ms) from by simp [q1, q2]] at fin
          exact fin
        · have q2 : ¬ p = p' := fun z => e2 (decide_eq_true (by rw [z]))
          rw [decide_eq_false (fun z => q2 z.2.1)] at fin
          exact fin
      · have q1 : ¬ b = b' := fun z => e1 (decide_eq_true (by rw [z]))
        rw [decide_eq_false (fun z => q1 z.1)] at fin
        exact fin
    · exact ⟨_, rfl, _, _, _, _, _, rfl, .own CT, tyx, no, _, rfl, iteF fin⟩
abbrev s_strT : Stmt := inClass (topS 20) 4
theorem sc_strT : FnScope ["self", "words", "number"] ["self"] (defScope s_strT) := ⟨rfl, rfl, rfl, by decide +kernel, rfl, by decide +kernel, by decide +kernel⟩
def spStrT (CT : Addr) : Sp := fun vs H Q _ => ∃ (a : Addr) (b p : Nat) (ns : List Int), vs = [.ref a] ∧ TabAt CT H a b p ns ∧ ns.length ≤ 2000 ∧ (∀ n ∈ ns, 0 ≤ n ∧ n ≤ 400) ∧ ∀ H' z, Same H H' → Q (.str z) H'
theorem ok_strT {CT f : Addr} {fd : FuncData} (F : Fun K "__str__" "Table.__str__" s_strT f fd) (U : Blt mg) (TC : TabC K CT) : FnOk P w K mg base CX0 1 f fd ["self"] (spStrT CT) := by
  refine F.ok sc_strT (fun vs H Q E h => ?_) (fun cdv A outer s H vs Q E hr h => ?_)
  · obtain ⟨a, b, p, ns, rfl, _⟩ := h
    rfl
  · obtain ⟨a, b, p, ns, rfl, ⟨dx, t, ha, ht⟩, few, fit, fin⟩ := h
    refine ⟨_, (pss_cons (ps_setLc (i := 1) (own := [("number", 2)]) rfl sc_strT.nd rfl rfl (sw_true rfl rfl rfl (by decide +kernel)) (pi_tup (pe_fld (pv 0) rfl)) (blkOk_by (by kernel_rfl)) (fun s_ H_ C_ cl_ fp_ => (pg_name (i := 2) sc_strT.nd rfl (Or.inl rfl))) (fun s_ H_ C_ cl_ fp_ => pts_nil) (fun s_ H_ C_ cl_ fp_ => (pe_callTy call_str_int rfl U.z_str (by decide +kernel) (pa_cons (pv 2) pa_nil))))
  (pss_one (ps_ret (pe_join pe_str (pe_lst (StX.pa_star (pe_slice sl_list (pv 1) po_none (po_some (pe_fld (pv 0) rfl))) (pa_cons pe_str (StX.pa_star (pe_slice sl_list (pv 1) (po_some (pe_fld (pv 0) rfl)) po_none) pa_nil)))))))), ?_⟩
    have sz : (100000 : Nat) ≤ sizeLine := by show 100000 ≤ 16777216; decide
    refine ⟨_, rfl, a, CT, dx, _, _, rfl, ha, TC.cl, TC.nNumbers, tfs_n _ _ _, t, rfl, ⟨_, SqT.of ht⟩, fun D hD => ?_⟩
    refine lc_it (walk_tup (K := K) (a := t) (xs := ns.map V.int)) (fun i H' => Same H H' ∧ H' D = some (.lst (((ns.take i).map iT).map V.str))) ⟨Same.new hD, upd_same⟩ (fun i H' _ q => SqT.of (q.1 _ _ ht)) (fun i y H' H'' lt q yy => ?_) (fun H' q => ?_)
    · obtain ⟨rfl, hi⟩ := yy
      rw [List.length_map] at lt
      rw [List.getElem?_map, List.getElem?_eq_getElem lt] at hi
      cases hi
      have ft := fit _ (List.getElem_mem lt)
      refine ⟨rfl, ?_⟩
      refine iteT (B := Same H H'' ∧ H'' D = some (.lst (((ns.take (i + 1)).map iT).map V.str))) ?_
      refine ⟨_, rfl, _, rfl, num_log ft.1 ft.2, _, q.2, by rw [List.length_map, List.length_map, List.length_take]; omega, fun b o e => ?_, ?_⟩
      · have nb : b ≠ D := fun z => by rw [z, hD] at e; cases e
        rw [upd_ne nb]
        exact q.1 b o e
      · rw [upd_same, List.take_succ, List.getElem?_eq_getElem lt, List.map_append, List.map_append]
        rfl
    · obtain ⟨s1, hd⟩ := q
      rw [List.length_map, List.take_length] at hd
      have ha1 := s1 _ _ ha
      refine ⟨⟨_, rfl⟩, ?_⟩
      refine ⟨_, rfl, _, rfl, a, CT, dx, _, _, rfl, ha1, TC.cl, TC.nBegin, tfs_b _ _ _, _, rfl, _, _, rfl, SqL.of hd, fun l1 h1 => ?_⟩
      have u1 := Same.new (o := .lst (cutV (((ns.map iT).map V.str)) none (some (b : Int)))) h1
      refine ⟨_, _, rfl, .inr (SqL.of upd_same), ?_⟩
      refine ⟨_, rfl, _, rfl, a, CT, dx, _, _, rfl, u1 _ _ ha1, TC.cl, TC.nBegin, tfs_b _ _ _, _, rfl, _, _, rfl, SqL.of (u1 _ _ hd), fun l2 h2 => ?_⟩
      have u2 := Same.new (o := .lst (cutV (((ns.map iT).map V.str)) (some (b : Int)) none)) h2
      refine ⟨_, _, rfl, .inr (SqL.of upd_same), ?_⟩
      have e1 : cutV ((ns.map iT).map V.str) none (some (b : Int)) = ((ns.map iT).take b).map V.str := by rw [cutV_take, List.map_take]
      have e2 : cutV ((ns.map iT).map V.str) (some (b : Int)) none = ((ns.map iT).drop b).map V.str := by rw [cutV_drop, List.map_drop]
      have ea : ((ns.map iT).take b).map V.str ++ V.str "|" :: (((ns.map iT).drop b).map V.str ++ []) = ((ns.map iT).take b ++ ("|" : Str) :: (ns.map iT).drop b).map V.str := by
        rw [List.append_nil, List.map_append, List.map_cons]
      have lw : ((ns.map iT).take b ++ ("|" : Str) :: (ns.map iT).drop b).length ≤ 2001 := by
        rw [List.length_append, List.length_cons, List.length_take, List.length_drop, List.length_map]
        omega
      have each : ∀ z ∈ (ns.map iT).take b ++ ("|" : Str) :: (ns.map iT).drop b, z.length ≤ 10 := fun z hz => by
        have nm : ∀ z ∈ ns.map iT, z.length ≤ 10 := fun z hz => by
          obtain ⟨n, hn, rfl⟩ := List.mem_map.mp hz
          exact num_short (fit n hn).1 (fit n hn).2
        rcases List.mem_append.mp hz with h | h
        · exact nm z (List.mem_of_mem_take h)
        · rcases List.mem_cons.mp h with rfl | h
          · decide +kernel
          · exact nm z (List.mem_of_mem_drop h)
      refine ⟨by
        have q := congrArg List.length ea
        rw [List.length_map] at q
        rw [e1, e2]
        exact Nat.le_trans (Nat.le_of_eq q) (by omega), fun l3 h3 => ?_⟩
      have u3 := Same.new (o := .lst (cutV ((ns.map iT).map V.str) none (some (b : Int)) ++ V.str "|" :: (cutV ((ns.map iT).map V.str) (some (b : Int)) none ++ []))) h3
      have sum : ∀ xs : List Str, (∀ y ∈ xs, y.length ≤ 10) → (xs.map (·.length)).sum ≤ xs.length * 10 := fun xs => by
        induction xs with
        | nil => intro _; simp
        | cons y r ih =>
          intro h
          have a := h y (List.mem_cons_self ..)
          have b := ih fun x hx => h x (List.mem_cons_of_mem _ hx)
          rw [List.map_cons, List.sum_cons, List.length_cons]
          omega
      have sm := sum _ each
      refine ⟨_, l3, (ns.map iT).take b ++ ("|" : Str) :: (ns.map iT).drop b, rfl, rfl, .inl (SqL.of ?_), ?_, fin _ _ (((s1.trans u1).trans u2).trans u3)⟩
      · rw [upd_same, e1, e2, ea]
      · have c1 : (" " : Str).length = 1 := by decide +kernel
        rw [c1]
        omega
end
end Fz
set_option Elab.async false
set_option linter.all false
set_option maxRecDepth 100000
set_option maxHeartbeats 2000000
namespace Fz
open PySem PySem.Spec PyProof.Rows L2
/-- one step of a reading -/
local macro_rules | `(tactic| walk_at "st") => `(tactic| first
  | refine ⟨_, rfl, ?_⟩
  | refine Or.inl ⟨_, rfl, ?_⟩
  | refine Or.inr ⟨_, rfl, ?_⟩
  | refine ⟨_, _, _, _, rfl, rfl, SqL.of (by first | assumption | exact upd_same), rfl, ?_⟩
  | refine ⟨_, _, _, _, rfl, rfl, (by first | assumption | exact upd_same), rfl, ?_⟩
  | refine ⟨_, _, rfl, .inl ⟨_, SqL.of (by first | assumption | exact upd_same), rfl⟩, ?_⟩
  | refine ⟨_, _, rfl, rfl, (show (0 : Int) < _ by first | decide | omega), ?_⟩
  | refine ⟨_, _, rfl, rfl, (show (0 : Int) < _ ∧ _ < _ by first | exact ⟨by decide, by decide⟩ | omega), ?_⟩
  | refine ⟨_, _, rfl, rfl, (show (_ < _ ∧ _ < _) ∨ (_ < _ ∧ _ < _) by first | exact .inl ⟨by decide, by decide⟩ | omega), ?_⟩
  | refine ⟨_, _, rfl, rfl, (show (0 : Int) ≤ _ ∧ _ ≤ _ ∧ _ < _ by first | exact ⟨by decide, by decide, by decide⟩ | exact ⟨by decide, by decide, by omega⟩), ?_⟩
  | refine ⟨_, _, rfl, rfl, ?_⟩)

section
variable {P : Program} {w : World} {K : PySem.W.Frag} {mg : Str → Option Value} {base : Heap}

abbrev s_told : Stmt := topS 26
theorem sc_told : FnScope ["_law_pen_here", "_law_menu", "_law_ahead", "_law_turn", "_law_k"] ["_law_pen_here"] (defScope s_told) := ⟨rfl, rfl, rfl, by decide +kernel, rfl, by decide +kernel, by decide +kernel⟩
def TolAt (H : Hp) (t : Addr) (row : List Int) (a n : Nat) : Prop := ∃ r, H t = some (.tup [.ref r, .int a, .int n]) ∧ H r = some (.lst (row.map V.int))
theorem TolAt.same {H H' : Hp} {t : Addr} {row : List Int} {a n : Nat} (h : TolAt H t row a n) (s : Same H H') : TolAt H' t row a n := let ⟨r, x, y⟩ := h; ⟨r, s _ _ x, s _ _ y⟩
def spTold : Sp := fun vs H Q _ => ∃ (n : Nat) (p q : Addr), vs = [.ref p] ∧ PenAt n H p q ∧ n < 90000 ∧ ∀ H' t row a m, PenAt (n + 20) H' p q → Mv p H H' → TolAt H' t row a m → Told row a m → a ≤ 7 → m ≤ 8 → row[0]? = some 0 → Q (.ref t) H'
theorem ok_told {f fD fP : Addr} {fd fdD fdP : FuncData} (F : Fun K "_law_told" "_law_told" s_told f fd) (U : Blt mg) (D : Fun K "_law_draw" "_law_draw" s_draw fD fdD) (gD : mg "_law_draw" = some (.ref fD)) (b_draw : L2.Binds K fdD ["_law_pen_here", "_law_many"] [])
    (Pk : Fun K "_law_pick" "_law_pick" s_pick fP fdP) (gP : mg "_law_pick" = some (.ref fP)) (b_pick : L2.Binds K fdP ["_law_pen_here", "_law_some"] []) : FnOk P w K mg base CX0 3 f fd ["_law_pen_here"] spTold := by
  have G_draw : FnOk P w K mg base CX0 1 fD fdD ["_law_pen_here", "_law_many"] spDraw := ok_draw D U
  have G_pick : FnOk P w K mg base CX0 2 fP fdP ["_law_pen_here", "_law_some"] (spPick K) := ok_pick Pk U D gD b_draw
  refine F.ok sc_told (fun vs H Q E h => ?_) (fun cdv A outer s H vs Q E hr h => ?_)
  · obtain ⟨n, p, q, rfl, _⟩ := h
    rfl
  · obtain ⟨n, p, q, rfl, hp, hn, fin⟩ := h
    refine ⟨_, (C8.pss_cut (ps_par (i := 2) (j := 3) (by rfl) sc_told.nd rfl rfl (by decide) rfl rfl (pa_cons (pe_call G_pick (hr.mono (by decide)) rfl gP Pk.kp b_pick .nil pass0 (by exact (pa_cons (pv 0) (pa_cons (pe_lst (pa_cons pe_int (pa_cons pe_int (pa_cons pe_int (pa_cons pe_int (pa_cons (pe_call G_draw (hr.mono (by decide)) rfl gD D.kp b_draw .nil pass0 (by exact (pa_cons (pv 0) (pa_cons pe_int pa_nil)))) pa_nil)))))) pa_nil)))) (pa_cons (pe_op op_add pe_int (pe_call G_draw (hr.mono (by decide)) rfl gD D.kp b_draw .nil pass0 (by exact (pa_cons (pv 0) (pa_cons pe_int pa_nil))))) pa_nil)) (by rfl))
  (C8.pss_cut (ps_set (i := 1) sc_told.nd rfl (Or.inr rfl) (pe_call G_pick (hr.mono (by decide)) rfl gP Pk.kp b_pick .nil pass0 (by exact (pa_cons (pv 0) (pa_cons (pe_lst (pa_cons (pe_lst (pa_cons pe_int (pa_cons pe_int pa_nil))) (pa_cons (pe_lst (pa_cons pe_int (pa_cons pe_int (pa_cons pe_int pa_nil)))) (pa_cons (pe_lst (pa_cons pe_int (pa_cons pe_int (pa_cons pe_int (pa_cons pe_int (pa_cons pe_int pa_nil)))))) (pa_cons (pe_lst (pa_cons pe_int (pa_cons pe_int (pa_cons pe_int (pa_cons pe_int pa_nil))))) pa_nil))))) pa_nil)))))
  (pss_one (ps_ret (pe_tup (pa_cons (pe_op op_cat (pe_lst (pa_cons pe_int pa_nil)) (pe_lc (own := [("_law_k", 4)]) rfl sc_told.nd (pi_range1 rfl U.z_range (by exact (pa_cons (pe_op op_sub (pe_op op_add (pv 2) (pv 3)) pe_int) pa_nil))) (blkOk_by (by kernel_rfl)) (fun s_ H_ C_ cl_ fp_ => (pg_name (i := 4) sc_told.nd rfl (Or.inl rfl))) (fun s_ H_ C_ cl_ fp_ => pts_nil) (fun s_ H_ C_ cl_ fp_ => (pe_call G_pick (hr.mono (by decide)) rfl gP Pk.kp b_pick .nil pass0 (by exact (pa_cons (pv 0) (pa_cons (pv 1) pa_nil))))))) (pa_cons (pv 2) (pa_cons (pv 3) pa_nil)))))))), ?_⟩
    have sz : (10000 : Nat) ≤ sizeLine := by show 10000 ≤ 16777216; decide
    refine ⟨fun σ' H' => ∃ a m : Nat, σ' = [some (.ref p), none, some (.int a), some (.int m), none] ∧ a ≤ 7 ∧ 1 ≤ m ∧ m ≤ 8 ∧ PenAt (n + 3) H' p q ∧ Mv p H H', ?_, ?_⟩
    · refine ⟨_, rfl, _, rfl, n, p, q, 8, rfl, hp, by omega, by decide, small_log (by decide) (by decide), fun H1 d p1 m1 d0 d1 => ⟨by show 5 ≤ sizeLine; omega, fun l0 hl0 => ?_⟩⟩
      refine ⟨n + 1, p, q, l0, _, rfl, p1.new hl0, by omega, (p1.fresh hl0).1, upd_same, by show 0 < 5; decide, by show 5 ≤ 1000; decide, fun H2 y p2 m2 hy => ?_⟩
      refine ⟨_, rfl, n + 2, p, q, 8, rfl, p2, by omega, by decide, small_log (by decide) (by decide), fun H3 e p3 m3 e0 e1 => ?_⟩
      refine ⟨_, _, rfl, rfl, _, _, rfl, ?_⟩
      obtain ⟨a, rfl, a7⟩ : ∃ a : Nat, y = .int a ∧ a ≤ 7 := by
        obtain ⟨dn, rfl⟩ := Int.eq_ofNat_of_zero_le d0
        simp only [List.mem_cons, List.not_mem_nil, or_false] at hy
        rcases hy with rfl | rfl | rfl | rfl | rfl
        · exact ⟨0, rfl, by decide⟩
        · exact ⟨0, rfl, by decide⟩
        · exact ⟨1, rfl, by decide⟩
        · exact ⟨2, rfl, by decide⟩
        · exact ⟨dn, rfl, by omega⟩
      obtain ⟨en, rfl⟩ := Int.eq_ofNat_of_zero_le e0
      exact ⟨a, 1 + en, by rw [show (((1 + en : Nat)) : Int) = 1 + (en : Int) by omega]; rfl, a7, by omega, by omega, p3, ((m1.trans (Mv.new hl0)).trans m2).trans m3⟩
    rintro σ' H3 ⟨a, m, rfl, a7, m1, m8, p3, mv3⟩
    refine ⟨fun σ' H' => ∃ (u : Addr) (ms : List Int), σ' = [some (.ref p), some (.ref u), some (.int a), some (.int m), none] ∧ u ≠ p ∧ H' u = some (.lst (ms.map V.int)) ∧ 0 < ms.length ∧ ms.length ≤ 5 ∧ (∀ x ∈ ms, 0 ≤ x ∧ x ≤ 400) ∧ PenAt (n + 4) H' p q ∧ Mv p H H', ?_, ?_⟩
    · refine ⟨_, rfl, by show 2 ≤ sizeLine; omega, fun a1 h1 => ⟨by show 3 ≤ sizeLine; omega, fun a2 h2 => ⟨by show 5 ≤ sizeLine; omega, fun a3 h3 => ⟨by show 4 ≤ sizeLine; omega, fun a4 h4 => ⟨by show 4 ≤ sizeLine; omega, fun l0 hl0 => ?_⟩⟩⟩⟩⟩
      have q1 := p3.new (o := .lst [V.int 0, .int 1]) h1
      have q2 := q1.new (o := .lst [V.int 0, .int 1, .int 2]) h2
      have q3 := q2.new (o := .lst [V.int 0, .int 0, .int 1, .int 2, .int 3]) h3
      have q4 := q3.new (o := .lst [V.int 0, .int 1, .int 7, .int 400]) h4
      have u2 := Same.new (o := .lst [V.int 0, .int 1, .int 2]) h2
      have u3 := Same.new (o := .lst [V.int 0, .int 0, .int 1, .int 2, .int 3]) h3
      have u4 := Same.new (o := .lst [V.int 0, .int 1, .int 7, .int 400]) h4
      have u5 := Same.new (o := .lst [V.ref a1, .ref a2, .ref a3, .ref a4]) hl0
      refine ⟨n + 3, p, q, l0, _, rfl, q4.new hl0, by omega, (q4.fresh hl0).1, upd_same, by show 0 < 4; decide, by show 4 ≤ 1000; decide, fun H4 y p4 m4 hy => ?_⟩
      have mv := mv3.trans (((((Mv.new h1).trans (Mv.new h2)).trans (Mv.new h3)).trans (Mv.new h4)).trans ((Mv.new hl0).trans m4))
      simp only [List.mem_cons, List.not_mem_nil, or_false] at hy
      rcases hy with rfl | rfl | rfl | rfl
      · exact ⟨a1, [0, 1], rfl, (p3.fresh h1).1, m4 _ _ (p3.fresh h1).1 (u5 _ _ (u4 _ _ (u3 _ _ (u2 _ _ upd_same)))), by decide, by decide, by decide, p4, mv⟩
      · exact ⟨a2, [0, 1, 2], rfl, (q1.fresh h2).1, m4 _ _ (q1.fresh h2).1 (u5 _ _ (u4 _ _ (u3 _ _ upd_same))), by decide, by decide, by decide, p4, mv⟩
      · exact ⟨a3, [0, 0, 1, 2, 3], rfl, (q2.fresh h3).1, m4 _ _ (q2.fresh h3).1 (u5 _ _ (u4 _ _ upd_same)), by decide, by decide, by decide, p4, mv⟩
      · exact ⟨a4, [0, 1, 7, 400], rfl, (q3.fresh h4).1, m4 _ _ (q3.fresh h4).1 (u5 _ _ upd_same), by decide, by decide, by decide, p4, mv⟩
    rintro σ' H4 ⟨u, ms, rfl, up, hu, ms0, ms5, fit, p4, mv4⟩
    refine ⟨by show 1 ≤ sizeLine; omega, fun l1 hl1 => ?_⟩
    have p5 := p4.new (o := .lst [V.int 0]) hl1
    have s5 := Same.new (o := .lst [V.int 0]) hl1
    have jn : ((a : Int) + m - 1) = ((a + m - 1 : Nat) : Int) := by omega
    refine ⟨_, rfl, _, rfl, _, _, rfl, rfl, _, _, rfl, rfl, _, rfl, by omega, by omega, fun Dl hD => ?_⟩
    have Dp := (p5.fresh hD).1
    refine lc_range (lo := 0) (n := ((a : Int) + m - 1).toNat) (fun i H' => ∃ xs : List Int, PenAt (n + 4 + i) H' p q ∧ Mv p (upd H4 l1 (.lst [V.int 0])) H' ∧ H' Dl = some (.lst (xs.map V.int)) ∧ xs.length = i ∧ ∀ x ∈ xs, 0 ≤ x ∧ x ≤ 400) ⟨[], p5.new hD, Mv.new hD, upd_same, rfl, fun _ z => by cases z⟩ (fun i H' hi q5 => ?_) (fun H' q5 => ?_)
    · obtain ⟨xs, pi, mi, hd, xl, xf⟩ := q5
      refine ⟨rfl, ?_⟩
      refine iteT (B := ∃ xs : List Int, PenAt (n + 4 + (i + 1)) H' p q ∧ Mv p (upd H4 l1 (.lst [V.int 0])) H' ∧ H' Dl = some (.lst (xs.map V.int)) ∧ xs.length = i + 1 ∧ ∀ x ∈ xs, 0 ≤ x ∧ x ≤ 400) ?_
      refine ⟨_, rfl, _, rfl, n + 4 + i, p, q, u, _, rfl, pi, by omega, up, mi _ _ up (s5 _ _ hu), by rw [List.length_map]; exact ms0, by rw [List.length_map]; omega, fun H5 y p6 m6 hy => ?_⟩
      obtain ⟨x, hx, rfl⟩ := List.mem_map.mp hy
      refine ⟨_, m6 _ _ Dp hd, by rw [List.length_map, xl]; omega, xs ++ [x], p6.put Dp (p5.fresh hD).2, fun b o nb e => ?_, by rw [upd_same, List.map_append]; rfl, by rw [List.length_append, xl]; rfl, fun y hy => ?_⟩
      · have ne : b ≠ Dl := fun z => by rw [z, hD] at e; cases e
        rw [upd_ne ne]
        exact m6 _ _ nb (mi _ _ nb e)
      · rcases List.mem_append.mp hy with h | h
        · exact xf y h
        · rw [List.mem_singleton.mp h]
          exact fit x hx
    · obtain ⟨xs, pi, mi, hd, xl, xf⟩ := q5
      have l1p := (p4.fresh hl1).1
      refine ⟨l1, Dl, _, _, rfl, rfl, mi _ _ l1p upd_same, hd, by rw [List.length_map, xl]; show 1 + _ ≤ sizeLine; omega, fun r hr => ?_⟩
      refine ⟨_, rfl, _, rfl, by show 3 ≤ sizeLine; omega, fun t ht => ?_⟩
      have p7 := pi.new (o := .lst ([V.int 0] ++ xs.map V.int)) hr
      refine fin _ t (0 :: xs) a m ((p7.new ht).more (by omega)) (((mv4.trans (Mv.new hl1)).trans mi).trans ((Mv.new hr).trans (Mv.new ht))) ⟨r, upd_same, Same.new ht _ _ upd_same⟩ ⟨by rw [List.length_cons, xl]; omega, m1, fun x hx => ?_⟩ a7 m8 rfl
      rcases List.mem_cons.mp hx with rfl | hx
      · decide
      · exact xf x hx
end
end Fz
set_option Elab.async false
set_option linter.all false
set_option maxRecDepth 100000
set_option maxHeartbeats 2000000
namespace Fz
open PySem PySem.Spec PyProof.Rows L2
/-- one step of a reading -/
local macro_rules | `(tactic| walk_at "st") => `(tactic| first
  | refine ⟨_, rfl, ?_⟩
  | refine Or.inl ⟨_, rfl, ?_⟩
  | refine Or.inr ⟨_, rfl, ?_⟩
  | refine ⟨_, _, _, _, rfl, rfl, SqL.of (by first | assumption | exact upd_same), rfl, ?_⟩
  | refine ⟨_, _, _, _, rfl, rfl, (by first | assumption | exact upd_same), rfl, ?_⟩
  | refine ⟨_, _, rfl, .inl ⟨_, SqL.of (by first | assumption | exact upd_same), rfl⟩, ?_⟩
  | refine ⟨_, _, rfl, rfl, (show (0 : Int) < _ by first | decide | omega), ?_⟩
  | refine ⟨_, _, rfl, rfl, (show (0 : Int) < _ ∧ _ < _ by first | exact ⟨by decide, by decide⟩ | omega), ?_⟩
  | refine ⟨_, _, rfl, rfl, (show (_ < _ ∧ _ < _) ∨ (_ < _ ∧ _ < _) by first | exact .inl ⟨by decide, by decide⟩ | omega), ?_⟩
  | refine ⟨_, _, rfl, rfl, (show (0 : Int) ≤ _ ∧ _ ≤ _ ∧ _ < _ by first | exact ⟨by decide, by decide, by decide⟩ | exact ⟨by decide, by decide, by omega⟩), ?_⟩
  | refine ⟨_, _, rfl, rfl, ?_⟩)

section
variable {P : Program} {w : World} {K : PySem.W.Frag} {mg : Str → Option Value} {base : Heap}

abbrev s_at : Stmt := topS 27
theorem sc_at : FnScope ["_law_told_here", "_law_heap", "_law_row", "_law_ahead", "_law_turn"] ["_law_told_here", "_law_heap"] (defScope s_at) := ⟨rfl, rfl, rfl, by decide +kernel, rfl, by decide +kernel, by decide +kernel⟩
def spAtL : Sp := fun vs H Q _ => ∃ (t : Addr) (row : List Int) (a n h : Nat), vs = [.ref t, .int h] ∧ TolAt H t row a n ∧ Told row a n ∧ a + n ≤ 1000000 ∧ Q (.int (atW row a n h)) H
theorem ok_at {f : Addr} {fd : FuncData} (F : Fun K "_law_at" "_law_at" s_at f fd) (U : Blt mg) : FnOk P w K mg base CX0 1 f fd ["_law_told_here", "_law_heap"] spAtL := by
  refine F.ok sc_at (fun vs H Q E h => ?_) (fun cdv A outer s H vs Q E hr h => ?_)
  · obtain ⟨t, row, a, n, h, rfl, _⟩ := h
    rfl
  · obtain ⟨t, row, a, n, h, rfl, ⟨r, ht, hr'⟩, told, bd, fin⟩ := h
    refine ⟨_, (pss_cons (ps_asg (pv 0) (pg_tup rfl (pgs_cons (pg_name (i := 2) sc_at.nd rfl (Or.inl rfl)) (pgs_cons (pg_name (i := 3) sc_at.nd rfl (Or.inl rfl)) (pgs_cons (pg_name (i := 4) sc_at.nd rfl (Or.inl rfl)) pgs_nil)))))
  (pss_one (ps_ret (pe_ifExp (pt_cmpR op_lt (pv 1) (pv 3) (nomark _)) (pe_ix ix_list (pv 2) (pv 1) (fun _ _ => rfl)) (pe_ix ix_list (pv 2) (pe_op op_add (pv 3) (pe_op op_mod (pe_callTy call_int1 rfl U.z_int (by decide +kernel) (pa_cons (pe_op op_sub (pv 1) (pv 3)) pa_nil)) (pv 4))) (fun _ _ => rfl)))))), ?_⟩
    have n1 := told.n1
    have get : ∀ i, i < a + n → atI (row.map V.int) (i : Nat) = some (.int (row.getD i 0)) := fun i hi => at_nat' (by
      rw [List.getElem?_map, List.getD_eq_getElem?_getD, List.getElem?_eq_getElem (by rw [told.len]; exact hi)]
      rfl)
    refine ⟨_, rfl, t, _, rfl, SqT.of ht, rfl, _, _, rfl, _, _, rfl, _, _, rfl, rfl, ?_⟩
    refine ⟨_, rfl, _, rfl, _, _, rfl, rfl, _, rfl, ?_⟩
    refine ite2 (fun c => ?_) (fun c => ?_)
    · have c1 : h < a := by have q : (h : Int) < (a : Int) := of_decide_eq_true c; omega
      rw [atW_low (by omega)] at fin
      exact ⟨_, rfl, _, rfl, r, _, _, _, rfl, rfl, SqL.of hr', get h (by omega), fin⟩
    · have c1 : a ≤ h := by have q : ¬ (h : Int) < (a : Int) := fun y => c (decide_eq_true y); omega
      rw [atW_high c1] at fin
      have m := Nat.mod_lt (h - a) (show n > 0 by omega)
      have e : ((a : Int) + ((h : Int) - a) % n) = ((a + (h - a) % n : Nat) : Int) := by
        rw [show (h : Int) - a = ((h - a : Nat) : Int) by omega]
        rfl
      refine ⟨_, rfl, _, rfl, _, rfl, _, rfl, _, _, rfl, rfl, .inl ⟨_, rfl, _, rfl, _, _, rfl, rfl, by omega, _, _, rfl, rfl, r, _, _, _, rfl, rfl, SqL.of hr', ?_, fin⟩⟩
      show atI (row.map V.int) ((a : Int) + ((h : Int) - a) % n) = _
      rw [e]
      exact get _ (by omega)
abbrev s_shown : Stmt := topS 29
theorem sc_shown : FnScope ["_law_table"] ["_law_table"] (defScope s_shown) := ⟨rfl, rfl, rfl, by decide +kernel, rfl, by decide +kernel, by decide +kernel⟩
def FormAt (H : Hp) (u : Addr) (b p : Nat) (ns : List Int) : Prop := ∃ q, H u = some (.tup [.int b, .int p, .ref q]) ∧ H q = some (.tup (ns.map V.int))
theorem FormAt.same {H H' : Hp} {u : Addr} {b p : Nat} {ns : List Int} (h : FormAt H u b p ns) (s : Same H H') : FormAt H' u b p ns := let ⟨q, x, y⟩ := h; ⟨q, s _ _ x, s _ _ y⟩
def spShown (CT : Addr) : Sp := fun vs H Q _ => ∃ (x : Addr) (b p : Nat) (ns : List Int), vs = [.ref x] ∧ TabAt CT H x b p ns ∧ ∀ H' u, Same H H' → FormAt H' u b p ns → Q (.ref u) H'
theorem ok_shown {CT f : Addr} {fd : FuncData} (F : Fun K "_law_shown" "_law_shown" s_shown f fd) (TC : TabC K CT) : FnOk P w K mg base CX0 1 f fd ["_law_table"] (spShown CT) := by
  refine F.ok sc_shown (fun vs H Q E h => ?_) (fun cdv A outer s H vs Q E hr h => ?_)
  · obtain ⟨x, b, p, ns, rfl, _⟩ := h
    rfl
  · obtain ⟨x, b, p, ns, rfl, ⟨dx, t, hx, ht⟩, fin⟩ := h
    refine ⟨_, (pss_one (ps_ret (pe_tup (pa_cons (pe_fld (pv 0) rfl) (pa_cons (pe_fld (pv 0) rfl) (pa_cons (pe_fld (pv 0) rfl) pa_nil)))))), ?_⟩
    refine ⟨_, rfl, x, CT, dx, _, _, rfl, hx, TC.cl, TC.nBegin, tfs_b _ _ _, _, rfl, x, CT, dx, _, _, rfl, hx, TC.cl, TC.nPeriod, tfs_p _ _ _, _, rfl, x, CT, dx, _, _, rfl, hx, TC.cl, TC.nNumbers, tfs_n _ _ _, by show 3 ≤ sizeLine; decide, fun u hu => ?_⟩
    have s1 := Same.new (o := .tup [V.int b, .int p, .ref t]) hu
    exact fin _ u s1 ⟨t, upd_same, s1 _ _ ht⟩
abbrev s_least : Stmt := topS 28
theorem sc_least : FnScope ["_law_told_here", "_law_long", "_law_size", "_law_row", "_law_ahead", "_law_turn", "_law_odd", "_law_start", "_law_heap", "_law_spot"] ["_law_told_here"] (defScope s_least) := ⟨rfl, rfl, rfl, by decide +kernel, rfl, by decide +kernel, by decide +kernel⟩
theorem nums_at {W : Nat → Int} {k i : Nat} (h : i < k) : (nums W k)[i]? = some (W i) := by
  unfold nums
  rw [List.getElem?_map, List.getElem?_range h]
  rfl
/-- the spots at which a row does not come again -/
def oddL (W : Nat → Int) (m s : Nat) : List Nat := (List.range m).filter fun i => decide (W i ≠ W (i + s))
theorem odd_succ (W : Nat → Int) (m s : Nat) : oddL W (m + 1) s = oddL W m s ++ (if W m ≠ W (m + s) then [m] else []) := by
  unfold oddL
  rw [List.range_succ, List.filter_append]
  congr 1
  by_cases h : W m = W (m + s) <;> simp [h]
theorem odd_last (W : Nat → Int) (s : Nat) : ∀ m : Nat, (oddL W m s = [] ∧ ∀ i, i < m → W i = W (i + s)) ∨ ∃ (ys : List Nat) (k : Nat), oddL W m s = ys ++ [k] ∧ k < m ∧ W k ≠ W (k + s) ∧ ∀ i, k < i → i < m → W i = W (i + s)
  | 0 => .inl ⟨rfl, fun i h => by omega⟩
  | m + 1 => by
    rw [odd_succ]
    by_cases h : W m ≠ W (m + s)
    · rw [if_pos h]
      exact .inr ⟨_, m, rfl, by omega, h, fun i a b => by omega⟩
    · rw [if_neg h, List.append_nil]
      have e : W m = W (m + s) := Classical.byContradiction h
      rcases odd_last W s m with ⟨a, b⟩ | ⟨ys, k, a, b, c, d⟩
      · refine .inl ⟨a, fun i hi => ?_⟩
        by_cases z : i = m
        · rw [z]; exact e
        · exact b i (by omega)
      · refine .inr ⟨ys, k, a, by omega, c, fun i h1 h2 => ?_⟩
        by_cases z : i = m
        · rw [z]; exact e
        · exact d i h1 (by omega)
theorem odd_len (W : Nat → Int) (m s : Nat) : (oddL W m s).length ≤ m := by
  unfold oddL
  exact Nat.le_trans (List.length_filter_le _ _) (by rw [List.length_range]; exact Nat.le_refl _)
def spLeastL : Sp := fun vs H Q _ => ∃ (t : Addr) (row : List Int) (a n : Nat), vs = [.ref t] ∧ TolAt H t row a n ∧ Told row a n ∧ a + n ≤ 1000 ∧ ∀ H' u b p, Same H H' → Form (atW row a n) b p → b + p ≤ a + n → FormAt H' u b p (nums (atW row a n) (b + p)) → Q (.ref u) H'
theorem ok_least {f fAt : Addr} {fd fdAt : FuncData} (F : Fun K "_law_least" "_law_least" s_least f fd) (U : Blt mg) (At : Fun K "_law_at" "_law_at" s_at fAt fdAt) (gAt : mg "_law_at" = some (.ref fAt)) (b_at : L2.Binds K fdAt ["_law_told_here", "_law_heap"] []) : FnOk P w K mg base CX0 2 f fd ["_law_told_here"] spLeastL := by
  have G_at : FnOk P w K mg base CX0 1 fAt fdAt ["_law_told_here", "_law_heap"] spAtL := ok_at At U
  refine F.ok sc_least (fun vs H Q E h => ?_) (fun cdv A outer s H vs Q E hr h => ?_)
  · obtain ⟨t, row, a, n, rfl, _⟩ := h
    rfl
  · obtain ⟨t, row, a, n, rfl, tol, told, bd, fin⟩ := h
    refine ⟨_, (pss_cons (ps_asg (pv 0) (pg_tup rfl (pgs_cons (pg_name (i := 3) sc_least.nd rfl (Or.inl rfl)) (pgs_cons (pg_name (i := 4) sc_least.nd rfl (Or.inl rfl)) (pgs_cons (pg_name (i := 5) sc_least.nd rfl (Or.inl rfl)) pgs_nil)))))
  (C8.pss_cut (ps_set (i := 1) sc_least.nd rfl (Or.inr rfl) (pe_lc (own := [("_law_heap", 8)]) rfl sc_least.nd (pi_range1 rfl U.z_range (by exact (pa_cons (pe_op op_add (pv 4) (pe_op op_mul pe_int (pv 5))) pa_nil))) (blkOk_by (by kernel_rfl)) (fun s_ H_ C_ cl_ fp_ => (pg_name (i := 8) sc_least.nd rfl (Or.inl rfl))) (fun s_ H_ C_ cl_ fp_ => pts_nil) (fun s_ H_ C_ cl_ fp_ => (pe_call G_at (hr.mono (by decide)) rfl gAt At.kp b_at .nil pass0 (by exact (pa_cons (pv 0) (pa_cons (pv 8) pa_nil)))))))
  (C8.pss_cut (ps_for PassesOwn.never rfl (pi_range2 rfl U.z_range (by exact (pa_cons pe_int (pa_cons (pe_op op_add (pv 5) pe_int) pa_nil)))) (pg_name (i := 2) sc_least.nd rfl (Or.inr rfl)) (C8.pss_cut (ps_setLc (i := 6) (own := [("_law_spot", 9)]) rfl sc_least.nd rfl rfl (sw_true rfl rfl rfl (by decide +kernel)) (pi_range1 rfl U.z_range (by exact (pa_cons (pe_op op_sub (pe_callB call_len rfl U.z_len (by decide +kernel) (pa_cons (pv 1) pa_nil)) (pv 2)) pa_nil))) (blkOk_by (by kernel_rfl)) (fun s_ H_ C_ cl_ fp_ => (pg_name (i := 9) sc_least.nd rfl (Or.inl rfl))) (fun s_ H_ C_ cl_ fp_ => (pts_one (pt_cmpR op_ne (pe_ix (show IxR _ (rIxL K) from ix_list) (pv 1) (pv 9) (fun _ _ => rfl)) (pe_ix (show IxR _ (rIxL K) from ix_list) (pv 1) (pe_op op_add (pv 9) (pv 2)) (fun _ _ => rfl)) (nomark _)))) (fun s_ H_ C_ cl_ fp_ => (pv 9)))
  (C8.pss_cut (ps_set (i := 7) sc_least.nd rfl (Or.inl rfl) (pe_ifExp (pt_cmpR (op_neD hr.units) (pv 6) (pe_lst pa_nil) (nomark _)) (pe_op op_add (pe_ix ix_list (pv 6) (pe_un un_neg pe_int) (fun _ _ => rfl)) pe_int) pe_int))
  (pss_one (ps_if (pt_cmpR op_le (pv 7) (pv 4) (nomark _)) (pss_one (ps_ret (pe_tup (pa_cons (pv 7) (pa_cons (pv 2) (pa_cons (pe_callTy call_tuple_of rfl U.z_tuple (by decide +kernel) (pa_cons (pe_slice sl_list (pv 1) po_none (po_some (pe_op op_add (pv 7) (pv 2)))) pa_nil)) pa_nil)))))) pss_nil)))))
  (pss_one (ps_ret (pe_tup (pa_cons pe_int (pa_cons pe_int (pa_cons (pe_tup pa_nil) pa_nil))))))))), ?_⟩
    obtain ⟨r, ht, hr'⟩ := id tol
    have n1 := told.n1
    have sz0 : (10000 : Nat) ≤ sizeLine := by show 10000 ≤ 16777216; decide
    refine ⟨_, rfl, t, _, rfl, SqT.of ht, rfl, _, _, rfl, _, _, rfl, _, _, rfl, rfl, ?_⟩
    -- the long row
    refine ⟨fun σ' H' => ∃ (lg : Addr) (v2 v6 v7 v8 v9 : Option V), σ' = [some (.ref t), some (.ref lg), v2, some (.ref r), some (.int a), some (.int n), v6, v7, v8, v9] ∧ Same H H' ∧ H' lg = some (.lst ((nums (atW row a n) (a + 3 * n)).map V.int)), ?_, ?_⟩
    · refine ⟨_, rfl, _, rfl, _, _, rfl, rfl, .inl ⟨by decide, by decide⟩, _, _, rfl, rfl, _, rfl, by omega, by omega, fun D hD => ?_⟩
      refine lc_range (lo := 0) (n := ((a : Int) + 3 * (n : Int)).toNat) (fun i H' => Same H H' ∧ H' D = some (.lst ((nums (atW row a n) i).map V.int))) ⟨Same.new hD, upd_same⟩ (fun i H' hi q => ?_) (fun H' q => ?_)
      · refine ⟨rfl, ?_⟩
        refine iteT (B := Same H H' ∧ H' D = some (.lst ((nums (atW row a n) (i + 1)).map V.int))) ?_
        refine ⟨_, rfl, _, rfl, t, row, a, n, i, by rw [show (0 : Int) + (i : Nat) = ((i : Nat) : Int) by omega]; rfl, tol.same q.1, told, by omega, _, q.2, by rw [List.length_map, nums_len]; omega, fun b o e => ?_, ?_⟩
        · have nb : b ≠ D := fun z => by rw [z, hD] at e; cases e
          rw [upd_ne nb]
          exact q.1 b o e
        · rw [upd_same, nums_succ, List.map_append]
          rfl
      · have e : ((a : Int) + 3 * (n : Int)).toNat = a + 3 * n := by omega
        rw [e] at q
        exact ⟨D, _, _, _, _, _, rfl, q.1, q.2⟩
    rintro σ' H1 ⟨lg, v2, v6, v7, v8, v9, rfl, s1, hlg⟩
    have ht1 := s1 _ _ ht
    have getW : ∀ i, i < a + 3 * n → atI ((nums (atW row a n) (a + 3 * n)).map V.int) (i : Nat) = some (.int (atW row a n i)) := fun i hi => at_nat' (by
      rw [List.getElem?_map, nums_at hi]
      rfl)
    refine ⟨fun _ _ => False, ?_, fun _ _ z => z.elim⟩
    refine ⟨_, rfl, _, _, rfl, rfl, 1, (n : Int) + 1, rfl, ⟨by decide, by decide, by omega, by omega⟩, for_range (lo := 1) (n := ((n : Int) + 1 - 1).toNat) (fun i σ' H' => ∃ (v2 v6 v7 v8 v9 : Option V), σ' = [some (.ref t), some (.ref lg), v2, some (.ref r), some (.int a), some (.int n), v6, v7, v8, v9] ∧ Same H1 H' ∧ ∀ s, 1 ≤ s → s ≤ i → ∃ j, a ≤ j ∧ j + s < a + 3 * n ∧ atW row a n j ≠ atW row a n (j + s)) ⟨_, _, _, _, _, rfl, fun _ _ z => z, fun s x y => by omega⟩ ?_ ?_⟩
    rotate_left
    · rintro σ' H' ⟨v2, v6, v7, v8, v9, rfl, _, no⟩
      obtain ⟨j, h1, h2, h3⟩ := no n n1 (by omega)
      exact absurd (atW_per1 h1).symm h3
    rintro i σ' H2 hi ⟨v2, v6, v7, v8, v9, rfl, s2, no⟩
    have si : ((1 : Int) + (i : Nat)) = ((1 + i : Nat) : Int) := by omega
    have i1 : 1 + i ≤ n := by omega
    have hlg2 := s2 _ _ hlg
    rw [si]
    refine ⟨fun σ' H' => ∃ (od : Addr) (v7 v8 v9 : Option V), σ' = [some (.ref t), some (.ref lg), some (.int ((1 + i : Nat) : Int)), some (.ref r), some (.int a), some (.int n), some (.ref od), v7, v8, v9] ∧ Same H2 H' ∧ H' od = some (.lst (((oddL (atW row a n) (a + 3 * n - (1 + i)) (1 + i)).map fun k : Nat => (k : Int)).map V.int)), ?_, ?_⟩
    · refine ⟨_, rfl, _, _, rfl, .inl ⟨_, SqL.of hlg2, rfl⟩, _, rfl, _, _, rfl, rfl, _, rfl, by rw [List.length_map, nums_len]; omega, by rw [List.length_map, nums_len]; omega, fun D hD => ?_⟩
      have el : ((((nums (atW row a n) (a + 3 * n)).map V.int).length : Nat) : Int) - ((1 + i : Nat) : Int) = ((a + 3 * n - (1 + i) : Nat) : Int) := by rw [List.length_map, nums_len]; omega
      show ∃ W : Nat → Nat → Hp → Prop, _
      rw [el]
      refine lc_range (lo := 0) (n := ((a + 3 * n - (1 + i) : Nat) : Int).toNat) (fun j H' => Same H2 H' ∧ H' D = some (.lst (((oddL (atW row a n) j (1 + i)).map fun k : Nat => (k : Int)).map V.int))) ⟨Same.new hD, upd_same⟩ (fun j H' hj q => ?_) (fun H' q => ?_)
      · rw [Int.toNat_natCast] at hj
        have hlg3 := q.1 _ _ hlg2
        have ol := odd_len (atW row a n) j (1 + i)
        have os := odd_succ (atW row a n) j (1 + i)
        have e2 : ((0 : Int) + (j : Nat)) + ((1 + i : Nat) : Int) = ((j + (1 + i) : Nat) : Int) := by omega
        have e3 : ((0 : Int) + (j : Nat)) = ((j : Nat) : Int) := by omega
        refine ⟨rfl, _, rfl, _, rfl, lg, _, _, _, rfl, rfl, SqL.of hlg3, by rw [e3]; exact getW j (by omega), _, rfl, _, rfl, _, rfl, _, _, rfl, rfl, lg, _, _, _, rfl, rfl, SqL.of hlg3, by rw [e2]; exact getW (j + (1 + i)) (by omega), rfl, _, rfl, ?_⟩
        refine ite2 (fun c => ?_) (fun c => ?_)
        · have c1 : atW row a n j ≠ atW row a n (j + (1 + i)) := fun y => by
            have q : (!decide (V.int (atW row a n j) = V.int (atW row a n (j + (1 + i))))) = true := c
            rw [y, decide_eq_true rfl] at q
            cases q
          rw [if_pos c1] at os
          refine ⟨_, rfl, _, q.2, by rw [List.length_map, List.length_map]; omega, fun b o e => ?_, ?_⟩
          · have nb : b ≠ D := fun z => by rw [z, hD] at e; cases e
            rw [upd_ne nb]
            exact q.1 b o e
          · rw [upd_same, os, List.map_append, List.map_append, e3]
            rfl
        · have c1 : ¬ atW row a n j ≠ atW row a n (j + (1 + i)) := fun y => c (by
            show (!decide (V.int (atW row a n j) = V.int (atW row a n (j + (1 + i))))) = true
            rw [decide_eq_false fun h => y (V.int.inj h)]
            rfl)
          rw [if_neg c1, List.append_nil] at os
          rw [os]
          exact q
      · rw [Int.toNat_natCast] at q
        exact ⟨D, _, _, _, rfl, q.1, q.2⟩
    rintro σ' H3 ⟨od, v7, v8, v9, rfl, s3, hod⟩
    refine ⟨fun σ' H' => ∃ (sp : Nat) (v8 v9 : Option V), σ' = [some (.ref t), some (.ref lg), some (.int ((1 + i : Nat) : Int)), some (.ref r), some (.int a), some (.int n), some (.ref od), some (.int sp), v8, v9] ∧ Same H3 H' ∧ (sp = 0 ∨ atW row a n (sp - 1) ≠ atW row a n (sp - 1 + (1 + i))) ∧ (∀ j, sp ≤ j → j + (1 + i) < a + 3 * n → atW row a n j = atW row a n (j + (1 + i))) ∧ (¬ sp ≤ a → ∃ j, a ≤ j ∧ j + (1 + i) < a + 3 * n ∧ atW row a n j ≠ atW row a n (j + (1 + i))), ?_, ?_⟩
    · refine ⟨_, rfl, by show 0 ≤ sizeLine; omega, fun e he => ?_⟩
      have s4 := Same.new (o := .lst []) he
      refine ne_ints (ys := []) (s4 _ _ hod) upd_same ⟨_, rfl, ?_⟩
      rcases odd_last (atW row a n) (1 + i) (a + 3 * n - (1 + i)) with ⟨o1, o2⟩ | ⟨ys, k, o1, o2, o3, o4⟩
      · rw [o1, show decide ((([] : List Nat).map fun k : Nat => (k : Int)) = []) = true from decide_eq_true rfl]
        refine iteF ?_
        exact ⟨0, _, _, rfl, s4, .inl rfl, fun j _ h => o2 j (by omega), fun z => absurd (Nat.zero_le a) z⟩
      · have ne : ¬ (((oddL (atW row a n) (a + 3 * n - (1 + i)) (1 + i)).map fun k : Nat => (k : Int)) = []) := fun z => by rw [o1] at z; simp at z
        rw [decide_eq_false ne]
        refine iteT ?_
        have at_ : atI (((oddL (atW row a n) (a + 3 * n - (1 + i)) (1 + i)).map fun k : Nat => (k : Int)).map V.int) (-1) = some (.int k) := by
          rw [o1, List.map_append, List.map_append]
          exact at_last
        refine ⟨_, rfl, _, rfl, od, _, _, _, rfl, rfl, SqL.of (s4 _ _ hod), at_, _, _, rfl, rfl, ?_⟩
        exact ⟨k + 1, _, _, rfl, s4, .inr (by rw [Nat.add_sub_cancel]; exact o3), fun j h1 h2 => o4 j (by omega) (by omega), fun z => ⟨k, by omega, by omega, o3⟩⟩
    rintro σ' H4 ⟨sp, v8, v9, rfl, s4, low, same, far⟩
    have s14 := ((s1.trans s2).trans s3).trans s4
    have hlg4 := s4 _ _ (s3 _ _ hlg2)
    refine ⟨_, rfl, _, rfl, _, _, rfl, rfl, _, rfl, ?_⟩
    refine ite2 (fun c => ?_) (fun c => ?_)
    · have c1 : sp ≤ a := by have q : (sp : Int) ≤ (a : Int) := of_decide_eq_true c; omega
      have lf : LawForm (atW row a n) a n sp (1 + i) := ⟨by omega, i1, c1, same, low, fun s h1 h2 => no s h1 (by omega)⟩
      have ec : cutV ((nums (atW row a n) (a + 3 * n)).map V.int) none (some ((sp : Int) + ((1 + i : Nat) : Int))) = (nums (atW row a n) (sp + (1 + i))).map V.int := by
        have q := cutV_take ((nums (atW row a n) (a + 3 * n)).map V.int) (sp + (1 + i))
        rw [show ((sp + (1 + i) : Nat) : Int) = (sp : Int) + ((1 + i : Nat) : Int) by omega] at q
        rw [q, ← List.map_take, nums_take (by omega)]
      refine ⟨_, rfl, _, rfl, _, rfl, _, rfl, _, rfl, _, _, rfl, rfl, _, rfl, _, _, rfl, SqL.of hlg4, fun l3 h3 => ?_⟩
      rw [ec]
      have s5 := Same.new (o := .lst ((nums (atW row a n) (sp + (1 + i))).map V.int)) h3
      refine ⟨_, _, rfl, .inl ⟨SqL.of upd_same, fun l4 h4 => ⟨by show 3 ≤ sizeLine; omega, fun u hu => ?_⟩⟩⟩
      have s6 := Same.new (o := .tup ((nums (atW row a n) (sp + (1 + i))).map V.int)) h4
      have s7 := Same.new (o := .tup [V.int sp, .int ((1 + i : Nat) : Int), .ref l4]) hu
      exact fin _ u sp (1 + i) (((s14.trans s5).trans s6).trans s7) (law_form told lf) (by omega) ⟨l4, upd_same, s7 _ _ upd_same⟩
    · have c1 : ¬ sp ≤ a := fun y => c (decide_eq_true (by omega))
      refine ⟨_, _, _, _, _, rfl, (s2.trans s3).trans s4, fun s h1 h2 => ?_⟩
      by_cases z : s = 1 + i
      · rw [z]; exact far c1
      · exact no s h1 (by omega)
end
end Fz
set_option Elab.async false
set_option linter.all false
set_option maxRecDepth 100000
set_option maxHeartbeats 2000000
namespace Fz
open PySem PySem.Spec PyProof.Rows L2
/-- one step of a reading -/
local macro_rules | `(tactic| walk_at "st") => `(tactic| first
  | refine ⟨_, rfl, ?_⟩
  | refine Or.inl ⟨_, rfl, ?_⟩
  | refine Or.inr ⟨_, rfl, ?_⟩
  | refine ⟨_, _, _, _, rfl, rfl, SqL.of (by first | assumption | exact upd_same), rfl, ?_⟩
  | refine ⟨_, _, _, _, rfl, rfl, (by first | assumption | exact upd_same), rfl, ?_⟩
  | refine ⟨_, _, rfl, .inl ⟨_, SqL.of (by first | assumption | exact upd_same), rfl⟩, ?_⟩
  | refine ⟨_, _, rfl, rfl, (show (0 : Int) < _ by first | decide | omega), ?_⟩
  | refine ⟨_, _, rfl, rfl, (show (0 : Int) < _ ∧ _ < _ by first | exact ⟨by decide, by decide⟩ | omega), ?_⟩
  | refine ⟨_, _, rfl, rfl, (show (_ < _ ∧ _ < _) ∨ (_ < _ ∧ _ < _) by first | exact .inl ⟨by decide, by decide⟩ | omega), ?_⟩
  | refine ⟨_, _, rfl, rfl, (show (0 : Int) ≤ _ ∧ _ ≤ _ ∧ _ < _ by first | exact ⟨by decide, by decide, by decide⟩ | exact ⟨by decide, by decide, by omega⟩), ?_⟩
  | refine ⟨_, _, rfl, rfl, ?_⟩)

abbrev s_heard : Stmt := topS 30
/-- what the hearing asks of the error -/
structure PrgG (K : PySem.W.Frag) (mg : Str → Option Value) (CX CB : Addr) : Prop where
  g_FreeError : mg "FreeError" = some (.ref CX)
  g_BadTable : mg "BadTable" = some (.ref CB)
  hit : PySem.W.exmOne K (.ref CB) (.ref CX) = some true
  exc : ExcC K CB
  xf : XfC K CB
  same : PySem.W.kitOne K (.ref CB) (.ref CB) = some true
  ve : PySem.W.kitOne K (.ref CB) (.type "ValueError") = some true
  fP : PySem.W.findIn K (.ref CB) "part" = some none
  zVE : mg "ValueError" = none
abbrev heardExP (CB : Addr) (Q : VK) : XK := fun cls d H' => cls = .ref CB ∧ ∃ (dd : Addr) (z : Str), d = some dd ∧ H' dd = some (.xd [("part", .str z)]) ∧ ∀ H'', Same H' H'' → Q (.str z) H''
abbrev heardNxP (Q : VK) : VK := fun _ H' => ∀ H'', Same H' H'' → Q .non H''
def TTp (CB : Addr) : (XK → Hp → VK → Prop) → Hp → VK → Prop := fun tl H Q => ∀ H1, Same H H1 → tl (heardExP CB Q) H1 (heardNxP Q)
section
variable {X : Cx} {CX CB : Addr}
theorem sc_heard : FnScope ["_law_ask", "_law_caught", "error"] ["_law_ask"] (defScope s_heard) := ⟨rfl, rfl, rfl, by decide +kernel, rfl, by decide +kernel, by decide +kernel⟩
theorem heard_gives {g : Addr} {cdg : Value} {q : Str} (U : Blt X.mg) (Z : PrgG X.K X.mg CX CB) : LamX.GivesTo X ["_law_ask", "_law_caught", "error"] "_law_heard" (defScope s_heard) g cdg (defBody s_heard) "_law_ask" q (TTp CB) := by
  intro f c' s H Q tl act hc h
  refine ⟨_, pss_cons (ps_set (i := 1) sc_heard.nd rfl (Or.inl rfl) pe_non)
    (pss_cons (ps_tryErr (i := 2) (c := .ref CX) (tb := fun W D σ H => ∃ Ech : XK, (∀ cls d σ' H', Ech cls d H' → W cls d σ' H') ∧ σ[0]? = some (some (.ref f)) ∧ H c' = some (LamX.CodeO c' q) ∧ ∃ Q' : VK, tl Ech H Q' ∧ ∀ x H', Q' x H' → D.nx σ H')
      rfl rfl rfl sc_heard.nd rfl rfl ⟨rfl, by decide, .inl Z.g_FreeError⟩ LamX.takes0 (fun W pn xe tk own => ?_) (fun p cls d pn => pss_one (ps_set (i := 1) sc_heard.nd rfl (Or.inl rfl) (pv 2))))
    (pss_cons (ps_if (pt_cmpR op_isN (pv 1) pe_non (nomark _)) (pss_one (ps_ret pe_non)) pss_nil)
    (pss_one (ps_ret (pe_ifExp (PW.pt (pw_and (pt_val (pe_callB call_isErr rfl U.z_isinstance (by decide +kernel) (pa_cons (pv 1) (pa_cons (pe_glob (v := .ref _) rfl Z.g_BadTable rfl) pa_nil)))) (pw_and1 (pt_val (pe_callB call_isErr rfl U.z_isinstance (by decide +kernel) (pa_cons (pv 1) (pa_cons (pe_bltn (v := .ty "ValueError") rfl Z.zVE (by decide +kernel) rfl) pa_nil))))))) (pe_errF (pv 1)) pe_str))))), ?_⟩
  · refine ⟨fun pins s' σ H' D I h' => ?_⟩
    obtain ⟨Ech, hW, h1, h2, Q', h3, h4⟩ := h'
    have hp := fun p1 p2 => act W pn xe Ech p1 p2 tk hW
    exact (pss_one (ps_expr (pe_weak (hp _ _)))).run pins s' σ H' D I ⟨Q', ⟨h1, h2, h3⟩, h4⟩
  · have h2 := h _ (fun _ _ z => z)
    refine ⟨heardExP CB Q, fun cls d σ' H' hE => ?_, rfl, hc, _, h2, fun x H' hx => ?_⟩
    · obtain ⟨rfl, dd, z, rfl, hd, fin⟩ := hE
      refine ⟨true, Z.hit, fun _ len a ha => ?_, fun z => by cases z⟩
      match σ', len with
      | [a0, a1, a2], _ =>
        have hd2 : upd H' a (Err (.ref CB) (some dd) a) dd = some (.xd [("part", .str z)]) := by
          rw [upd_ne (ne_of_none hd ha)]
          exact hd
        refine ⟨_, rfl, ?_⟩
        refine ⟨_, rfl, rfl, _, rfl, iteF ?_⟩
        refine ⟨_, rfl, a, CB, some dd, .ref CB, .ref CB, true, rfl, upd_same, fun d2 e => ⟨_, by cases e; exact hd2⟩, Z.exc, .own CB, Z.same, _, rfl, iteT ?_⟩
        refine ⟨_, rfl, a, CB, some dd, .ty "ValueError", .type "ValueError", true, rfl, upd_same, fun d2 e => ⟨_, by cases e; exact hd2⟩, Z.exc, .ty _, Z.ve, _, rfl, iteT ?_⟩
        refine ⟨_, rfl, a, CB, dd, _, _, rfl, upd_same, hd2, Z.xf, Z.fP, rfl, ?_⟩
        exact fin _ fun b o e => by rw [upd_ne (ne_of_none e ha)]; exact e
    · exact ⟨_, rfl, rfl, _, rfl, iteT (hx _ fun _ _ z => z)⟩
end
section
variable {CB CT : Addr} {TL : List (Addr × Str)} {σ : L2.St} {H : Hp} {Q : VK} {b p : V} {due : Option Str} {ta : TA}
def heardV : Option Str → V
  | some z => .str z
  | none => .non
/-- what is heard of Table(b, p, v) -/
theorem heard_tab (tabs : LamX.Tabs TL H) (args : ∀ H', LamX.ExtN H H' → ∀ R : List V → Hp → Prop, (∀ H'' v o, Same H' H'' → SeqOf H'' v o → (∀ xs, o = some xs → xs.length ≤ 3000 ∧ ∀ y ∈ xs, Kd H'' y) → Kd H'' b → Kd H'' p → dueT b p o = due → R [b, p, v] H'') → ta σ H' R)
    (hQ : ∀ H', LamX.ExtN H H' → LamX.Tabs TL H' → Q (heardV due) H') : Box (LamX.tLam TL (TTp CB) (fun E => tMake CT (spTable CB CT) [] E ta)) σ H Q := by
  refine ⟨tabs, fun H3 e3 tabs3 H4 s4 => ?_⟩
  have ext4 := extN_same e3 s4
  have tabs4 := tabs3.ext fun b o e => s4 b o e
  refine args H4 ext4 _ fun H5 v o s5 so ks kb kp du => fun x dx hx hdx ne => ?_
  have up := up_made (C := CT) hx hdx
  refine ⟨x, dx, b, p, v, o, rfl, upd_same, kb.same up, kp.same up, so.same up, fun xs e => ⟨(ks xs e).1, fun y hy => ((ks xs e).2 y hy).same up⟩, fun z H' e mv d hd => ⟨rfl, d, z, rfl, upd_same, fun H'' s => ?_⟩, fun dn bn pn ns e1 e2 e3 told H' b' p' f le mv at_ => ⟨rfl, fun H'' s => ?_⟩⟩
  · have sm := ((s5.trans (made_same hx hdx mv)).trans (Same.new hd)).trans s
    have q := hQ H'' (extN_same ext4 sm) (tabs4.ext sm)
    rw [← du, e] at q
    exact q
  · have sm := (s5.trans (made_same hx hdx mv)).trans s
    have q := hQ H'' (extN_same ext4 sm) (tabs4.ext sm)
    rw [← du, dn] at q
    exact q
end
/-! ### texts of forms -/
theorem join_len2 (S : List Nat) (m : Nat) : ∀ (ps : List (List Nat)), (∀ p ∈ ps, p.length ≤ m) → (TL.joinL S ps).length ≤ ps.length * (m + S.length) := joinL_len S m
theorem plain_tuple {ts : List Str} {m : Nat} (h : ∀ t ∈ ts, Plain m t) : Plain (ts.length * (m + 2) + 4) (tupleText ts) := by
  have c1 : ("(" : Str).length = 1 := by decide +kernel
  have c2 : (", " : Str).length = 2 := by decide +kernel
  have a1 : ∀ c ∈ TL.tl ("(" : Str), c < 128 := by decide +kernel
  have a2 : ∀ c ∈ TL.tl (", " : Str), c < 128 := by decide +kernel
  have e := TL.tl_join (", " : Str) ts
  have l2 : (TL.tl (", " : Str)).length = 2 := by rw [← TL.len_tl, c2]
  have jl := joinL_len (TL.tl (", " : Str)) m (ts.map TL.tl) fun p hp => by
    obtain ⟨t, ht, rfl⟩ := List.mem_map.mp hp
    rw [← TL.len_tl]
    exact (h t ht).len
  rw [← e, ← TL.len_tl, List.length_map, l2] at jl
  have ends : ∀ b : Bool, (if b = true then (",)" : Str) else (")" : Str)).length ≤ 2 ∧ ∀ c ∈ TL.tl (if b = true then (",)" : Str) else (")" : Str)), c < 128 := by decide +kernel
  have en := ends (ts.length == 1)
  have ej : (((if (ts.length == 1) = true then ",)" else ")" : String)) : Str) = (if (ts.length == 1) = true then (",)" : Str) else (")" : Str)) := by
    cases (ts.length == 1) <;> rfl
  unfold tupleText
  rw [ej]
  refine ⟨?_, fun c hc => ?_⟩
  · rw [strLen_append, strLen_append, c1]
    have := en.1
    omega
  · rw [TL.tl_append, TL.tl_append] at hc
    rcases List.mem_append.mp hc with hc | hc
    · rcases List.mem_append.mp hc with hc | hc
      · exact a1 c hc
      · rw [e] at hc
        rcases joinL_in _ _ _ hc with hc | ⟨p, hp, hc⟩
        · exact a2 c hc
        · obtain ⟨t, ht, rfl⟩ := List.mem_map.mp hp
          exact (h t ht).asc c hc
    · exact en.2 c hc
def formD (b p : Nat) (ns : List Int) : PyData := .tuple [.int b, .int p, .tuple (ns.map PyData.int)]
theorem plain_int {n : Int} (h0 : 0 ≤ n) (h1 : n < 10 ^ 9) : Plain 10 (PyData.shown (.int n)) := by
  refine ⟨shown_int_short h0 (by omega), fun c hc => ?_⟩
  obtain ⟨k, rfl⟩ := Int.eq_ofNat_of_zero_le h0
  have e : TL.tl (PyData.shown (.int (k : Int))) = TL.numL k := by
    show TL.tl (toString (k : Int) : Str) = _
    exact TL.tl_num k
  rw [e] at hc
  have q := TL.numL_digits k c hc
  omega
theorem form_plain {b p : Nat} {ns : List Int} (hb : b ≤ 10000) (hp : p ≤ 10000) (few : ns.length ≤ 300) (fit : ∀ n ∈ ns, 0 ≤ n ∧ n ≤ 400) : Plain 20000 (formD b p ns).shown := by
  have inner : Plain 3604 (PyData.shown (.tuple (ns.map PyData.int))) := by
    have q := plain_tuple (ts := PyData.shownAll (ns.map PyData.int)) (m := 10) fun t ht => by
      rw [shownAll_ints] at ht
      obtain ⟨n, hn, rfl⟩ := List.mem_map.mp ht
      have f := fit n hn
      exact plain_int f.1 (by omega)
    have l : (PyData.shownAll (ns.map PyData.int)).length = ns.length := by rw [shownAll_ints, List.length_map]
    rw [l] at q
    have q1 : (PyData.shown (.tuple (ns.map PyData.int))) = tupleText (PyData.shownAll (ns.map PyData.int)) := by simp [PyData.shown]
    rw [q1]
    exact ⟨Nat.le_trans q.len (by omega), q.asc⟩
  have q := plain_tuple (ts := [PyData.shown (.int b), PyData.shown (.int p), PyData.shown (.tuple (ns.map PyData.int))]) (m := 3604) fun t ht => by
    simp only [List.mem_cons, List.not_mem_nil, or_false] at ht
    rcases ht with rfl | rfl | rfl
    · have z := plain_int (n := (b : Int)) (by omega) (by omega)
      exact ⟨by have := z.len; omega, z.asc⟩
    · have z := plain_int (n := (p : Int)) (by omega) (by omega)
      exact ⟨by have := z.len; omega, z.asc⟩
    · exact inner
  have e : (formD b p ns).shown = tupleText [PyData.shown (.int b), PyData.shown (.int p), PyData.shown (.tuple (ns.map PyData.int))] := by
    unfold formD
    simp [PyData.shown, PyData.shownAll]
  rw [e]
  exact ⟨Nat.le_trans q.len (by show 3 * (3604 + 2) + 4 ≤ 20000; decide), q.asc⟩
theorem form_dp {K : PySem.W.Frag} {H : Hp} {u : Addr} {b p : Nat} {ns : List Int} (h : FormAt H u b p ns) : Dp K H (.ref u) (formD b p ns) := by
  obtain ⟨q, h1, h2⟩ := h
  exact Dp.tup (SqT.of h1) (.cons (.int _) (.cons (.int _) (.cons (Dp.tup (SqT.of h2) (dp_ints ns)) .nil)))
/-- repr of a form -/
theorem rep_form {K : PySem.W.Frag} {H : Hp} {Q : VK} {u : Addr} {b p : Nat} {ns : List Int} (h : FormAt H u b p ns) (hb : b ≤ 10000) (hp : p ≤ 10000) (few : ns.length ≤ 300) (fit : ∀ n ∈ ns, 0 ≤ n ∧ n ≤ 400) (fin : Q (.str (formD b p ns).shown) H) : rRepD K [.ref u] H Q := by
  have pl := form_plain hb hp few fit
  have sh : PyData.showableAll (ns.map PyData.int) = true := showable_ints fun n hn => ⟨(fit n hn).1, by have := (fit n hn).2; omega⟩
  have nd := noDict_ints ns
  have dp := depth_ints ns
  have lb : ∀ k : Nat, k ≤ 10000 → ((k : Int).natAbs.log2 < 1920) := fun k hk => by
    rw [Int.natAbs_natCast]
    have q : k.log2 ≤ k := Nat.log2_le_self k
    by_cases z : k = 0
    · rw [z]; decide
    · have w : k.log2 < 14 := (Nat.log2_lt z).mpr (by omega)
      omega
  refine ⟨u, formD b p ns, rfl, form_dp h, ?_, ?_, ?_, ?_, fin⟩
  · unfold formD
    simp only [PyData.showable, PyData.showableAll, sh, Bool.and_true, Bool.and_eq_true, decide_eq_true_eq]
    exact ⟨lb b hb, lb p hp⟩
  · unfold formD
    simp [PyData.hasDict, PyData.hasDictAll, nd]
  · unfold formD
    simp only [PyData.depth, PyData.depthAll]
    omega
  · have := pl.len
    show _ ≤ 16777216
    omega
theorem shaped_form (b p : Nat) (ns : List Int) : SeqAt.shaped (formD b p ns) = true := by
  have l := lay_ints ns
  have dp := depth_ints ns
  unfold SeqAt.shaped formD
  simp only [PyData.canLay0, PyData.canLayAll0, l, Bool.and_true, Bool.true_and]
  refine decide_eq_true ?_
  simp only [PyData.depth, PyData.depthAll]
  omega
theorem eqv_form (b p b' p' : Nat) (ns ms : List Int) : PyData.eqv (formD b p ns) (formD b' p' ms) = decide (b = b' ∧ p = p' ∧ ns = ms) := by
  unfold formD
  have e1 : PyData.eqv (.tuple [.int b, .int p, .tuple (ns.map PyData.int)]) (.tuple [.int b', .int p', .tuple (ms.map PyData.int)]) = ((PyData.eqv (.int b) (.int b')) && ((PyData.eqv (.int p) (.int p')) && (PyData.eqv (.tuple (ns.map PyData.int)) (.tuple (ms.map PyData.int))))) := by
    simp [PyData.eqv, PyData.eqvAll]
  rw [e1, eqv_tups]
  by_cases h1 : b = b'
  · by_cases h2 : p = p'
    · by_cases h3 : ns = ms <;> simp [PyData.eqv, h1, h2, h3]
    · have h2' : ¬ (p : Int) = (p' : Int) := by omega
      simp [PyData.eqv, h1, h2]
      intro h
      omega
  · simp [PyData.eqv, h1]
    intro h
    omega
theorem eq_form {K : PySem.W.Frag} {H : Hp} {Q : VK} {u v : Addr} {b p b' p' : Nat} {ns ms : List Int} (h : FormAt H u b p ns) (g : FormAt H v b' p' ms) (fin : Q (.bl (decide (b = b' ∧ p = p' ∧ ns = ms))) H) : rEqD K (.ref u) (.ref v) H Q := by
  refine ⟨_, _, form_dp h, form_dp g, shaped_form _ _ _, shaped_form _ _ _, ?_⟩
  rw [eqv_form]
  exact fin
theorem ne_form {K : PySem.W.Frag} {H : Hp} {Q : VK} {u v : Addr} {b p b' p' : Nat} {ns ms : List Int} (h : FormAt H u b p ns) (g : FormAt H v b' p' ms) (fin : Q (.bl (!decide (b = b' ∧ p = p' ∧ ns = ms))) H) : rNeD K (.ref u) (.ref v) H Q := by
  refine ⟨_, _, form_dp h, form_dp g, shaped_form _ _ _, shaped_form _ _ _, ?_⟩
  rw [eqv_form]
  exact fin
end Fz
set_option Elab.async false
set_option linter.all false
set_option maxRecDepth 100000
set_option maxHeartbeats 2000000
namespace Fz
open PySem PySem.Spec PyProof.Rows L2
/-- one step of a reading -/
local macro_rules | `(tactic| walk_at "st") => `(tactic| first
  | refine ⟨_, rfl, ?_⟩
  | refine Or.inl ⟨_, rfl, ?_⟩
  | refine Or.inr ⟨_, rfl, ?_⟩
  | refine ⟨_, _, _, _, rfl, rfl, SqL.of (by first | assumption | exact upd_same), rfl, ?_⟩
  | refine ⟨_, _, _, _, rfl, rfl, (by first | assumption | exact upd_same), rfl, ?_⟩
  | refine ⟨_, _, rfl, .inl ⟨_, SqL.of (by first | assumption | exact upd_same), rfl⟩, ?_⟩
  | refine ⟨_, _, rfl, rfl, (show (0 : Int) < _ by first | decide | omega), ?_⟩
  | refine ⟨_, _, rfl, rfl, (show (0 : Int) < _ ∧ _ < _ by first | exact ⟨by decide, by decide⟩ | omega), ?_⟩
  | refine ⟨_, _, rfl, rfl, (show (_ < _ ∧ _ < _) ∨ (_ < _ ∧ _ < _) by first | exact .inl ⟨by decide, by decide⟩ | omega), ?_⟩
  | refine ⟨_, _, rfl, rfl, (show (0 : Int) ≤ _ ∧ _ ≤ _ ∧ _ < _ by first | exact ⟨by decide, by decide, by decide⟩ | exact ⟨by decide, by decide, by omega⟩), ?_⟩
  | refine ⟨_, _, rfl, rfl, ?_⟩)

abbrev s_refused : Stmt := topS 32
abbrev lamF : Str := (envOfC "_law_refused_right" (defScope s_refused) 0 0 .none).qual ++ "<lambda>"
theorem sc_refused : FnScope ["_law_pen_here", "_law_odd", "_law_wrong", "_law_some", "_law_heard_here", "_law_bad", "_law_fine"] ["_law_pen_here"] (defScope s_refused) := ⟨rfl, rfl, rfl, by decide +kernel, rfl, by decide +kernel, by decide +kernel⟩
section
variable {P : Program} {w : World} {K : PySem.W.Frag} {mg : Str → Option Value} {base : Heap}

/-- what Table(2, 1, v) makes of v, the pen at p apart -/
def NumsV (p : Addr) (H : Hp) (due : Option Str) (v : V) : Prop := ∃ o, SeqOf H v o ∧ (∀ xs, o = some xs → xs.length ≤ 3000 ∧ ∀ y ∈ xs, Kd H y ∧ y ≠ .ref p) ∧ dueT (.int 2) (.int 1) o = due ∧ v ≠ .ref p
theorem seqOf_keep {H H' : Hp} {v : V} {o : Option (List V)} (h : SeqOf H v o) (k : ∀ a u, v = .ref a → H a = some u → H' a = some u) : SeqOf H' v o := by
  cases o with
  | some xs =>
    obtain ⟨l, rfl, h⟩ := h
    exact ⟨l, rfl, h.imp (fun z => k _ _ rfl z) fun z => k _ _ rfl z⟩
  | none => exact ⟨h.1.keep fun a u e z => k a u e z, fun l e => (h.2 l e).imp fun kv z => k _ _ e z⟩
theorem NumsV.mv {H H' : Hp} {due : Option Str} {v : V} {p : Addr} (h : NumsV p H due v) (m : Mv p H H') : NumsV p H' due v := by
  obtain ⟨o, a, b, c, d⟩ := h
  exact ⟨o, seqOf_keep a fun q u e z => m _ _ (fun w => d (by rw [e, w])) z, fun xs e => ⟨(b xs e).1, fun y hy => ⟨((b xs e).2 y hy).1.keep fun q u e' z => m _ _ (fun w => ((b xs e).2 y hy).2 (by rw [e', w])) z, ((b xs e).2 y hy).2⟩⟩, c, d⟩
theorem NumsV.same {p : Addr} {H H' : Hp} {due : Option Str} {v : V} (h : NumsV p H due v) (s : Same H H') : NumsV p H' due v := h.mv fun b o _ e => s b o e
theorem NumsV.ext {p : Addr} {H H' : Hp} {due : Option Str} {v : V} (h : NumsV p H due v) (s : LamX.ExtN H H') : NumsV p H' due v := by
  obtain ⟨o, a, b, c, d⟩ := h
  refine ⟨o, ?_, fun xs e => ⟨(b xs e).1, fun y hy => ⟨((b xs e).2 y hy).1.ext s, ((b xs e).2 y hy).2⟩⟩, c, d⟩
  cases o with
  | some xs =>
    obtain ⟨l, rfl, h⟩ := a
    exact ⟨l, rfl, h.imp (fun z => s _ _ z fun _ w => nomatch w) fun z => s _ _ z fun _ w => nomatch w⟩
  | none => exact ⟨a.1.ext s, fun l e => (a.2 l e).imp fun kv z => s _ _ z fun _ w => nomatch w⟩
theorem ref_ne {a p : Addr} (h : a ≠ p) : V.ref a ≠ V.ref p := fun z => h (by cases z; rfl)
theorem kd_of {H : Hp} {xs : List V} (h : xs.all (fun y => match y with | .non | .bl _ | .int _ | .str _ => true | _ => false) = true) : ∀ y ∈ xs, Kd H y := fun y hy => by
  have q := List.all_eq_true.mp h y hy
  cases y <;> first | exact True.intro | cases q
theorem nums_flat {p : Addr} {H : Hp} {l : Addr} {xs : List V} {due : Option Str} (h : SeqAt2 H l xs) (lp : l ≠ p) (few : xs.length ≤ 3000) (fl : xs.all flatV = true) (kd : ∀ y ∈ xs, Kd H y) (e : dueT (.int 2) (.int 1) (some xs) = due) : NumsV p H due (.ref l) :=
  ⟨some xs, ⟨l, rfl, h⟩, (fun ys q => by
    cases q
    refine ⟨few, fun y hy => ⟨kd y hy, fun z => ?_⟩⟩
    have f := List.all_eq_true.mp fl y hy
    rw [z] at f
    cases f), e, ref_ne lp⟩
theorem nums_non {p : Addr} {H : Hp} {v : V} (h : Kd H v) (n : ∀ l, v = .ref l → ∃ kvs, H l = some (.dK kvs)) (vp : v ≠ .ref p) : NumsV p H (some "numbers") v := ⟨none, ⟨h, n⟩, (fun xs e => nomatch e), by decide +kernel, vp⟩
/-- a list of what was heard at td, made behind H0 -/
structure HeardAt (TL : List (Addr × Str)) (H0 : Hp) (td : Addr) (ys : List V) (H : Hp) : Prop where
  fresh : ∀ b o, H0 b = some o → (∀ ps, o ≠ .tbl ps) → b ≠ td
  ext : LamX.ExtN H0 H
  tabs : LamX.Tabs TL H
  at_ : H td = some (.lst ys)
theorem HeardAt.first {TL : List (Addr × Str)} {H0 H : Hp} {td : Addr} {y : V} (e : LamX.ExtN H0 H) (t : LamX.Tabs TL H) (n : H td = none) : HeardAt TL H0 td [y] (upd H td (.lst [y])) :=
  ⟨(fun b o h nt z => by
    have q := e b o h nt
    rw [z, n] at q
    cases q), e.trans (.of (Same.new n)), t.ext (Same.new n), upd_same⟩
theorem HeardAt.app {TL : List (Addr × Str)} {H0 H H' : Hp} {td : Addr} {ys : List V} {y : V} (h : HeardAt TL H0 td ys H) (e : LamX.ExtN H H') (t : LamX.Tabs TL H') : H' td = some (.lst ys) ∧ HeardAt TL H0 td (ys ++ [y]) (upd H' td (.lst (ys ++ [y]))) := by
  have a := e _ _ h.at_ (fun _ z => nomatch z)
  refine ⟨a, h.fresh, fun b o q nt => ?_, tabs_mv a Mv.here t, upd_same⟩
  rw [upd_ne (h.fresh b o q nt)]
  exact (h.ext.trans e) b o q nt
def spRefused (TL : List (Addr × Str)) : Sp := fun vs H Q _ => ∃ (n : Nat) (p q : Addr), vs = [.ref p] ∧ PenAt n H p q ∧ n < 90000 ∧ LamX.Tabs TL H ∧ ∀ H', PenAt (n + 4) H' p q → MvN p H H' → LamX.Tabs TL H' → Q (.bl true) H'
theorem ok_refused {TL : List (Addr × Str)} {f fD fP fH fTi CT CB CX c Pt : Addr} {fd fdD fdP fdH fdTi : FuncData} (F : Fun K "_law_refused_right" "_law_refused_right" s_refused f fd) (code : fd.code = .ref c) (TB : LamX.TabB base mg c Pt) (mT : (Pt, lamF) ∈ TL) (uT : ∀ p ∈ TL, p.1 = Pt → p.2 = lamF)
    (U : Blt mg) (Z : PrgG K mg CX CB) (D : Fun K "_law_draw" "_law_draw" s_draw fD fdD) (gD : mg "_law_draw" = some (.ref fD)) (b_draw : L2.Binds K fdD ["_law_pen_here", "_law_many"] [])
    (Pk : Fun K "_law_pick" "_law_pick" s_pick fP fdP) (gP : mg "_law_pick" = some (.ref fP)) (b_pick : L2.Binds K fdP ["_law_pen_here", "_law_some"] [])
    (Hd : Fun K "_law_heard" "_law_heard" s_heard fH fdH) (gH : mg "_law_heard" = some (.ref fH)) (b_heard0 : L2.Binds K fdH ["_law_ask"] [])
    (MkT : Mk K CT fTi) (gTab : mg "Table" = some (.ref CT)) (b_ti : L2.Binds K fdTi ["self", "begin", "period", "numbers"] []) (G_ti : FnOk P w K mg base (L2.CX P w) 5 fTi fdTi ["self", "begin", "period", "numbers"] (spTable CB CT)) : FnG P w K mg base CX0 9 f fd ["_law_pen_here"] (spRefused TL) := by
  have G_pick : FnOk P w K mg base CX0 2 fP fdP ["_law_pen_here", "_law_some"] (spPick K) := ok_pick Pk U D gD b_draw
  obtain ⟨oc, od, kV, doc, pm, an, cdvH, ct, osl, rfl, lkH, codeH⟩ := Hd.ex
  have b_heard := b_heard0
  refine funG F sc_refused (fun vs H Q E h => ?_) (fun cdv A outer s H vs Q E hcdv hr hg h => ?_)
  · obtain ⟨n, p, q, rfl, _⟩ := h
    rfl
  · obtain ⟨n, p, q, rfl, hp, hn, tabs, fin⟩ := h
    obtain rfl : cdv = .ref c := hcdv.symm.trans code
    have hcode : ∀ {X : Cx}, X.env.code = .ref c → X.env.code = .ref c := id
    refine ⟨_, (C8.pss_cut (ps_set (i := 1) sc_refused.nd rfl (Or.inr rfl) (pe_call G_pick (hr.mono (by decide)) rfl gP Pk.kp b_pick .nil pass0 (by exact (pa_cons (pv 0) (pa_cons (pe_lst (pa_cons pe_non (pa_cons pe_bl (pa_cons pe_bl (pa_cons (pe_un un_neg pe_int) (pa_cons pe_int (pa_cons pe_str (pa_cons (pe_tup (pa_cons pe_int pa_nil)) (pa_cons (pe_lst pa_nil) (pa_cons pe_dnewK (pa_cons (pe_op op_pow pe_int pe_int) pa_nil))))))))))) pa_nil)))))
  (C8.pss_cut (ps_set (i := 2) sc_refused.nd rfl (Or.inr rfl) (pe_call G_pick (hr.mono (by decide)) rfl gP Pk.kp b_pick .nil pass0 (by exact (pa_cons (pv 0) (pa_cons (pe_lst (pa_cons pe_non (pa_cons pe_bl (pa_cons pe_int (pa_cons (pe_un un_neg pe_int) (pa_cons pe_int (pa_cons pe_str (pa_cons (pe_tup (pa_cons pe_int pa_nil)) (pa_cons (pe_lst pa_nil) (pa_cons pe_dnewK (pa_cons (pe_op op_pow pe_int pe_int) pa_nil))))))))))) pa_nil)))))
  (C8.pss_cut (ps_set (i := 3) sc_refused.nd rfl (Or.inl rfl) (pe_lst (pa_cons pe_non (pa_cons pe_int (pa_cons pe_str (pa_cons pe_dnewK (pa_cons (pe_disp (pps_cons pe_int pe_int pps_nil) (by rfl) (by rfl) (fun z => by cases z) (by decide)) (pa_cons (pe_lst pa_nil) (pa_cons (pe_tup pa_nil) (pa_cons (pe_lst (pa_cons pe_int (pa_cons pe_int pa_nil))) (pa_cons (pe_tup (pa_cons pe_int (pa_cons pe_int (pa_cons pe_int (pa_cons pe_int pa_nil))))) (pa_cons (pe_lst (pa_cons pe_int (pa_cons pe_int (pa_cons pe_int pa_nil)))) (pa_cons (pe_lst (pa_cons pe_int (pa_cons pe_bl (pa_cons pe_int pa_nil)))) (pa_cons (pe_lst (pa_cons pe_int (pa_cons pe_non (pa_cons pe_int pa_nil)))) pa_nil))))))))))))))
  (C8.pss_cut (ps_set (i := 3) sc_refused.nd rfl (Or.inl rfl) (pe_op op_cat (pv 3) (pe_lst (pa_cons (pe_lst (pa_cons pe_int (pa_cons pe_int (pa_cons pe_int pa_nil)))) (pa_cons (pe_lst (pa_cons pe_int (pa_cons (pe_un un_neg pe_int) (pa_cons pe_int pa_nil)))) (pa_cons (pe_lst (pa_cons pe_int (pa_cons (pe_lst (pa_cons pe_int pa_nil)) (pa_cons pe_int pa_nil)))) (pa_cons (pe_tup (pa_cons pe_int (pa_cons pe_int (pa_cons pe_str pa_nil)))) (pa_cons (pe_tup (pa_cons pe_bl (pa_cons pe_int (pa_cons pe_int pa_nil)))) (pa_cons (pe_lst (pa_cons pe_int (pa_cons pe_int (pa_cons (pe_op op_pow pe_int pe_int) pa_nil)))) (pa_cons (pe_tup (pa_cons pe_int (pa_cons pe_int (pa_cons pe_int pa_nil)))) pa_nil))))))))))
  (C8.pss_cut (ps_asg (pe_tup (by exact (pa_cons (pe_call G_pick (hr.mono (by decide)) rfl gP Pk.kp b_pick .nil pass0 (by exact (pa_cons (pv 0) (pa_cons (pv 3) pa_nil)))) (pa_cons (pe_call G_pick (hr.mono (by decide)) rfl gP Pk.kp b_pick .nil pass0 (by exact (pa_cons (pv 0) (pa_cons (pe_lst (pa_cons (pe_lst (pa_cons pe_int (pa_cons pe_int (pa_cons pe_int pa_nil)))) (pa_cons (pe_tup (pa_cons pe_int (pa_cons pe_int (pa_cons pe_int pa_nil)))) pa_nil))) pa_nil)))) pa_nil)))) (pg_tup rfl (pgs_cons (pg_name (i := 5) sc_refused.nd rfl (Or.inr rfl)) (pgs_cons (pg_name (i := 6) sc_refused.nd rfl (Or.inr rfl)) pgs_nil))))
  (C8.pss_cut (ps_set (i := 4) sc_refused.nd rfl (Or.inl rfl) (pe_lst (pa_cons (pe_box (LamX.pe_lamcall (k := 6) (t := (fun E => tMake CT (spTable CB CT) [] E (tCons (tVar 1) (tCons (tVar 2) (tCons (tVar 5) tNil))))) (T := TL) rfl gH Hd.kp lkH codeH b_heard sc_heard rfl (Or.inl rfl) (heard_gives U Z) TB (hcode rfl) mT uT (hr.mono (by decide)) (LamX.lamS_by (by kernel_rfl)) rfl (fun _ _ _ _ _ => rfl) (fun A2 outer2 s2 H2 E2 f2 c2 hr2 => (pe_make MkT G_ti (hr2.mono (by decide)) rfl gTab b_ti .nil (passes_call (takes_of rfl rfl rfl rfl) (fun _ _ _ _ h => h)) (by exact (pa_cons (pv 1) (pa_cons (pv 2) (pa_cons (pv 5) pa_nil)))))))) pa_nil)))
  (C8.pss_cut (ps_expr (pe_bm PySem.F.plainAttrs_list PySem.F.slot_list_append PySem.F.type_list_append mt_append (pv 4) (pa_cons (pe_box (LamX.pe_lamcall (k := 6) (t := (fun E => tMake CT (spTable CB CT) [] E (tCons (tC (.int 2)) (tCons (tVar 2) (tCons (tVar 5) tNil))))) (T := TL) rfl gH Hd.kp lkH codeH b_heard sc_heard rfl (Or.inl rfl) (heard_gives U Z) TB (hcode rfl) mT uT (hr.mono (by decide)) (LamX.lamS_by (by kernel_rfl)) rfl (fun _ _ _ _ _ => rfl) (fun A2 outer2 s2 H2 E2 f2 c2 hr2 => (pe_make MkT G_ti (hr2.mono (by decide)) rfl gTab b_ti .nil (passes_call (takes_of rfl rfl rfl rfl) (fun _ _ _ _ h => h)) (by exact (pa_cons pe_int (pa_cons (pv 2) (pa_cons (pv 5) pa_nil)))))))) pa_nil)))
  (C8.pss_cut (ps_expr (pe_bm PySem.F.plainAttrs_list PySem.F.slot_list_append PySem.F.type_list_append mt_append (pv 4) (pa_cons (pe_box (LamX.pe_lamcall (k := 6) (t := (fun E => tMake CT (spTable CB CT) [] E (tCons (tC (.int 2)) (tCons (tC (.int 1)) (tCons (tVar 5) tNil))))) (T := TL) rfl gH Hd.kp lkH codeH b_heard sc_heard rfl (Or.inl rfl) (heard_gives U Z) TB (hcode rfl) mT uT (hr.mono (by decide)) (LamX.lamS_by (by kernel_rfl)) rfl (fun _ _ _ _ _ => rfl) (fun A2 outer2 s2 H2 E2 f2 c2 hr2 => (pe_make MkT G_ti (hr2.mono (by decide)) rfl gTab b_ti .nil (passes_call (takes_of rfl rfl rfl rfl) (fun _ _ _ _ h => h)) (by exact (pa_cons pe_int (pa_cons pe_int (pa_cons (pv 5) pa_nil)))))))) pa_nil)))
  (C8.pss_cut (ps_expr (pe_bm PySem.F.plainAttrs_list PySem.F.slot_list_append PySem.F.type_list_append mt_append (pv 4) (pa_cons (pe_box (LamX.pe_lamcall (k := 6) (t := (fun E => tMake CT (spTable CB CT) [] E (tCons (tC (.int 2)) (tCons (tC (.int 1)) (tCons (tVar 6) tNil))))) (T := TL) rfl gH Hd.kp lkH codeH b_heard sc_heard rfl (Or.inl rfl) (heard_gives U Z) TB (hcode rfl) mT uT (hr.mono (by decide)) (LamX.lamS_by (by kernel_rfl)) rfl (fun _ _ _ _ _ => rfl) (fun A2 outer2 s2 H2 E2 f2 c2 hr2 => (pe_make MkT G_ti (hr2.mono (by decide)) rfl gTab b_ti .nil (passes_call (takes_of rfl rfl rfl rfl) (fun _ _ _ _ h => h)) (by exact (pa_cons pe_int (pa_cons pe_int (pa_cons (pv 6) pa_nil)))))))) pa_nil)))
  (pss_one (ps_ret (pe_cmpR (op_eqD hr.units) (pv 4) (pe_lst (pa_cons pe_str (pa_cons pe_str (pa_cons pe_str (pa_cons pe_non pa_nil))))) (nomark _))))))))))))), ?_⟩
    have sz : (10000 : Nat) ≤ sizeLine := by show 10000 ≤ 16777216; decide
    obtain ⟨zs0, hp0⟩ := hp.lst
    refine ⟨fun σ' H' => ∃ vo : V, σ' = [some (.ref p), some vo, none, none, none, none, none] ∧ PenAt (n + 1) H' p q ∧ Mv p H H' ∧ Kd H' vo ∧ vo ≠ .ref p ∧ numV 0 1000 vo = false, ?_, ?_⟩
    · refine ⟨_, rfl, _, rfl, by show 1 ≤ sizeLine; omega, fun t0 ht0 => ⟨by show 0 ≤ sizeLine; omega, fun l0 hl0 => fun d0 hd0 => ⟨_, _, rfl, rfl, ⟨by decide, by decide, by decide⟩, by show 10 ≤ sizeLine; omega, fun l1 hl1 => ?_⟩⟩⟩
      have q1 := hp.new (o := .tup [V.int 1]) ht0
      have q2 := q1.new (o := .lst []) hl0
      have q3 := q2.new (o := .dK []) hd0
      have u2 := Same.new (o := .lst []) hl0
      have u3 := Same.new (o := .dK []) hd0
      have u4 := Same.new (o := .lst [V.non, .bl true, .bl false, .int (-1), .int 1001, .str "1", .ref t0, .ref l0, .ref d0, .int (10 ^ 39)]) hl1
      refine ⟨n, p, q, l1, _, rfl, q3.new hl1, by omega, (q3.fresh hl1).1, upd_same, by show 0 < 10; decide, by show 10 ≤ 1000; decide, fun H3 y p3 m3 hy => ?_⟩
      have mv := ((((Mv.new ht0).trans (Mv.new hl0)).trans (Mv.new hd0)).trans (Mv.new hl1)).trans m3
      have rf : ∀ {a : Addr}, a ≠ p → V.ref a ≠ V.ref p := fun h z => h (by cases z; rfl)
      simp only [List.mem_cons, List.not_mem_nil, or_false] at hy
      rcases hy with rfl | rfl | rfl | rfl | rfl | rfl | rfl | rfl | rfl | rfl
      · exact ⟨_, rfl, p3, mv, True.intro, (fun z => nomatch z), rfl⟩
      · exact ⟨_, rfl, p3, mv, True.intro, (fun z => nomatch z), rfl⟩
      · exact ⟨_, rfl, p3, mv, True.intro, (fun z => nomatch z), rfl⟩
      · exact ⟨_, rfl, p3, mv, True.intro, (fun z => nomatch z), by decide⟩
      · exact ⟨_, rfl, p3, mv, True.intro, (fun z => nomatch z), by decide⟩
      · exact ⟨_, rfl, p3, mv, True.intro, (fun z => nomatch z), rfl⟩
      · exact ⟨_, rfl, p3, mv, .inl ⟨_, m3 _ _ (hp.fresh ht0).1 (u4 _ _ (u3 _ _ (u2 _ _ upd_same)))⟩, rf (hp.fresh ht0).1, rfl⟩
      · exact ⟨_, rfl, p3, mv, .inr (.inl ⟨_, m3 _ _ (q1.fresh hl0).1 (u4 _ _ (u3 _ _ upd_same))⟩), rf (q1.fresh hl0).1, rfl⟩
      · exact ⟨_, rfl, p3, mv, .inr (.inr ⟨_, m3 _ _ (q2.fresh hd0).1 (u4 _ _ upd_same)⟩), rf (q2.fresh hd0).1, rfl⟩
      · exact ⟨_, rfl, p3, mv, True.intro, (fun z => nomatch z), by decide⟩
    rintro σ' H1 ⟨vo, rfl, p1, m1, ko, op, oo⟩
    refine ⟨fun σ' H' => ∃ vw : V, σ' = [some (.ref p), some vo, some vw, none, none, none, none] ∧ PenAt (n + 2) H' p q ∧ Mv p H1 H' ∧ Kd H' vw ∧ vw ≠ .ref p ∧ numV 1 1000 vw = false, ?_, ?_⟩
    · refine ⟨_, rfl, _, rfl, by show 1 ≤ sizeLine; omega, fun t0 ht0 => ⟨by show 0 ≤ sizeLine; omega, fun l0 hl0 => fun d0 hd0 => ⟨_, _, rfl, rfl, ⟨by decide, by decide, by decide⟩, by show 10 ≤ sizeLine; omega, fun l1 hl1 => ?_⟩⟩⟩
      have q1 := p1.new (o := .tup [V.int 1]) ht0
      have q2 := q1.new (o := .lst []) hl0
      have q3 := q2.new (o := .dK []) hd0
      have u2 := Same.new (o := .lst []) hl0
      have u3 := Same.new (o := .dK []) hd0
      have u4 := Same.new (o := .lst [V.non, .bl true, .int 0, .int (-1), .int 1001, .str "1", .ref t0, .ref l0, .ref d0, .int (10 ^ 39)]) hl1
      refine ⟨n + 1, p, q, l1, _, rfl, q3.new hl1, by omega, (q3.fresh hl1).1, upd_same, by show 0 < 10; decide, by show 10 ≤ 1000; decide, fun H3 y p3 m3 hy => ?_⟩
      have mv := ((((Mv.new ht0).trans (Mv.new hl0)).trans (Mv.new hd0)).trans (Mv.new hl1)).trans m3
      have rf : ∀ {a : Addr}, a ≠ p → V.ref a ≠ V.ref p := fun h z => h (by cases z; rfl)
      simp only [List.mem_cons, List.not_mem_nil, or_false] at hy
      rcases hy with rfl | rfl | rfl | rfl | rfl | rfl | rfl | rfl | rfl | rfl
      · exact ⟨_, rfl, p3, mv, True.intro, (fun z => nomatch z), rfl⟩
      · exact ⟨_, rfl, p3, mv, True.intro, (fun z => nomatch z), rfl⟩
      · exact ⟨_, rfl, p3, mv, True.intro, (fun z => nomatch z), by decide⟩
      · exact ⟨_, rfl, p3, mv, True.intro, (fun z => nomatch z), by decide⟩
      · exact ⟨_, rfl, p3, mv, True.intro, (fun z => nomatch z), by decide⟩
      · exact ⟨_, rfl, p3, mv, True.intro, (fun z => nomatch z), rfl⟩
      · exact ⟨_, rfl, p3, mv, .inl ⟨_, m3 _ _ (p1.fresh ht0).1 (u4 _ _ (u3 _ _ (u2 _ _ upd_same)))⟩, rf (p1.fresh ht0).1, rfl⟩
      · exact ⟨_, rfl, p3, mv, .inr (.inl ⟨_, m3 _ _ (q1.fresh hl0).1 (u4 _ _ (u3 _ _ upd_same))⟩), rf (q1.fresh hl0).1, rfl⟩
      · exact ⟨_, rfl, p3, mv, .inr (.inr ⟨_, m3 _ _ (q2.fresh hd0).1 (u4 _ _ upd_same)⟩), rf (q2.fresh hd0).1, rfl⟩
      · exact ⟨_, rfl, p3, mv, True.intro, (fun z => nomatch z), by decide⟩
    rintro σ' H2 ⟨vw, rfl, p2, m2, kw, wp, ww⟩
    -- values that are no rows
    refine ⟨fun σ' H' => ∃ (so : Addr) (xs : List V), σ' = [some (.ref p), some vo, some vw, some (.ref so), none, none, none] ∧ PenAt (n + 2) H' p q ∧ Mv p H2 H' ∧ so ≠ p ∧ H' so = some (.lst xs) ∧ xs.length ≤ 100 ∧ 0 < xs.length ∧ ∀ v ∈ xs, NumsV p H' (some "numbers") v, ?_, ?_⟩
    · refine fun d1 hd1 => fun d2 hd2 => ⟨upd_same, [(.inl 0, .int 0)], rfl, by decide, ?_⟩
      rw [upd_upd]
      refine ⟨by show 0 ≤ sizeLine; omega, fun l1 hl1 => ⟨by show 0 ≤ sizeLine; omega, fun t1 ht1 => ⟨by show 2 ≤ sizeLine; omega, fun l2 hl2 => ⟨by show 4 ≤ sizeLine; omega, fun t2 ht2 => ⟨by show 3 ≤ sizeLine; omega, fun l3 hl3 => ⟨by show 3 ≤ sizeLine; omega, fun l4 hl4 => ⟨by show 3 ≤ sizeLine; omega, fun l5 hl5 => ⟨by show 12 ≤ sizeLine; omega, fun so hso => ?_⟩⟩⟩⟩⟩⟩⟩⟩
      have q1 := p2.new (o := .dK []) hd1
      have q2 := q1.new (o := .dK (mergeK [] [(.inl 0, .int 0)])) hd2
      have q3 := q2.new (o := .lst []) hl1
      have q4 := q3.new (o := .tup []) ht1
      have q5 := q4.new (o := .lst [V.int 0, .int 0]) hl2
      have q6 := q5.new (o := .tup [V.int 0, .int 0, .int 0, .int 0]) ht2
      have q7 := q6.new (o := .lst [V.int 1, .int 0, .int 0]) hl3
      have q8 := q7.new (o := .lst [V.int 0, .bl true, .int 0]) hl4
      have q9 := q8.new (o := .lst [V.int 0, .non, .int 0]) hl5
      have u2 := Same.new (o := .dK (mergeK [] [(.inl 0, .int 0)])) hd2
      have u3 := Same.new (o := .lst []) hl1
      have u4 := Same.new (o := .tup []) ht1
      have u5 := Same.new (o := .lst [V.int 0, .int 0]) hl2
      have u6 := Same.new (o := .tup [V.int 0, .int 0, .int 0, .int 0]) ht2
      have u7 := Same.new (o := .lst [V.int 1, .int 0, .int 0]) hl3
      have u8 := Same.new (o := .lst [V.int 0, .bl true, .int 0]) hl4
      have u9 := Same.new (o := .lst [V.int 0, .non, .int 0]) hl5
      have uX := Same.new (o := .lst [V.non, .int 0, .str "000", .ref d1, .ref d2, .ref l1, .ref t1, .ref l2, .ref t2, .ref l3, .ref l4, .ref l5]) hso
      have mv := ((((((((((Mv.new (p := p) (o := .dK []) hd1).trans (Mv.new hd2)).trans (Mv.new hl1)).trans (Mv.new ht1)).trans (Mv.new hl2)).trans (Mv.new ht2)).trans (Mv.new hl3)).trans (Mv.new hl4)).trans (Mv.new hl5))).trans (Mv.new (o := .lst [V.non, .int 0, .str "000", .ref d1, .ref d2, .ref l1, .ref t1, .ref l2, .ref t2, .ref l3, .ref l4, .ref l5]) hso)
      have s9 := u9.trans uX
      have s8 := u8.trans s9
      have s7 := u7.trans s8
      have s6 := u6.trans s7
      have s5 := u5.trans s6
      have s4 := u4.trans s5
      have s3 := u3.trans s4
      have s2 := u2.trans s3
      refine ⟨so, _, rfl, q9.new hso, mv, (q9.fresh hso).1, upd_same, by show 12 ≤ 100; decide, by show 0 < 12; decide, fun v hv => ?_⟩
      simp only [List.mem_cons, List.not_mem_nil, or_false] at hv
      rcases hv with rfl | rfl | rfl | rfl | rfl | rfl | rfl | rfl | rfl | rfl | rfl | rfl
      · exact nums_non True.intro (fun _ z => nomatch z) (fun z => nomatch z)
      · exact nums_non True.intro (fun _ z => nomatch z) (fun z => nomatch z)
      · exact nums_non True.intro (fun _ z => nomatch z) (fun z => nomatch z)
      · exact nums_non (.inr (.inr ⟨_, s2 _ _ upd_same⟩)) (fun l z => by cases z; exact ⟨_, s2 _ _ upd_same⟩) (ref_ne (p2.fresh hd1).1)
      · exact nums_non (.inr (.inr ⟨_, s3 _ _ upd_same⟩)) (fun l z => by cases z; exact ⟨_, s3 _ _ upd_same⟩) (ref_ne (q1.fresh hd2).1)
      · exact nums_flat (.inl (s4 _ _ upd_same)) (q2.fresh hl1).1 (by decide) rfl (fun y hy => by cases hy) (by decide +kernel)
      · exact nums_flat (.inr (s5 _ _ upd_same)) (q3.fresh ht1).1 (by decide) rfl (fun y hy => by cases hy) (by decide +kernel)
      · exact nums_flat (.inl (s6 _ _ upd_same)) (q4.fresh hl2).1 (by decide) rfl (kd_of rfl) (by decide +kernel)
      · exact nums_flat (.inr (s7 _ _ upd_same)) (q5.fresh ht2).1 (by decide) rfl (kd_of rfl) (by decide +kernel)
      · exact nums_flat (.inl (s8 _ _ upd_same)) (q6.fresh hl3).1 (by decide) rfl (kd_of rfl) (by decide +kernel)
      · exact nums_flat (.inl (s9 _ _ upd_same)) (q7.fresh hl4).1 (by decide) rfl (kd_of rfl) (by decide +kernel)
      · exact nums_flat (.inl (uX _ _ upd_same)) (q8.fresh hl5).1 (by decide) rfl (kd_of rfl) (by decide +kernel)
    rintro σ' H3 ⟨so, xs, rfl, p3, m3, sop, hso, few, pos, each⟩
    refine ⟨fun σ' H' => ∃ (so : Addr) (xs : List V), σ' = [some (.ref p), some vo, some vw, some (.ref so), none, none, none] ∧ PenAt (n + 2) H' p q ∧ Mv p H2 H' ∧ so ≠ p ∧ H' so = some (.lst xs) ∧ xs.length ≤ 200 ∧ 0 < xs.length ∧ ∀ v ∈ xs, NumsV p H' (some "numbers") v, ?_, ?_⟩
    · refine ⟨_, rfl, by show 3 ≤ sizeLine; omega, fun a1 h1 => ⟨_, rfl, by show 3 ≤ sizeLine; omega, fun a2 h2 => ⟨by show 1 ≤ sizeLine; omega, fun ai hi => ⟨by show 3 ≤ sizeLine; omega, fun a3 h3 => ⟨by show 3 ≤ sizeLine; omega, fun a4 h4 => ⟨by show 3 ≤ sizeLine; omega, fun a5 h5 => ⟨_, _, rfl, rfl, ⟨by decide, by decide, by decide⟩, by show 3 ≤ sizeLine; omega, fun a6 h6 => ⟨by show 3 ≤ sizeLine; omega, fun a7 h7 => ⟨by show 7 ≤ sizeLine; omega, fun lb hlb => ?_⟩⟩⟩⟩⟩⟩⟩⟩⟩
      have q1 := p3.new (o := .lst [V.int 0, .int 401, .int 0]) h1
      have q2 := q1.new (o := .lst [V.int 0, .int (-1), .int 0]) h2
      have q3 := q2.new (o := .lst [V.int 0]) hi
      have q4 := q3.new (o := .lst [V.int 0, .ref ai, .int 0]) h3
      have q5 := q4.new (o := .tup [V.int 0, .int 0, .str "0"]) h4
      have q6 := q5.new (o := .tup [V.bl false, .int 0, .int 0]) h5
      have q7 := q6.new (o := .lst [V.int 0, .int 0, .int (10 ^ 39)]) h6
      have q8 := q7.new (o := .tup [V.int 400, .int 0, .int 0]) h7
      have q9 := q8.new (o := .lst [V.ref a1, .ref a2, .ref a3, .ref a4, .ref a5, .ref a6, .ref a7]) hlb
      have u1 := Same.new (o := .lst [V.int 0, .int 401, .int 0]) h1
      have u2 := Same.new (o := .lst [V.int 0, .int (-1), .int 0]) h2
      have u3 := Same.new (o := .lst [V.int 0]) hi
      have u4 := Same.new (o := .lst [V.int 0, .ref ai, .int 0]) h3
      have u5 := Same.new (o := .tup [V.int 0, .int 0, .str "0"]) h4
      have u6 := Same.new (o := .tup [V.bl false, .int 0, .int 0]) h5
      have u7 := Same.new (o := .lst [V.int 0, .int 0, .int (10 ^ 39)]) h6
      have u8 := Same.new (o := .tup [V.int 400, .int 0, .int 0]) h7
      have u9 := Same.new (o := .lst [V.ref a1, .ref a2, .ref a3, .ref a4, .ref a5, .ref a6, .ref a7]) hlb
      have all_ := ((((((((u1.trans u2).trans u3).trans u4).trans u5).trans u6).trans u7).trans u8).trans u9)
      refine ⟨so, lb, _, _, rfl, rfl, all_ _ _ hso, upd_same, by show xs.length + 7 ≤ sizeLine; omega, fun s2 hs2 => ?_⟩
      have uX := Same.new (o := .lst (xs ++ [V.ref a1, .ref a2, .ref a3, .ref a4, .ref a5, .ref a6, .ref a7])) hs2
      have s9 := u9.trans uX
      have s8 := u8.trans s9
      have s7 := u7.trans s8
      have s6 := u6.trans s7
      have s5 := u5.trans s6
      have s4 := u4.trans s5
      have s3 := u3.trans s4
      have s2' := u2.trans s3
      have sA := all_.trans uX
      refine ⟨s2, _, rfl, q9.new hs2, fun b o nb e => sA _ _ (m3 b o nb e), (q9.fresh hs2).1, upd_same, by rw [List.length_append]; show xs.length + 7 ≤ 200; omega, by rw [List.length_append]; omega, fun v hv => ?_⟩
      rcases List.mem_append.mp hv with hv | hv
      · exact (each v hv).same sA
      simp only [List.mem_cons, List.not_mem_nil, or_false] at hv
      rcases hv with rfl | rfl | rfl | rfl | rfl | rfl | rfl
      · exact nums_flat (.inl (s2' _ _ upd_same)) (p3.fresh h1).1 (by decide) rfl (kd_of rfl) (by decide +kernel)
      · exact nums_flat (.inl (s3 _ _ upd_same)) (q1.fresh h2).1 (by decide) rfl (kd_of rfl) (by decide +kernel)
      · refine ⟨some [V.int 0, .ref ai, .int 0], ⟨a3, rfl, .inl (s5 _ _ upd_same)⟩, fun ys e => ?_, by rfl, ref_ne (q3.fresh h3).1⟩
        cases e
        refine ⟨by show 3 ≤ 3000; decide, fun y hy => ?_⟩
        simp only [List.mem_cons, List.not_mem_nil, or_false] at hy
        rcases hy with rfl | rfl | rfl
        · exact ⟨True.intro, fun z => nomatch z⟩
        · exact ⟨.inr (.inl ⟨_, s4 _ _ upd_same⟩), ref_ne (q2.fresh hi).1⟩
        · exact ⟨True.intro, fun z => nomatch z⟩
      · exact nums_flat (.inr (s6 _ _ upd_same)) (q4.fresh h4).1 (by decide) rfl (kd_of rfl) (by decide +kernel)
      · exact nums_flat (.inr (s7 _ _ upd_same)) (q5.fresh h5).1 (by decide) rfl (kd_of rfl) (by decide +kernel)
      · exact nums_flat (.inl (s8 _ _ upd_same)) (q6.fresh h6).1 (by decide) rfl (kd_of rfl) (by decide +kernel)
      · exact nums_flat (.inr (s9 _ _ upd_same)) (q7.fresh h7).1 (by decide) rfl (kd_of rfl) (by decide +kernel)
    rintro σ' H4 ⟨so, xs, rfl, p4, m4, sop, hso, few, pos, each⟩
    refine ⟨fun σ' H' => ∃ (so : Addr) (vb vf : V), σ' = [some (.ref p), some vo, some vw, some (.ref so), none, some vb, some vf] ∧ PenAt (n + 4) H' p q ∧ Mv p H2 H' ∧ NumsV p H' (some "numbers") vb ∧ NumsV p H' none vf, ?_, ?_⟩
    · refine ⟨_, rfl, _, rfl, n + 2, p, q, so, xs, rfl, p4, by omega, sop, hso, pos, by omega, fun H5 y p5 m5 hy => ?_⟩
      refine ⟨_, rfl, by show 3 ≤ sizeLine; omega, fun b1 h1 => ⟨by show 3 ≤ sizeLine; omega, fun b2 h2 => ⟨by show 2 ≤ sizeLine; omega, fun lb hlb => ?_⟩⟩⟩
      have q1 := p5.new (o := .lst [V.int 0, .int 0, .int 0]) h1
      have q2 := q1.new (o := .tup [V.int 0, .int 400, .int 1]) h2
      have u2 := Same.new (o := .tup [V.int 0, .int 400, .int 1]) h2
      have u3 := Same.new (o := .lst [V.ref b1, .ref b2]) hlb
      refine ⟨n + 3, p, q, lb, _, rfl, q2.new hlb, by omega, (q2.fresh hlb).1, upd_same, by show 0 < 2; decide, by show 2 ≤ 1000; decide, fun H6 f p6 m6 hf => ?_⟩
      have mv := ((Mv.new h1).trans ((Mv.new h2).trans (Mv.new hlb))).trans m6
      have by6 := ((each y hy).mv m5).mv mv
      have bf6 : NumsV p H6 none f := by
        simp only [List.mem_cons, List.not_mem_nil, or_false] at hf
        rcases hf with rfl | rfl
        · exact nums_flat (.inl (m6 _ _ (p5.fresh h1).1 (u3 _ _ (u2 _ _ upd_same)))) (p5.fresh h1).1 (by decide) rfl (kd_of rfl) (by decide +kernel)
        · exact nums_flat (.inr (m6 _ _ (q1.fresh h2).1 (u3 _ _ upd_same))) (q1.fresh h2).1 (by decide) rfl (kd_of rfl) (by decide +kernel)
      refine ⟨by show 2 ≤ sizeLine; omega, fun t ht => ⟨t, _, rfl, SqT.of upd_same, rfl, _, _, rfl, _, _, rfl, rfl, ?_⟩⟩
      exact ⟨so, y, f, rfl, p6.new ht, ((m4.trans m5).trans mv).trans (Mv.new ht), by6.same (Same.new ht), bf6.same (Same.new ht)⟩
    rintro σ' H5 ⟨so, vb, vf, rfl, p5, m5, nb, nf⟩
    have m05 := (m1.trans m2).trans m5
    have tabs5 := tabs_mv hp0 m05 tabs
    have kw5 : Kd H5 vw := kw.keep fun a o e z => m5 _ _ (fun w => wp (by rw [e, w])) z
    have ko5 : Kd H5 vo := (ko.keep fun a o e z => m2 _ _ (fun w => op (by rw [e, w])) z).keep fun a o e z => m5 _ _ (fun w => op (by rw [e, w])) z
    have d1 : ∀ o, dueT vo vw o = some "begin" := fun o => by
      unfold dueT
      rw [oo]
      rfl
    have d2 : ∀ o, dueT (.int 2) vw o = some "period" := fun o => by
      unfold dueT
      rw [show numV 0 1000 (.int 2) = true from by decide, ww]
      rfl
    have arg : ∀ (due due2 : Option Str) (b pe v : V), NumsV p H5 due2 v → (Kd H5 b) → (Kd H5 pe) → (∀ o, dueT (.int 2) (.int 1) o = due2 → dueT b pe o = due) → ∀ H', LamX.ExtN H5 H' → ∀ R : List V → Hp → Prop, (∀ H'' v' o, Same H' H'' → SeqOf H'' v' o → (∀ xs, o = some xs → xs.length ≤ 3000 ∧ ∀ y ∈ xs, Kd H'' y) → Kd H'' b → Kd H'' pe → dueT b pe o = due → R [b, pe, v'] H'') → R [b, pe, v] H' := fun due due2 b pe v nv kb kp imp H' e R k => by
      obtain ⟨o, a1, a2, a3, _⟩ := nv.ext e
      exact k H' v o (fun _ _ z => z) a1 (fun xs e => ⟨(a2 xs e).1, fun y hy => ((a2 xs e).2 y hy).1⟩) (kb.ext e) (kp.ext e) (imp o a3)
    have go : ∀ (due : Option Str) (td : Addr) (ys : List V) (H' H2 : Hp), HeardAt TL H5 td ys H' → LamX.ExtN H' H2 → LamX.Tabs TL H2 → H2 td = some (.lst ys) ∧ HeardAt TL H5 td (ys ++ [heardV due]) (upd H2 td (.lst (ys ++ [heardV due]))) := fun due td ys H' H2 h e t => h.app e t
    have up : ∀ {Ha : Hp} {due : Option Str} {v : V}, LamX.ExtN H5 Ha → NumsV p H5 due v → NumsV p Ha due v := fun e n => n.ext e
    refine ⟨fun σ' H' => ∃ td, σ' = [some (.ref p), some vo, some vw, some (.ref so), some (.ref td), some vb, some vf] ∧ HeardAt TL H5 td [V.str "begin"] H', ?_, ?_⟩
    · refine heard_tab (b := vo) (p := vw) (due := some "begin") tabs5 (fun H' e R k => ⟨_, rfl, _, rfl, _, rfl, arg (some "begin") _ vo vw vb nb ko5 kw5 (fun o _ => d1 o) H' e R k⟩) fun H' e tb => ?_
      exact ⟨by show 1 ≤ sizeLine; omega, fun td htd => ⟨td, rfl, .first e tb htd⟩⟩
    rintro σ' H6 ⟨td, rfl, h6⟩
    refine ⟨fun σ' H' => σ' = [some (.ref p), some vo, some vw, some (.ref so), some (.ref td), some vb, some vf] ∧ HeardAt TL H5 td [V.str "begin", .str "period"] H', ?_, ?_⟩
    · refine ⟨_, rfl, .inl ⟨rfl, _, SqL.of h6.at_⟩, ?_⟩
      refine heard_tab (b := .int 2) (p := vw) (due := some "period") h6.tabs (fun H' e R k => ⟨_, rfl, _, rfl, arg (some "period") _ (.int 2) vw vb nb True.intro kw5 (fun o _ => d2 o) H' (h6.ext.trans e) R k⟩) fun H' e tb => ?_
      obtain ⟨at_, h7⟩ := go (some "period") td _ _ _ h6 e tb
      exact ⟨td, _, _, rfl, rfl, at_, by show 1 < sizeLine; omega, rfl, h7⟩
    rintro σ' H7 ⟨rfl, h7⟩
    refine ⟨fun σ' H' => σ' = [some (.ref p), some vo, some vw, some (.ref so), some (.ref td), some vb, some vf] ∧ HeardAt TL H5 td [V.str "begin", .str "period", .str "numbers"] H', ?_, ?_⟩
    · refine ⟨_, rfl, .inl ⟨rfl, _, SqL.of h7.at_⟩, ?_⟩
      refine heard_tab (b := .int 2) (p := .int 1) (due := some "numbers") h7.tabs (fun H' e R k => ⟨_, rfl, arg (some "numbers") _ (.int 2) (.int 1) vb nb True.intro True.intro (fun o z => z) H' (h7.ext.trans e) R k⟩) fun H' e tb => ?_
      obtain ⟨at_, h8⟩ := go (some "numbers") td _ _ _ h7 e tb
      exact ⟨td, _, _, rfl, rfl, at_, by show 2 < sizeLine; omega, rfl, h8⟩
    rintro σ' H8 ⟨rfl, h8⟩
    refine ⟨fun σ' H' => σ' = [some (.ref p), some vo, some vw, some (.ref so), some (.ref td), some vb, some vf] ∧ HeardAt TL H5 td [V.str "begin", .str "period", .str "numbers", .non] H', ?_, ?_⟩
    · refine ⟨_, rfl, .inl ⟨rfl, _, SqL.of h8.at_⟩, ?_⟩
      refine heard_tab (b := .int 2) (p := .int 1) (due := none) h8.tabs (fun H' e R k => ⟨_, rfl, arg none _ (.int 2) (.int 1) vf nf True.intro True.intro (fun o z => z) H' (h8.ext.trans e) R k⟩) fun H' e tb => ?_
      obtain ⟨at_, h9⟩ := go none td _ _ _ h8 e tb
      exact ⟨td, _, _, rfl, rfl, at_, by show 3 < sizeLine; omega, rfl, h9⟩
    rintro σ' H9 ⟨rfl, h9⟩
    refine ⟨_, rfl, by show 4 ≤ sizeLine; omega, fun l hl => ?_⟩
    have s9 := Same.new (o := .lst [V.str "begin", .str "period", .str "numbers", .non]) hl
    refine ⟨.list [.str "begin", .str "period", .str "numbers", .none], .list [.str "begin", .str "period", .str "numbers", .none], Dp.lst (SqL.of (s9 _ _ h9.at_)) (.cons (.str _) (.cons (.str _) (.cons (.str _) (.cons .non .nil)))), Dp.lst (SqL.of upd_same) (.cons (.str _) (.cons (.str _) (.cons (.str _) (.cons .non .nil)))), by decide +kernel, by decide +kernel, ?_⟩
    rw [show PyData.eqv (.list [.str "begin", .str "period", .str "numbers", .none]) (.list [.str "begin", .str "period", .str "numbers", .none]) = true from by decide +kernel]
    exact fin _ ((p5.ext h9.ext).same s9) ((m05.toN.trans (ext_mvN h9.ext)).trans (Same.toN s9)) (h9.tabs.ext s9)
end
end Fz
set_option Elab.async false
set_option linter.all false
set_option maxRecDepth 100000
set_option maxHeartbeats 2000000
namespace Fz
open PySem PySem.Spec PyProof.Rows L2
/-- one step of a reading -/
local macro_rules | `(tactic| walk_at "st") => `(tactic| first
  | refine ⟨_, rfl, ?_⟩
  | refine Or.inl ⟨_, rfl, ?_⟩
  | refine Or.inr ⟨_, rfl, ?_⟩
  | refine ⟨_, _, _, _, rfl, rfl, SqL.of (by first | assumption | exact upd_same), rfl, ?_⟩
  | refine ⟨_, _, _, _, rfl, rfl, (by first | assumption | exact upd_same), rfl, ?_⟩
  | refine ⟨_, _, rfl, .inl ⟨_, SqL.of (by first | assumption | exact upd_same), rfl⟩, ?_⟩
  | refine ⟨_, _, rfl, rfl, (show (0 : Int) < _ by first | decide | omega), ?_⟩
  | refine ⟨_, _, rfl, rfl, (show (0 : Int) < _ ∧ _ < _ by first | exact ⟨by decide, by decide⟩ | omega), ?_⟩
  | refine ⟨_, _, rfl, rfl, (show (_ < _ ∧ _ < _) ∨ (_ < _ ∧ _ < _) by first | exact .inl ⟨by decide, by decide⟩ | omega), ?_⟩
  | refine ⟨_, _, rfl, rfl, (show (0 : Int) ≤ _ ∧ _ ≤ _ ∧ _ < _ by first | exact ⟨by decide, by decide, by decide⟩ | exact ⟨by decide, by decide, by omega⟩), ?_⟩
  | refine ⟨_, _, rfl, rfl, ?_⟩)

abbrev s_forms : Stmt := topS 31
theorem sc_forms : FnScope ["_law_pen_here", "_law_told_here", "_law_longer", "_law_given", "_law_bent", "_law_third", "_law_changed", "_law_row", "_law_ahead", "_law_turn", "_law_due", "_law_more", "_law_times", "_law_one", "_law_other", "_law_spot", "_law_heap", "_law_thing"] ["_law_pen_here"] (defScope s_forms) := ⟨rfl, rfl, rfl, by decide +kernel, rfl, by decide +kernel, by decide +kernel⟩
section
variable {P : Program} {w : World} {K : PySem.W.Frag} {mg : Str → Option Value} {base : Heap}

theorem int_ne {n : Nat} {H : Hp} {p q l : Addr} {ns : List Int} (pen : PenAt n H p q) (h : H l = some (.lst (ns.map V.int))) : l ≠ p := fun z => by
  obtain ⟨ks, sp, gr, hp, _⟩ := pen
  rw [z, hp] at h
  cases ns with
  | nil => cases h
  | cons x xs => cases h
theorem TabAt.put {CT : Addr} {H : Hp} {x l : Addr} {o : HO} {b p : Nat} {xs : List V} {ms : List Int} (h : TabAt CT H x b p ms) (hl : H l = some (.lst xs)) : TabAt CT (upd H l o) x b p ms := by
  obtain ⟨dx, t, a, c⟩ := h
  exact ⟨dx, t, by rw [upd_ne fun z => by rw [z, hl] at a; cases a]; exact a, by rw [upd_ne fun z => by rw [z, hl] at c; cases c]; exact c⟩
theorem FormAt.mv {H H' : Hp} {u p q : Addr} {n b pe : Nat} {ns : List Int} (h : FormAt H u b pe ns) (pen : PenAt n H p q) (m : Mv p H H') : FormAt H' u b pe ns := let ⟨v, x, y⟩ := h; ⟨v, tup_mvN x pen m.toN, tup_mvN y pen m.toN⟩
theorem FormAt.put {H : Hp} {u l : Addr} {o : HO} {b pe : Nat} {ns : List Int} {xs : List V} (h : FormAt H u b pe ns) (hl : H l = some (.lst xs)) : FormAt (upd H l o) u b pe ns := by
  obtain ⟨v, x, y⟩ := h
  exact ⟨v, by rw [upd_ne fun z => by rw [z, hl] at x; cases x]; exact x, by rw [upd_ne fun z => by rw [z, hl] at y; cases y]; exact y⟩
theorem TolAt.mv {H H' : Hp} {t p q : Addr} {n a m : Nat} {row : List Int} (h : TolAt H t row a m) (pen : PenAt n H p q) (mv : Mv p H H') : TolAt H' t row a m := let ⟨r, x, y⟩ := h; ⟨r, tup_mvN x pen mv.toN, mv _ _ (int_ne pen y) y⟩
theorem ixN_nat {len k : Nat} (h : k < len) : ixN len (k : Int) = some k := by
  unfold ixN
  rw [if_pos (by omega), if_pos (by omega)]
  rfl
theorem nums_fit {row : List Int} {a n : Nat} (t : Told row a n) (k : Nat) : ∀ x ∈ nums (atW row a n) k, 0 ≤ x ∧ x ≤ 400 := fun x hx => (longer_told t k 1 (Nat.le_refl 1)).fit x (List.mem_of_mem_take (i := k) (by rw [nums_take (by omega)]; exact hx))
theorem ne_strs {K : PySem.W.Frag} {H : Hp} {Q : VK} {a b : Addr} {xs ys : List Str} (ha : H a = some (.lst (xs.map V.str))) (hb : H b = some (.lst (ys.map V.str))) (ox : ∀ z ∈ xs, PySem.PyData.strOk z = true) (oy : ∀ z ∈ ys, PySem.PyData.strOk z = true) (fin : Q (.bl (!decide (xs = ys))) H) : rNeD K (.ref a) (.ref b) H Q := by
  refine ⟨.list (xs.map PyData.str), .list (ys.map PyData.str), Dp.lst (SqL.of ha) (dp_strs xs), Dp.lst (SqL.of hb) (dp_strs ys), shaped_strs ox, shaped_strs oy, ?_⟩
  rw [show PyData.eqv (.list (xs.map PyData.str)) (.list (ys.map PyData.str)) = PyData.eqvAll (xs.map PyData.str) (ys.map PyData.str) from by simp [PyData.eqv], eqv_strs]
  exact fin
section
variable {CB CT x dx l : Addr} {H : Hp} {a n : Nat} {ai ni : Int} {row : List Int} {E : XK} {σ : L2.St} {Q : VK} {ta : TA}
/-- Table(a, n, row) -/
theorem tab_box {H1 : Hp} (args : ∀ R : List V → Hp → Prop, R [.int ai, .int ni, .ref l] H1 → ta σ H R) (ea : ai = a) (en : ni = n) (hl : SeqAt2 H1 l (row.map V.int)) (t : Told row a n) (z : row[0]? = some 0) (a1 : a ≤ 1000) (n1 : n ≤ 1000)
    (fin : ∀ H' x b p, Same H1 H' → Form (atW row a n) b p → b + p ≤ a + n → TabAt CT H' x b p (nums (atW row a n) (b + p)) → Q (.ref x) H') : Box (tMake CT (spTable CB CT) [] E ta) σ H Q := by
  subst ea en
  exact ⟨args _ fun x dx hx hdx _ => table_made (G := fun H' => Q (.ref x) H') hl t z a1 n1 hx hdx fun H' b p s f le at_ => fin H' x b p s f le at_⟩
/-- Table(numbers = .., period = n, begin = a) -/
theorem tabK_box {m : Nat} (hm : m = 3) (args : ∀ R : List V → Hp → Prop, (∀ H1 l, Same H H1 → SeqAt2 H1 l (row.map V.int) → R [.ref l, .int ni, .int ai] H1) → ta σ H R) (ea : ai = a) (en : ni = n) (t : Told row a n) (z : row[0]? = some 0) (a1 : a ≤ 1000) (n1 : n ≤ 1000)
    (fin : ∀ H' x b p, Same H H' → Form (atW row a n) b p → b + p ≤ a + n → TabAt CT H' x b p (nums (atW row a n) (b + p)) → Q (.ref x) H') : Box (tMakeK CT 0 m (spTable CB CT) (fun vs zs => vs ++ zs.reverse) E tNil ta) σ H Q := by
  subst ea en hm
  exact ⟨args _ fun H1 l s hl => ⟨rfl, rfl, fun x dx hx hdx _ => table_made (G := fun H' => Q (.ref x) H') hl t z a1 n1 hx hdx fun H' b p s1 f le at_ => fin H' x b p (s.trans s1) f le at_⟩⟩
end
section
variable {K : PySem.W.Frag} {CT x y : Addr} {H : Hp} {Q : VK} {b p b' p' : Nat} {ns ms : List Int} {v : V}
theorem eqT_is (TC : TabC K CT) (tyT : TyC K CT) (h : TabAt CT H x b p ns) (g : TabAt CT H y b' p' ms) (fin : Q (.bl (decide (b = b' ∧ p = p' ∧ ns = ms))) H) : rEqO K CT (spEqT K CT) (.ref x) (.ref y) H Q := by
  obtain ⟨dx, t, h1, h2⟩ := h
  obtain ⟨dy, u, g1, g2⟩ := g
  exact ⟨x, dx, _, .ref CT, rfl, h1, tyT.ty TC.cl g1, nf_self, x, b, p, ns, _, rfl, ⟨dx, t, h1, h2⟩, .inl ⟨y, b', p', ms, rfl, ⟨dy, u, g1, g2⟩, fin⟩⟩
theorem neT_is (TC : TabC K CT) (tyT : TyC K CT) (h : TabAt CT H x b p ns) (g : TabAt CT H y b' p' ms) (fin : Q (.bl (!decide (b = b' ∧ p = p' ∧ ns = ms))) H) : rNeO K CT (spEqT K CT) (.ref x) (.ref y) H Q := by
  obtain ⟨dx, t, h1, h2⟩ := h
  obtain ⟨dy, u, g1, g2⟩ := g
  exact ⟨x, dx, _, .ref CT, rfl, h1, tyT.ty TC.cl g1, nf_self, x, b, p, ns, _, rfl, ⟨dx, t, h1, h2⟩, .inl ⟨y, b', p', ms, rfl, ⟨dy, u, g1, g2⟩, _, rfl, fin⟩⟩
theorem eqT_other (TC : TabC K CT) (tC : PySem.W.typeIn K (.ref CT) = some (.type "type")) (h : TabAt CT H x b p ns) (o : OtherV K H v) (fin : Q (.bl false) H) : rEqO K CT (spEqT K CT) (.ref x) v H Q := by
  obtain ⟨dx, t, h1, h2⟩ := h
  obtain ⟨n, l, ty, e, no⟩ := o
  exact ⟨x, dx, _, _, rfl, h1, ty, nf_ty e (no CT), x, b, p, ns, _, rfl, ⟨dx, t, h1, h2⟩, .inr ⟨_, ty, kit_other TC.cl.hd tC e (no CT), fin⟩⟩
theorem neT_other (TC : TabC K CT) (tC : PySem.W.typeIn K (.ref CT) = some (.type "type")) (h : TabAt CT H x b p ns) (o : OtherV K H v) (fin : Q (.bl true) H) : rNeO K CT (spEqT K CT) (.ref x) v H Q := by
  obtain ⟨dx, t, h1, h2⟩ := h
  obtain ⟨n, l, ty, e, no⟩ := o
  exact ⟨x, dx, _, _, rfl, h1, ty, nf_ty e (no CT), x, b, p, ns, _, rfl, ⟨dx, t, h1, h2⟩, .inr ⟨_, ty, kit_other TC.cl.hd tC e (no CT), _, rfl, fin⟩⟩
end
theorem strT_box {CT x : Addr} {H : Hp} {Q : VK} {σ : L2.St} {i b p : Nat} {ns : List Int} (v : σ[i]? = some (some (.ref x))) (hx : TabAt CT H x b p ns) (few : ns.length ≤ 2000) (fit : ∀ n ∈ ns, 0 ≤ n ∧ n ≤ 400) (fin : ∀ H' z, Same H H' → Q (.str z) H') : Box (tCB (rStrO CT (spStrT CT)) (tCons (tVar i) tNil)) σ H Q := by
  obtain ⟨dx, t, a, c⟩ := hx
  exact ⟨_, v, x, dx, _, rfl, a, x, b, p, ns, rfl, ⟨dx, t, a, c⟩, few, fit, fun H' z s => ⟨z, rfl, fin H' z s⟩⟩
def spForms : Sp := fun vs H Q _ => ∃ (n : Nat) (p q : Addr), vs = [.ref p] ∧ PenAt n H p q ∧ n < 90000 ∧ ∀ H', PenAt (n + 24) H' p q → Mv p H H' → Q (.bl true) H'
theorem ok_forms {f fTo fD fP fAt fLe fSh fTi fEq fSt CT CB : Addr} {fd fdTo fdD fdP fdAt fdLe fdSh fdTi fdEq fdSt : FuncData} (F : Fun K "_law_forms_right" "_law_forms_right" s_forms f fd) (U : Blt mg) (TC : TabC K CT) (tyT : TyC K CT) (tC : PySem.W.typeIn K (.ref CT) = some (.type "type"))
    (D : Fun K "_law_draw" "_law_draw" s_draw fD fdD) (gD : mg "_law_draw" = some (.ref fD)) (b_draw : L2.Binds K fdD ["_law_pen_here", "_law_many"] [])
    (Pk : Fun K "_law_pick" "_law_pick" s_pick fP fdP) (gP : mg "_law_pick" = some (.ref fP)) (b_pick : L2.Binds K fdP ["_law_pen_here", "_law_some"] [])
    (To : Fun K "_law_told" "_law_told" s_told fTo fdTo) (gTo : mg "_law_told" = some (.ref fTo)) (b_told : L2.Binds K fdTo ["_law_pen_here"] [])
    (At : Fun K "_law_at" "_law_at" s_at fAt fdAt) (gAt : mg "_law_at" = some (.ref fAt)) (b_at : L2.Binds K fdAt ["_law_told_here", "_law_heap"] [])
    (Le : Fun K "_law_least" "_law_least" s_least fLe fdLe) (gLe : mg "_law_least" = some (.ref fLe)) (b_least : L2.Binds K fdLe ["_law_told_here"] [])
    (Sh : Fun K "_law_shown" "_law_shown" s_shown fSh fdSh) (gSh : mg "_law_shown" = some (.ref fSh)) (b_shown : L2.Binds K fdSh ["_law_table"] [])
    (oT : PySem.W.findIn K (.ref CT) "__eq__" = some (some (.ref fEq))) (iT : PySem.W.isFn K (.ref fEq) = true) (sT : PySem.W.findIn K (.ref CT) "__ne__" = some (some (.builtin "object.__ne__"))) (mT_ : PySem.W.mroIn K CT (.type "object") = some true) (G_eqT : FnOk P w K mg base CX0 1 fEq fdEq ["self", "other"] (spEqT K CT)) (bT : L2.Binds K fdEq ["self", "other"] [])
    (stT : PySem.W.findIn K (.ref CT) "__str__" = some (some (.ref fSt))) (isT : PySem.W.isFn K (.ref fSt) = true) (G_strT : FnOk P w K mg base CX0 1 fSt fdSt ["self"] (spStrT CT)) (b_strT : L2.Binds K fdSt ["self"] [])
    (MkT : Mk K CT fTi) (gTab : mg "Table" = some (.ref CT)) (b_ti : L2.Binds K fdTi ["self", "begin", "period", "numbers"] []) (bk_ti : KBn K fdTi ["self", "begin", "period", "numbers"] 1 ["numbers", "period", "begin"] (fun us ws => us ++ ws.reverse) (fun vs zs => vs ++ zs.reverse)) (G_ti : FnOk P w K mg base (L2.CX P w) 5 fTi fdTi ["self", "begin", "period", "numbers"] (spTable CB CT)) : FnG P w K mg base CX0 7 f fd ["_law_pen_here"] spForms := by
  have G_draw : FnOk P w K mg base CX0 1 fD fdD ["_law_pen_here", "_law_many"] spDraw := ok_draw D U
  have G_told : FnOk P w K mg base CX0 3 fTo fdTo ["_law_pen_here"] spTold := ok_told To U D gD b_draw Pk gP b_pick
  have G_at : FnOk P w K mg base CX0 1 fAt fdAt ["_law_told_here", "_law_heap"] spAtL := ok_at At U
  have G_least : FnOk P w K mg base CX0 2 fLe fdLe ["_law_told_here"] spLeastL := ok_least Le U At gAt b_at
  have G_shown : FnOk P w K mg base CX0 1 fSh fdSh ["_law_table"] (spShown CT) := ok_shown Sh TC
  refine funG F sc_forms (fun vs H Q E h => ?_) (fun cdv A outer s H vs Q E _ hr hg h => ?_)
  · obtain ⟨n, p, q, rfl, _⟩ := h
    rfl
  · obtain ⟨n, p, q, rfl, hp, hn, fin⟩ := h
    refine ⟨_, (pss_cons (ps_set (i := 1) sc_forms.nd rfl (Or.inr rfl) (pe_call G_told (hr.mono (by decide)) rfl gTo To.kp b_told .nil pass0 (by exact (pa_cons (pv 0) pa_nil))))
  (pss_cons (ps_asg (pv 1) (pg_tup rfl (pgs_cons (pg_name (i := 7) sc_forms.nd rfl (Or.inl rfl)) (pgs_cons (pg_name (i := 8) sc_forms.nd rfl (Or.inl rfl)) (pgs_cons (pg_name (i := 9) sc_forms.nd rfl (Or.inl rfl)) pgs_nil)))))
  (C8.pss_cut (ps_par3 (i := 10) (j := 11) (l := 12) (by rfl) sc_forms.nd rfl rfl rfl (by decide) (by decide) (by decide) rfl rfl rfl (pa_cons (pe_call G_least (hr.mono (by decide)) rfl gLe Le.kp b_least .nil pass0 (by exact (pa_cons (pv 1) pa_nil))) (pa_cons (pe_call G_draw (hr.mono (by decide)) rfl gD D.kp b_draw .nil pass0 (by exact (pa_cons (pv 0) (pa_cons pe_int pa_nil)))) (pa_cons (pe_op op_add pe_int (pe_call G_draw (hr.mono (by decide)) rfl gD D.kp b_draw .nil pass0 (by exact (pa_cons (pv 0) (pa_cons pe_int pa_nil))))) pa_nil))) (by rfl))
  (C8.pss_cut (ps_setLc (i := 2) (own := [("_law_heap", 16)]) rfl sc_forms.nd rfl rfl (sw_true rfl rfl rfl (by decide +kernel)) (pi_range1 rfl U.z_range (by exact (pa_cons (pe_op op_add (pe_op op_add (pv 8) (pv 11)) (pe_op op_mul (pv 9) (pv 12))) pa_nil))) (blkOk_by (by kernel_rfl)) (fun s_ H_ C_ cl_ fp_ => (pg_name (i := 16) sc_forms.nd rfl (Or.inl rfl))) (fun s_ H_ C_ cl_ fp_ => pts_nil) (fun s_ H_ C_ cl_ fp_ => (pe_call G_at (hr.mono (by decide)) rfl gAt At.kp b_at .nil pass0 (by exact (pa_cons (pv 1) (pa_cons (pv 16) pa_nil))))))
  (pss_cons (ps_set (i := 3) sc_forms.nd rfl (Or.inl rfl) (pe_callTy call_list_of rfl U.z_list (by decide +kernel) (pa_cons (pv 7) pa_nil)))
  (pss_cons (ps_asg (pe_tup (by exact (pa_cons (pe_box (pe_make MkT G_ti (hr.mono (by decide)) rfl gTab b_ti .nil (passes_call LamX.takes0 (fun _ _ _ _ h => h)) (by exact (pa_cons (pv 8) (pa_cons (pv 9) (pa_cons (pv 3) pa_nil)))))) (pa_cons (pe_box (pe_makeK0 MkT G_ti (hr.mono (by decide)) rfl gTab bk_ti (passes_call LamX.takes0 (fun _ _ _ _ h => h)) (pk_cons (pe_callTy call_tuple_of rfl U.z_tuple (by decide +kernel) (pa_cons (pv 2) pa_nil)) (pk_cons (pe_op op_mul (pv 9) (pv 12)) (pk_cons (pe_op op_add (pv 8) (pv 11)) pk_nil))))) pa_nil)))) (pg_tup rfl (pgs_cons (pg_name (i := 13) sc_forms.nd rfl (Or.inr rfl)) (pgs_cons (pg_name (i := 14) sc_forms.nd rfl (Or.inl rfl)) pgs_nil))))
  (pss_cons (ps_asg pe_int (pg_sub (pv 3) pe_int set_list))
  (C8.pss_cut (ps_expr (pe_bm PySem.F.plainAttrs_list PySem.F.slot_list_append PySem.F.type_list_append mt_append (pv 3) (pa_cons pe_int pa_nil)))
  (pss_cons (ps_if (PW.pt (pw_or (pt_cmpR (op_neD hr.units) (pe_lst (pa_cons (pe_callB (call_repD hg hr.units) rfl U.z_repr (by decide +kernel) (pa_cons (pe_call G_shown (hr.mono (by decide)) rfl gSh Sh.kp b_shown .nil pass0 (by exact (pa_cons (pv 13) pa_nil))) pa_nil)) (pa_cons (pe_callB (call_repD hg hr.units) rfl U.z_repr (by decide +kernel) (pa_cons (pe_call G_shown (hr.mono (by decide)) rfl gSh Sh.kp b_shown .nil pass0 (by exact (pa_cons (pv 14) pa_nil))) pa_nil)) pa_nil))) (pe_op op_rep (pe_lst (pa_cons (pe_callB (call_repD hg hr.units) rfl U.z_repr (by decide +kernel) (pa_cons (pv 10) pa_nil)) pa_nil)) pe_int) (nomark _)) (pw_or (pt_cmpR (op_neO oT iT sT mT_ G_eqT bT (hr.mono (by decide))) (pv 13) (pv 14) (nomark _)) (pw_or1 (pt_not (pt_cmpR (op_eqO oT iT G_eqT bT (hr.mono (by decide))) (pv 13) (pv 14) (nomark _))))))) (pss_one (ps_ret pe_bl)) pss_nil)
  (C8.pss_cut (ps_set (i := 4) sc_forms.nd rfl (Or.inl rfl) (pe_callTy call_list_of rfl U.z_list (by decide +kernel) (pa_cons (pv 2) pa_nil)))
  (C8.pss_cut (ps_if (pt_cmpR op_gt (pe_callB call_len rfl U.z_len (by decide +kernel) (pa_cons (pv 4) pa_nil)) pe_int (nomark _)) (pss_cons (ps_set (i := 15) sc_forms.nd rfl (Or.inl rfl) (pe_op op_add pe_int (pe_call G_draw (hr.mono (by decide)) rfl gD D.kp b_draw .nil pass0 (by exact (pa_cons (pv 0) (pa_cons (pe_op op_sub (pe_callB call_len rfl U.z_len (by decide +kernel) (pa_cons (pv 4) pa_nil)) pe_int) pa_nil))))))
  (pss_cons (ps_asg (pe_ix ix_list (pe_lst (pa_cons (pe_op op_add (pe_ix ix_list (pv 4) (pv 15) (fun _ _ => rfl)) pe_int) (pa_cons pe_int (pa_cons pe_int pa_nil)))) (pe_call G_draw (hr.mono (by decide)) rfl gD D.kp b_draw .nil pass0 (by exact (pa_cons (pv 0) (pa_cons pe_int pa_nil)))) (fun _ _ => rfl)) (pg_sub (pv 4) (pv 15) set_list))
  (pss_one (ps_asg (pe_callB (call_min2 rfl) rfl U.z_min (by decide +kernel) (pa_cons pe_int (pa_cons (pe_callTy call_int1 rfl U.z_int (by decide +kernel) (pa_cons (pe_ix ix_list (pv 4) (pv 15) (fun _ _ => rfl)) pa_nil)) pa_nil))) (pg_sub (pv 4) (pv 15) set_list))))) pss_nil)
  (pss_cons (ps_set (i := 5) sc_forms.nd rfl (Or.inl rfl) (pe_box (pe_make MkT G_ti (hr.mono (by decide)) rfl gTab b_ti .nil (passes_call LamX.takes0 (fun _ _ _ _ h => h)) (by exact (pa_cons (pe_op op_add (pv 8) (pv 11)) (pa_cons (pe_op op_mul (pv 9) (pv 12)) (pa_cons (pv 4) pa_nil)))))))
  (C8.pss_cut (ps_set (i := 6) sc_forms.nd rfl (Or.inl rfl) (pe_call G_least (hr.mono (by decide)) rfl gLe Le.kp b_least .nil pass0 (by exact (pa_cons (pe_tup (pa_cons (pv 4) (pa_cons (pe_op op_add (pv 8) (pv 11)) (pa_cons (pe_op op_mul (pv 9) (pv 12)) pa_nil)))) pa_nil))))
  (pss_cons (ps_if (pt_cmpR op_ne (pe_callB (call_repD hg hr.units) rfl U.z_repr (by decide +kernel) (pa_cons (pe_call G_shown (hr.mono (by decide)) rfl gSh Sh.kp b_shown .nil pass0 (by exact (pa_cons (pv 5) pa_nil))) pa_nil)) (pe_callB (call_repD hg hr.units) rfl U.z_repr (by decide +kernel) (pa_cons (pv 6) pa_nil)) (nomark _)) (pss_one (ps_ret pe_bl)) pss_nil)
  (pss_cons (ps_if (PW.pt (pw_or (pt_cmpR op_ne (pe_cmpR (op_eqO oT iT G_eqT bT (hr.mono (by decide))) (pv 5) (pv 13) (nomark _)) (pe_cmpR (op_eqD hr.units) (pv 6) (pv 10) (nomark _)) (nomark _)) (pw_or1 (pt_cmpR op_ne (pe_cmpR (op_neO oT iT sT mT_ G_eqT bT (hr.mono (by decide))) (pv 13) (pv 5) (nomark _)) (pe_cmpR (op_neD hr.units) (pv 6) (pv 10) (nomark _)) (nomark _))))) (pss_one (ps_ret pe_bl)) pss_nil)
  (pss_one (ps_ret (pe_cmpR (op_eqD hr.units) (pe_lc (own := [("_law_thing", 17)]) rfl sc_forms.nd (pi_list (pe_lst (pa_cons pe_non (pa_cons pe_int (pa_cons (pv 10) (pa_cons (pe_callTy call_list_of rfl U.z_list (by decide +kernel) (pa_cons (pe_ix ix_tup (pv 10) pe_int (fun _ _ => rfl)) pa_nil)) (pa_cons (pe_box (pe_callTy (call_strO stT isT G_strT b_strT (hr.mono (by decide))) rfl U.z_str (by decide +kernel) (pa_cons (pv 13) pa_nil))) (pa_cons (pe_ix ix_tup (pv 10) pe_int (fun _ _ => rfl)) pa_nil)))))))) (blkOk_by (by kernel_rfl)) (fun s_ H_ C_ cl_ fp_ => (pg_name (i := 17) sc_forms.nd rfl (Or.inl rfl))) (fun s_ H_ C_ cl_ fp_ => (pts_one (PW.pt (pw_or (pt_cmpR (show OpR _ (compareOp .Eq) (rEqO K CT (spEqT K CT)) from (op_eqO oT iT G_eqT bT (hr.mono (by decide)))) (pv 13) (pv 17) (nomark _)) (pw_or1 (pt_not (pt_cmpR (show OpR _ (compareOp .NotEq) (rNeO K CT (spEqT K CT)) from (op_neO oT iT sT mT_ G_eqT bT (hr.mono (by decide)))) (pv 13) (pv 17) (nomark _)))))))) (fun s_ H_ C_ cl_ fp_ => pe_int)) (pe_lst pa_nil) (nomark _))))))))))))))))))), ?_⟩
    have sz : (10000 : Nat) ≤ sizeLine := by show 10000 ≤ 16777216; decide
    refine ⟨_, rfl, n, p, q, rfl, hp, by omega, fun H1 t row a m p1 m1 tol told a7 m8 z0 => ?_⟩
    obtain ⟨r, ht, hr'⟩ := id tol
    refine ⟨_, rfl, t, _, rfl, SqT.of ht, rfl, _, _, rfl, _, _, rfl, _, _, rfl, rfl, ?_⟩
    have n1 := told.n1
    refine ⟨fun σ' H' => ∃ (u : Addr) (b pe mo ti : Nat), σ' = [some (.ref p), some (.ref t), none, none, none, none, none, some (.ref r), some (.int a), some (.int m), some (.ref u), some (.int mo), some (.int ti), none, none, none, none, none] ∧ PenAt (n + 22) H' p q ∧ Mv p H1 H' ∧ mo ≤ 3 ∧ 1 ≤ ti ∧ ti ≤ 3 ∧ Form (atW row a m) b pe ∧ b + pe ≤ a + m ∧ FormAt H' u b pe (nums (atW row a m) (b + pe)), ?_, ?_⟩
    · refine ⟨_, rfl, t, row, a, m, rfl, tol, told, by omega, fun H2 u b pe s2 fo le fu => ?_⟩
      have p2 := p1.same s2
      refine ⟨_, rfl, n + 20, p, q, 4, rfl, p2, by omega, by decide, small_log (by decide) (by decide), fun H3 d p3 m3 d0 d1 => ?_⟩
      refine ⟨_, rfl, n + 21, p, q, 3, rfl, p3, by omega, by decide, small_log (by decide) (by decide), fun H4 e p4 m4 e0 e1 => ?_⟩
      obtain ⟨mo, rfl⟩ := Int.eq_ofNat_of_zero_le d0
      obtain ⟨en, rfl⟩ := Int.eq_ofNat_of_zero_le e0
      refine ⟨_, _, rfl, rfl, _, _, _, rfl, ?_⟩
      exact ⟨u, b, pe, mo, 1 + en, rfl, p4, (Same.mv s2 p).trans (m3.trans m4), by omega, by omega, by omega, fo, le, (fu.mv p2 m3).mv p3 m4⟩
    rintro σ' H2 ⟨u, b, pe, mo, ti, rfl, p2, m2, mo3, ti1, ti3, fo, le, fu⟩
    have tol2 := tol.mv p1 m2
    obtain ⟨mt, hmt⟩ : ∃ k, k = m * ti := ⟨_, rfl⟩
    have mt24 : mt ≤ 24 := by rw [hmt]; exact Nat.mul_le_mul m8 ti3
    have told2 := longer_told told mo ti ti1
    rw [← hmt] at told2
    have w2 : atW (nums (atW row a m) (a + mo + mt)) (a + mo) mt = atW row a m := funext fun h => by rw [hmt]; exact longer_at told mo ti ti1 h
    have mt1 := told2.n1
    -- told in longer form
    refine ⟨fun σ' H' => ∃ (lg : Addr) (v : Option V), σ' = [some (.ref p), some (.ref t), some (.ref lg), none, none, none, none, some (.ref r), some (.int a), some (.int m), some (.ref u), some (.int mo), some (.int ti), none, none, none, v, none] ∧ Same H2 H' ∧ H' lg = some (.lst ((nums (atW row a m) (a + mo + mt)).map V.int)), ?_, ?_⟩
    · refine ⟨_, rfl, _, rfl, _, _, rfl, rfl, _, rfl, _, rfl, _, _, rfl, rfl, .inl ⟨by omega, by omega⟩, _, _, rfl, rfl, _, rfl, by omega, by omega, fun D hD => ?_⟩
      refine lc_range (lo := 0) (n := ((a : Int) + mo + m * ti).toNat) (fun i H' => Same H2 H' ∧ H' D = some (.lst ((nums (atW row a m) i).map V.int))) ⟨Same.new hD, upd_same⟩ (fun i H' hi q => ?_) (fun H' q => ?_)
      · refine ⟨rfl, ?_⟩
        refine iteT (B := Same H2 H' ∧ H' D = some (.lst ((nums (atW row a m) (i + 1)).map V.int))) ?_
        refine ⟨_, rfl, _, rfl, t, row, a, m, i, by rw [show (0 : Int) + (i : Nat) = ((i : Nat) : Int) by omega]; rfl, tol2.same q.1, told, by omega, _, q.2, by rw [List.length_map, nums_len]; omega, fun b o e => ?_, ?_⟩
        · have nb : b ≠ D := fun z => by rw [z, hD] at e; cases e
          rw [upd_ne nb]
          exact q.1 b o e
        · rw [upd_same, nums_succ, List.map_append]
          rfl
      · have e : ((a : Int) + mo + m * ti).toNat = a + mo + mt := by rw [hmt]; omega
        rw [e] at q
        exact ⟨D, _, rfl, q.1, q.2⟩
    rintro σ' H3 ⟨lg, v16, rfl, s3, hlg⟩
    have p3 := p2.same s3
    have mv3 := m2.trans (Same.mv s3 p)
    have hr3 := mv3 _ _ (int_ne p1 hr') hr'
    have fu3 := fu.same s3
    have pe1 := fo.p1
    refine ⟨_, rfl, r, _, rfl, .inl (SqL.of hr3), fun gl hgl => ?_⟩
    have s4 := Same.new (o := .lst (row.map V.int)) hgl
    refine tab_box (fun R k => ⟨_, rfl, _, rfl, _, rfl, k⟩) rfl rfl (.inl upd_same) told z0 (by omega) (by omega) fun H5 x1 b1 q1 s5 f1 le1 at1 => ?_
    have z2 : (nums (atW row a m) (a + mo + mt))[0]? = some 0 := by
      rw [nums_at (by omega), atW_low (by omega), List.getD_eq_getElem?_getD, z0]
      rfl
    refine tabK_box rfl (fun R k => ⟨_, rfl, _, _, rfl, .inl ⟨SqL.of (s5 _ _ (s4 _ _ hlg)), fun l5 hn5 => ⟨_, rfl, _, rfl, _, _, rfl, rfl, .inl ⟨by omega, by omega⟩, _, rfl, _, rfl, _, _, rfl, rfl, k _ l5 (Same.new hn5) (.inr upd_same)⟩⟩⟩) (a := a + mo) (n := mt) rfl (by rw [hmt]; rfl) told2 z2 (by omega) (by omega) fun H6 x2 b2 q2 s6 f2 le2 at2 => ?_
    rw [w2] at f2 at2
    obtain ⟨rfl, rfl⟩ := fo.uniq f1
    obtain ⟨rfl, rfl⟩ := fo.uniq f2
    refine ⟨by show 2 ≤ sizeLine; omega, fun t2 ht2 => ⟨t2, _, rfl, SqT.of upd_same, rfl, _, _, rfl, _, _, rfl, rfl, ?_⟩⟩
    have s7 := Same.new (o := .tup [V.ref x1, .ref x2]) ht2
    have g7 := s7 _ _ (s6 _ _ (s5 _ _ (upd_same (H := H3) (a := gl) (o := .lst (row.map V.int)))))
    refine ⟨_, rfl, gl, _, 0, 0, rfl, rfl, g7, ixN_nat (k := 0) (by rw [List.length_map, told.len]; omega), ?_⟩
    refine ⟨fun σ' H' => σ' = [some (.ref p), some (.ref t), some (.ref lg), some (.ref gl), none, none, none, some (.ref r), some (.int a), some (.int m), some (.ref u), some (.int mo), some (.int ti), some (.ref x1), some (.ref x2), none, v16, none] ∧ Mv p H3 H' ∧ PenAt (n + 22) H' p q ∧ TabAt CT H' x1 b pe (nums (atW row a m) (b + pe)) ∧ TabAt CT H' x2 b pe (nums (atW row a m) (b + pe)), ?_, ?_⟩
    · refine ⟨_, rfl, .inl ⟨rfl, _, SqL.of upd_same⟩, gl, _, _, rfl, rfl, upd_same, by rw [List.length_set, List.length_map, told.len]; omega, ?_⟩
      rw [upd_upd]
      have p7 := (((p3.new (o := .lst (row.map V.int)) hgl).same s5).same s6).same s7
      have gf := p3.fresh hgl
      exact ⟨rfl, fun b o nb e => by
        rw [upd_ne fun z => by rw [z, hgl] at e; cases e]
        exact s7 _ _ (s6 _ _ (s5 _ _ (s4 _ _ e))), p7.put gf.1 gf.2, (((at1.same s6).same s7).put g7), (at2.same s7).put g7⟩
    rintro σ' H4 ⟨rfl, m4, p4, at1, at2⟩
    have fu4 := fu3.mv p3 m4
    have W_fit := nums_fit told
    have few : (nums (atW row a m) (b + pe)).length ≤ 300 := by rw [nums_len]; omega
    have pl := form_plain (b := b) (p := pe) (ns := nums (atW row a m) (b + pe)) (by omega) (by omega) few (W_fit _)
    refine ⟨_, rfl, x1, b, pe, _, rfl, at1, fun H5 u1 s5 fu1 => ?_⟩
    refine rep_form fu1 (by omega) (by omega) few (W_fit _) ?_
    refine ⟨_, rfl, x2, b, pe, _, rfl, at2.same s5, fun H6 u2 s6 fu2 => ?_⟩
    refine rep_form fu2 (by omega) (by omega) few (W_fit _) ?_
    refine ⟨by show 2 ≤ sizeLine; omega, fun l1 hl1 => ?_⟩
    have s7 := Same.new (o := .lst [V.str (formD b pe (nums (atW row a m) (b + pe))).shown, .str (formD b pe (nums (atW row a m) (b + pe))).shown]) hl1
    have s57 := (s5.trans s6).trans s7
    refine ⟨_, rfl, rep_form (fu4.same s57) (by omega) (by omega) few (W_fit _) ?_⟩
    refine ⟨by show 1 ≤ sizeLine; omega, fun l2 hl2 => ?_⟩
    refine ⟨l2, _, _, rfl, rfl, upd_same, by decide, by decide, by show 1 * 2 ≤ sizeLine; omega, fun l3 hl3 => ?_⟩
    have s8 := Same.new (o := .lst [V.str (formD b pe (nums (atW row a m) (b + pe))).shown]) hl2
    have s9 := Same.new (o := .lst [V.str (formD b pe (nums (atW row a m) (b + pe))).shown, .str (formD b pe (nums (atW row a m) (b + pe))).shown]) hl3
    have okS : ∀ z ∈ [(formD b pe (nums (atW row a m) (b + pe))).shown, (formD b pe (nums (atW row a m) (b + pe))).shown], PySem.PyData.strOk z = true := fun z hz => by
      simp only [List.mem_cons, List.not_mem_nil, or_false, or_self] at hz
      rw [hz]
      exact pl.ok
    refine ne_strs (xs := [(formD b pe (nums (atW row a m) (b + pe))).shown, (formD b pe (nums (atW row a m) (b + pe))).shown]) (ys := [(formD b pe (nums (atW row a m) (b + pe))).shown, (formD b pe (nums (atW row a m) (b + pe))).shown]) (s9 _ _ (s8 _ _ upd_same)) upd_same okS okS ?_
    rw [decide_eq_true rfl]
    refine ⟨_, rfl, iteF ?_⟩
    have s49 := (s57.trans s8).trans s9
    have at1' := at1.same s49
    have at2' := at2.same s49
    refine ⟨_, rfl, _, rfl, neT_is TC tyT at1' at2' ⟨_, rfl, ?_⟩⟩
    rw [decide_eq_true (show b = b ∧ pe = pe ∧ nums (atW row a m) (b + pe) = nums (atW row a m) (b + pe) from ⟨rfl, rfl, rfl⟩)]
    refine iteF ?_
    refine ⟨_, rfl, _, rfl, eqT_is TC tyT at1' at2' ⟨_, rfl, ?_⟩⟩
    rw [decide_eq_true (show b = b ∧ pe = pe ∧ nums (atW row a m) (b + pe) = nums (atW row a m) (b + pe) from ⟨rfl, rfl, rfl⟩)]
    refine iteF ?_
    have lgp : lg ≠ p := int_ne p3 hlg
    have mv49 : Mv p H3 _ := m4.trans (Same.mv s49 p)
    have p49 := p4.same s49
    have hlg9 := mv49 _ _ lgp hlg
    refine ⟨fun σ' H' => ∃ bl : Addr, σ' = [some (.ref p), some (.ref t), some (.ref lg), some (.ref gl), some (.ref bl), none, none, some (.ref r), some (.int a), some (.int m), some (.ref u), some (.int mo), some (.int ti), some (.ref x1), some (.ref x2), none, v16, none] ∧ Mv p H3 H' ∧ PenAt (n + 22) H' p q ∧ TabAt CT H' x1 b pe (nums (atW row a m) (b + pe)) ∧ bl ≠ p ∧ bl ≠ q ∧ H3 bl = none ∧ H' bl = some (.lst ((nums (atW row a m) (a + mo + mt)).map V.int)), ?_, ?_⟩
    · refine ⟨_, rfl, lg, _, rfl, .inl (SqL.of hlg9), fun bl hbl => ?_⟩
      have sb := Same.new (o := .lst ((nums (atW row a m) (a + mo + mt)).map V.int)) hbl
      have bp := p49.fresh hbl
      refine ⟨bl, rfl, mv49.trans (Same.mv sb p), p49.same sb, at1'.same sb, bp.1, bp.2, ?_, upd_same⟩
      cases e : H3 bl with
      | none => rfl
      | some o =>
        have z := mv49 _ _ bp.1 e
        cases z.symm.trans hbl
    clear s49 at1' at2' mv49 p49 hlg9 okS hl1 hl2 hl3 s57 s7 s8 s9 fu1 fu2
    rintro σ' H5 ⟨bl, rfl, m5, p5, at5, blp, blq, bn, hb⟩
    have bl_ne : ∀ {b' o}, H3 b' = some o → b' ≠ bl := fun e z => by rw [z, bn] at e; cases e
    refine ⟨fun σ' H' => ∃ (bs : List Int) (v15 : Option V), σ' = [some (.ref p), some (.ref t), some (.ref lg), some (.ref gl), some (.ref bl), none, none, some (.ref r), some (.int a), some (.int m), some (.ref u), some (.int mo), some (.int ti), some (.ref x1), some (.ref x2), v15, v16, none] ∧ Mv p H3 H' ∧ PenAt (n + 24) H' p q ∧ TabAt CT H' x1 b pe (nums (atW row a m) (b + pe)) ∧ H' bl = some (.lst (bs.map V.int)) ∧ Told bs (a + mo) mt ∧ bs[0]? = some 0, ?_, ?_⟩
    · have z2 : (nums (atW row a m) (a + mo + mt))[0]? = some 0 := by
        rw [nums_at (by omega), atW_low (by omega), List.getD_eq_getElem?_getD, z0]
        rfl
      have hL : ((nums (atW row a m) (a + mo + mt)).map V.int).length = a + mo + mt := by rw [List.length_map, nums_len]
      refine ⟨_, rfl, _, _, rfl, SeqAt2.len (.inl hb), _, _, rfl, rfl, _, rfl, ?_⟩
      rw [hL]
      refine ite2 (fun c => ?_) (fun c => ⟨_, _, rfl, m5, p5.more (by omega), at5, hb, told2, z2⟩)
      have c1 : 1 < a + mo + mt := by have z : (1 : Int) < ((a + mo + mt : Nat) : Int) := of_decide_eq_true c; omega
      refine ⟨_, rfl, _, rfl, _, _, rfl, SeqAt2.len (.inl hb), _, _, rfl, rfl, n + 22, p, q, _, rfl, p5, by omega, by rw [hL]; omega, small_log (by rw [hL]; omega) (by rw [hL]; exact Int.le_trans (b := 100) (by omega) (by decide)), fun H6 d p6 m6 d0 d1 => ?_⟩
      rw [hL] at d1
      obtain ⟨k, hk, k1, k2⟩ : ∃ k : Nat, 1 + d = (k : Int) ∧ 1 ≤ k ∧ k < a + mo + mt := ⟨(1 + d).toNat, by omega, by omega, by omega⟩
      refine ⟨_, _, rfl, rfl, ?_⟩
      have hb6 := m6 _ _ blp hb
      have getx : atI ((nums (atW row a m) (a + mo + mt)).map V.int) (1 + d) = some (.int (atW row a m k)) := by rw [hk]; exact at_nat' (by rw [List.getElem?_map, nums_at k2]; rfl)
      have wf := nums_fit told (a + mo + mt) (atW row a m k) (List.mem_of_getElem? (nums_at k2))
      refine ⟨_, rfl, _, rfl, bl, _, _, _, rfl, rfl, SqL.of hb6, getx, _, _, rfl, rfl, by show 3 ≤ sizeLine; omega, fun l1 hl1 => ?_⟩
      refine ⟨_, rfl, n + 23, p, q, 3, rfl, p6.new hl1, by omega, by decide, small_log (by decide) (by decide), fun H7 e p7 m7 e0 e1 => ?_⟩
      obtain ⟨y, hy, y0⟩ : ∃ y : Int, atI [V.int (atW row a m k + 1), .int 0, .int 3] e = some (.int y) ∧ 0 ≤ y := by
        obtain ⟨en, rfl⟩ := Int.eq_ofNat_of_zero_le e0
        match en, e1 with
        | 0, _ => exact ⟨_, rfl, by omega⟩
        | 1, _ => exact ⟨_, rfl, by decide⟩
        | 2, _ => exact ⟨_, rfl, by decide⟩
        | j + 3, h => exact absurd h (by omega)
      have m67 := (Mv.new (p := p) (o := .lst [V.int (atW row a m k + 1), .int 0, .int 3]) hl1).trans m7
      have hl7 := m7 _ _ (p6.fresh hl1).1 (upd_same (H := H6) (a := l1) (o := .lst [V.int (atW row a m k + 1), .int 0, .int 3]))
      have hb7 := m67 _ _ blp hb6
      refine ⟨l1, _, _, _, rfl, rfl, SqL.of hl7, hy, ?_⟩
      refine ⟨_, rfl, _, rfl, bl, _, 1 + d, k, rfl, rfl, hb7, (by rw [hk]; exact ixN_nat (by rw [hL]; exact k2)), ?_⟩
      have gety : atI (((nums (atW row a m) (a + mo + mt)).map V.int).set k (.int y)) (1 + d) = some (.int y) := by rw [hk]; exact at_nat' (by rw [List.getElem?_set_self (by rw [hL]; exact k2)])
      refine ⟨_, rfl, _, rfl, bl, _, _, _, rfl, rfl, SqL.of upd_same, gety, .inl ⟨_, rfl, _, _, rfl, ?_⟩⟩
      refine ⟨_, rfl, _, rfl, bl, _, 1 + d, k, rfl, rfl, upd_same, (by rw [hk]; exact ixN_nat (by rw [List.length_set, hL]; exact k2)), ?_⟩
      rw [upd_upd, List.set_set]
      obtain ⟨y2, hy2, y20, y21⟩ : ∃ y2 : Int, (if y < 400 then y else 400) = y2 ∧ 0 ≤ y2 ∧ y2 ≤ 400 := ⟨_, rfl, by split <;> omega, by split <;> omega⟩
      rw [hy2]
      have es : ((nums (atW row a m) (a + mo + mt)).map V.int).set k (.int y2) = ((nums (atW row a m) (a + mo + mt)).set k y2).map V.int := by rw [List.map_set]
      have mv7 := (m5.trans m6).trans m67
      refine ⟨_, _, rfl, fun b' o nb e => ?_, p7.put blp blq, ((at5.mv p5 m6).mv p6 m67).put hb7, by rw [upd_same, es], ⟨by rw [List.length_set]; exact told2.len, mt1, fun x hx => ?_⟩, ?_⟩
      · rw [upd_ne (bl_ne e)]
        exact mv7 _ _ nb e
      · rcases List.mem_or_eq_of_mem_set hx with h | h
        · exact told2.fit x h
        · rw [h]; exact ⟨y20, y21⟩
      · rw [List.getElem?_set_ne (by omega)]
        exact z2
    rintro σ' H6 ⟨bs, v15, rfl, m6, p6, at6, hb6, toldb, zb⟩
    have fu6 := fu3.mv p3 m6
    have lenb : bs.length = a + mo + mt := toldb.len
    refine tab_box (fun R k => ⟨_, rfl, _, rfl, _, _, rfl, rfl, _, rfl, _, rfl, _, _, rfl, rfl, .inl ⟨by omega, by omega⟩, _, rfl, k⟩) (a := a + mo) (n := mt) rfl (by rw [hmt]; rfl) (.inl hb6) toldb zb (by omega) (by omega) fun H7 x3 b3 q3 s7 f3 le3 at3 => ?_
    refine ⟨fun σ' H' => ∃ u3 : Addr, σ' = [some (.ref p), some (.ref t), some (.ref lg), some (.ref gl), some (.ref bl), some (.ref x3), some (.ref u3), some (.ref r), some (.int a), some (.int m), some (.ref u), some (.int mo), some (.int ti), some (.ref x1), some (.ref x2), v15, v16, none] ∧ Same H7 H' ∧ FormAt H' u3 b3 q3 (nums (atW bs (a + mo) mt) (b3 + q3)), ?_, ?_⟩
    · refine ⟨_, rfl, _, rfl, _, rfl, _, _, rfl, rfl, _, rfl, _, rfl, _, _, rfl, rfl, .inl ⟨by omega, by omega⟩, by show 3 ≤ sizeLine; omega, fun t3 ht3 => ?_⟩
      have st := Same.new (o := .tup [V.ref bl, .int ((a : Int) + mo), .int ((m : Int) * ti)]) ht3
      refine ⟨t3, bs, a + mo, mt, rfl, ⟨bl, by rw [upd_same, hmt]; rfl, st _ _ (s7 _ _ hb6)⟩, toldb, by omega, fun H8 u3 b4 q4 s8 f4 le4 fu8 => ?_⟩
      obtain ⟨rfl, rfl⟩ := f3.uniq f4
      exact ⟨u3, rfl, st.trans s8, fu8⟩
    rintro σ' H8 ⟨u3, rfl, s8, fu8⟩
    have s68 := s7.trans s8
    have at8 := at6.same s68
    have fu8' := fu6.same s68
    have at38 := at3.same s8
    have W_fit3 := nums_fit toldb
    have few3 : (nums (atW bs (a + mo) mt) (b3 + q3)).length ≤ 300 := by rw [nums_len]; omega
    refine ⟨_, rfl, x3, b3, q3, _, rfl, at38, fun H9 u4 s9 fu9 => ?_⟩
    refine rep_form fu9 (by omega) (by omega) few3 (W_fit3 _) ?_
    refine ⟨_, rfl, rep_form (fu8.same s9) (by omega) (by omega) few3 (W_fit3 _) ?_⟩
    refine ⟨rfl, _, rfl, ?_⟩
    rw [decide_eq_true rfl]
    refine iteF ?_
    have at19 := at8.same s9
    have at39 := at38.same s9
    have fu9' := fu8'.same s9
    have fu39 := fu8.same s9
    have sym : decide (b = b3 ∧ pe = q3 ∧ nums (atW row a m) (b + pe) = nums (atW bs (a + mo) mt) (b3 + q3)) = decide (b3 = b ∧ q3 = pe ∧ nums (atW bs (a + mo) mt) (b3 + q3) = nums (atW row a m) (b + pe)) := by
      congr 1
      exact propext ⟨fun ⟨x, y, z⟩ => ⟨x.symm, y.symm, z.symm⟩, fun ⟨x, y, z⟩ => ⟨x.symm, y.symm, z.symm⟩⟩
    refine ⟨_, rfl, _, rfl, eqT_is TC tyT at39 at19 ?_⟩
    refine ⟨_, rfl, _, rfl, eq_form fu39 fu9' ?_⟩
    refine ⟨rfl, _, rfl, ?_⟩
    rw [decide_eq_true rfl]
    refine iteF ?_
    refine ⟨_, rfl, _, rfl, neT_is TC tyT at19 at39 ?_⟩
    refine ⟨_, rfl, _, rfl, ne_form fu39 fu9' ?_⟩
    rw [sym]
    refine ⟨rfl, _, rfl, ?_⟩
    rw [decide_eq_true rfl]
    refine iteF ?_
    obtain ⟨dq, hu1, hu2⟩ := id fu9'
    refine ⟨_, rfl, _, rfl, u, _, _, _, rfl, rfl, SqT.of hu1, rfl, _, _, rfl, .inr (SqT.of hu2), fun l1 hl1 => ?_⟩
    have q1 := Same.new (o := .lst ((nums (atW row a m) (b + pe)).map V.int)) hl1
    refine strT_box rfl (at19.same q1) (by omega) (W_fit _) fun HA z sA => ?_
    have sB := q1.trans sA
    refine ⟨_, rfl, u, _, _, _, rfl, rfl, SqT.of (sB _ _ hu1), rfl, ?_⟩
    refine ⟨by show 6 ≤ sizeLine; omega, fun o ho => ?_⟩
    have sC := Same.new (o := .lst [V.non, .int 0, .ref u, .ref l1, .str z, .ref dq]) ho
    have sD := sB.trans sC
    have kds : ∀ v ∈ [V.non, .int 0, .ref u, .ref l1, .str z, .ref dq], Kd (upd HA o (.lst [V.non, .int 0, .ref u, .ref l1, .str z, .ref dq])) v := fun v hv => by
      simp only [List.mem_cons, List.not_mem_nil, or_false] at hv
      rcases hv with rfl | rfl | rfl | rfl | rfl | rfl
      · exact True.intro
      · exact True.intro
      · exact .inl ⟨_, sD _ _ hu1⟩
      · exact .inr (.inl ⟨_, sC _ _ (sA _ _ upd_same)⟩)
      · exact True.intro
      · exact .inl ⟨_, sD _ _ hu2⟩
    have at1D := at19.same sD
    refine ⟨o, rfl, ⟨_, SqL.of upd_same⟩, fun D hD => ?_⟩
    have oD : o ≠ D := fun z => by rw [z, upd_same] at hD; cases hD
    refine lc_list (K := K) (a := o) (xs := [V.non, .int 0, .ref u, .ref l1, .str z, .ref dq]) (fun i H' => Same (upd (upd HA o (.lst [V.non, .int 0, .ref u, .ref l1, .str z, .ref dq])) D (.lst [])) H') (fun _ _ z => z) (fun i H' _ sq => SqL.of (sq o _ (by rw [upd_ne oD, upd_same]))) (fun i v H' hi sq => ?_) (fun H' sq => ?_)
    · have s' := (Same.new hD).trans sq
      have kv := OtherV.same (K := K) (kds v (List.mem_of_getElem? hi)) s'
      refine ⟨rfl, _, rfl, _, rfl, eqT_other TC tC (at1D.same s') kv ⟨_, rfl, iteF ⟨_, rfl, _, rfl, neT_other TC tC (at1D.same s') kv ⟨_, rfl, iteF sq⟩⟩⟩⟩
    · have s' := (Same.new hD).trans sq
      refine ⟨Nat.zero_le _, fun l5 hl5 => ?_⟩
      have uu := Same.new (o := .lst []) hl5
      refine ⟨.list [], .list [], Dp.lst (SqL.of (uu _ _ (sq D _ upd_same))) .nil, Dp.lst (SqL.of upd_same) .nil, shaped_ints [], shaped_ints [], ?_⟩
      rw [show PyData.eqv (.list []) (.list []) = true from by decide +kernel]
      have all_ := ((s68.trans s9).trans sD).trans (s'.trans uu)
      exact fin _ (p6.same all_) ((m1.trans mv3).trans (m6.trans (Same.mv all_ p)))
end

end Fz
set_option Elab.async false
set_option linter.all false
set_option maxRecDepth 100000
set_option maxHeartbeats 2000000
namespace Fz
open PySem PySem.Spec PyProof.Rows L2
/-- one step of a reading -/
local macro_rules | `(tactic| walk_at "st") => `(tactic| first
  | refine ⟨_, rfl, ?_⟩
  | refine Or.inl ⟨_, rfl, ?_⟩
  | refine Or.inr ⟨_, rfl, ?_⟩
  | refine ⟨_, _, _, _, rfl, rfl, SqL.of (by first | assumption | exact upd_same), rfl, ?_⟩
  | refine ⟨_, _, _, _, rfl, rfl, (by first | assumption | exact upd_same), rfl, ?_⟩
  | refine ⟨_, _, rfl, .inl ⟨_, SqL.of (by first | assumption | exact upd_same), rfl⟩, ?_⟩
  | refine ⟨_, _, rfl, rfl, (show (0 : Int) < _ by first | decide | omega), ?_⟩
  | refine ⟨_, _, rfl, rfl, (show (0 : Int) < _ ∧ _ < _ by first | exact ⟨by decide, by decide⟩ | omega), ?_⟩
  | refine ⟨_, _, rfl, rfl, (show (_ < _ ∧ _ < _) ∨ (_ < _ ∧ _ < _) by first | exact .inl ⟨by decide, by decide⟩ | omega), ?_⟩
  | refine ⟨_, _, rfl, rfl, (show (0 : Int) ≤ _ ∧ _ ≤ _ ∧ _ < _ by first | exact ⟨by decide, by decide, by decide⟩ | exact ⟨by decide, by decide, by omega⟩), ?_⟩
  | refine ⟨_, _, rfl, rfl, ?_⟩)

abbrev s_law : Stmt := topS 33
abbrev lamW : Str := (envOfC "law" (defScope s_law) 0 0 .none).qual ++ "<lambda>"
theorem sc_law : FnScope ["_law_script", "_law_pen_here", "_law_lap", "_law_great", "_law_heard_here", "_law_full", "_law_late", "_law_wide", "_law_k"] ["_law_script"] (defScope s_law) := ⟨rfl, rfl, rfl, by decide +kernel, rfl, by decide +kernel, by decide +kernel⟩
section
variable {P : Program} {w : World} {K : PySem.W.Frag} {mg : Str → Option Value} {base : Heap}

theorem top_min {row : List Int} {a n : Nat} (t : Told row a n) (h : ∀ j, a ≤ j → j < a + n - 1 → row.getD j 0 ≠ row.getD (a + n - 1) 0) : ∀ s c, 1 ≤ s → (∀ i, c ≤ i → atW row a n (i + s) = atW row a n i) → n ≤ s := fun s c s1 g => by
  have n1 := t.n1
  refine Nat.le_of_not_lt fun lt => ?_
  have q := good_of n1 g (a + n - 1) (by omega)
  rw [atW_high (by omega), atW_low (by omega), show a + n - 1 + s - a = n + (s - 1) by omega, Nat.add_mod_left, Nat.mod_eq_of_lt (by omega)] at q
  exact h (a + (s - 1)) (by omega) (by omega) q
theorem form_top {row : List Int} {a n : Nat} (t : Told row a n) (h : ∀ j, a ≤ j → j < a + n - 1 → row.getD j 0 ≠ row.getD (a + n - 1) 0) (low : a = 0 ∨ row.getD (a - 1 + n) 0 ≠ row.getD (a - 1) 0) : Form (atW row a n) a n := by
  have n1 := t.n1
  refine ⟨n1, fun i hi => atW_per1 hi, top_min t h, ?_⟩
  by_cases a0 : a = 0
  · exact .inl a0
  · rcases low with z | z
    · exact absurd z a0
    · rw [atW_low (by omega), atW_low (by omega)]
      exact .inr z
section
variable {CB CT x dx l : Addr} {H : Hp} {a n : Nat} {ai ni : Int} {row : List Int} {E : XK} {σ : L2.St} {Q : VK} {ta : TA}
/-- Table(a, n, row), the row made as an argument -/
theorem tabN_box (args : ∀ R : List V → Hp → Prop, (∀ H1 l, Same H H1 → SeqAt2 H1 l (row.map V.int) → R [.int ai, .int ni, .ref l] H1) → ta σ H R) (ea : ai = a) (en : ni = n) (t : Told row a n) (z : row[0]? = some 0) (a1 : a ≤ 1000) (n1 : n ≤ 1000)
    (fin : ∀ H' x b p, Same H H' → Form (atW row a n) b p → b + p ≤ a + n → TabAt CT H' x b p (nums (atW row a n) (b + p)) → Q (.ref x) H') : Box (tMake CT (spTable CB CT) [] E ta) σ H Q := by
  subst ea en
  exact ⟨args _ fun H1 l s hl => fun x dx hx hdx _ => table_made (G := fun H' => Q (.ref x) H') hl t z a1 n1 hx hdx fun H' b p s1 f le at_ => fin H' x b p (s.trans s1) f le at_⟩
/-- [0] + great + tail -/
theorem row_box {gl : Addr} {great tail : List Int} {tk : TA} (v : σ[3]? = some (some (.ref gl))) (hgl : H gl = some (.lst (great.map V.int))) (g1 : great.length ≤ 2000) (t1 : tail.length ≤ 10) (ht : ∀ H R, R (tail.map V.int) H → tk σ H R)
    (fin : ∀ H' l, Same H H' → H' l = some (.lst (([0] ++ great ++ tail).map V.int)) → Q (.ref l) H') : tOp rCat (tOp rCat (tLst (tCons (tC (.int 0)) tNil)) (tVar 3)) (tLst tk) σ H Q := by
  have sz : (10000 : Nat) ≤ sizeLine := by show 10000 ≤ 16777216; decide
  refine ⟨by show 1 ≤ sizeLine; omega, fun l1 h1 => ⟨_, v, l1, gl, _, _, rfl, rfl, upd_same, Same.new h1 _ _ hgl, by rw [List.length_map]; show 1 + _ ≤ sizeLine; omega, fun l2 h2 => ?_⟩⟩
  refine ht _ _ ⟨by rw [List.length_map]; omega, fun l3 h3 => ⟨l2, l3, _, _, rfl, rfl, Same.new h3 _ _ upd_same, upd_same, by rw [List.length_append, List.length_map, List.length_map]; show 1 + _ + _ ≤ sizeLine; omega, fun l4 h4 => ?_⟩⟩
  refine fin _ l4 (((Same.new h1).trans (Same.new h2)).trans ((Same.new h3).trans (Same.new h4))) ?_
  rw [upd_same, List.map_append, List.map_append]
  rfl
end
theorem great_at {great tail : List Int} {j : Nat} (h : j < great.length) : ([0] ++ great ++ tail).getD (1 + j) 0 = great.getD j 0 := by
  rw [List.getD_eq_getElem?_getD, List.append_assoc, List.getElem?_append_right (by show 1 ≤ 1 + j; omega), List.getElem?_append_left (by show 1 + j - 1 < _; omega), List.getD_eq_getElem?_getD]
  congr 2
  show 1 + j - 1 = j
  omega
theorem tail_at {great tail : List Int} {j : Nat} : ([0] ++ great ++ tail).getD (1 + great.length + j) 0 = tail.getD j 0 := by
  rw [List.getD_eq_getElem?_getD, List.getElem?_append_right (by rw [List.length_append]; show 1 + _ ≤ _; omega), List.getD_eq_getElem?_getD]
  congr 2
  rw [List.length_append]
  show 1 + great.length + j - (1 + great.length) = j
  omega
theorem great_fit {great : List Int} (f : ∀ x ∈ great, 0 ≤ x ∧ x ≤ 1) (j : Nat) : great.getD j 0 ≤ 1 := by
  rw [List.getD_eq_getElem?_getD]
  cases e : great[j]? with
  | none => decide
  | some x => exact (f x (List.mem_of_getElem? e)).2
theorem row_told {great tail : List Int} {a n : Nat} (f : ∀ x ∈ great, 0 ≤ x ∧ x ≤ 1) (ft : ∀ x ∈ tail, 0 ≤ x ∧ x ≤ 400) (l : 1 + great.length + tail.length = a + n) (n1 : 1 ≤ n) : Told ([0] ++ great ++ tail) a n := by
  refine ⟨by rw [List.length_append, List.length_append]; exact l, n1, fun x hx => ?_⟩
  rcases List.mem_append.mp hx with h | h
  · rcases List.mem_append.mp h with h | h
    · rw [List.mem_singleton.mp h]; decide
    · have q := f x h; omega
  · exact ft x h
theorem form_late {great : List Int} (l : great.length = 998) (f : ∀ x ∈ great, 0 ≤ x ∧ x ≤ 1) : Told ([0] ++ great ++ [1, 0]) 1000 1 ∧ Form (atW ([0] ++ great ++ [1, 0]) 1000 1) 1000 1 := by
  have t := row_told (a := 1000) (n := 1) f (tail := [1, 0]) (by decide) (by rw [l]; rfl) (Nat.le_refl 1)
  refine ⟨t, form_top t (fun j a b => by omega) (.inr ?_)⟩
  have e1 := tail_at (great := great) (tail := [1, 0]) (j := 1)
  have e2 := tail_at (great := great) (tail := [1, 0]) (j := 0)
  rw [l] at e1 e2
  show ([0] ++ great ++ [1, 0]).getD (1 + 998 + 1) 0 ≠ ([0] ++ great ++ [1, 0]).getD (1 + 998 + 0) 0
  rw [e1, e2]
  decide
theorem form_wide {great : List Int} (l : great.length = 998) (f : ∀ x ∈ great, 0 ≤ x ∧ x ≤ 1) : Told ([0] ++ great ++ [2]) 0 1000 ∧ Form (atW ([0] ++ great ++ [2]) 0 1000) 0 1000 := by
  have t := row_told (a := 0) (n := 1000) f (tail := [2]) (by decide) (by rw [l]; rfl) (by decide)
  refine ⟨t, form_top t (fun j a b => ?_) (.inl rfl)⟩
  have e1 := tail_at (great := great) (tail := [2]) (j := 0)
  rw [l] at e1
  show _ ≠ ([0] ++ great ++ [2]).getD (1 + 998 + 0) 0
  rw [e1]
  show _ ≠ (2 : Int)
  by_cases j0 : j = 0
  · subst j0
    show (0 : Int) ≠ 2
    decide
  · have e2 := great_at (great := great) (tail := [2]) (j := j - 1) (by omega)
    rw [show 1 + (j - 1) = j by omega] at e2
    have q := great_fit f (j - 1)
    rw [e2]
    omega
theorem rep0 (k j : Nat) : (List.replicate k (0 : Int)).getD j 0 = 0 := by
  rw [List.getD_eq_getElem?_getD, List.getElem?_replicate]
  split <;> rfl
def fullR : List Int := List.replicate 1999 0 ++ [1]
theorem form_full : Told fullR 1000 1000 ∧ Form (atW fullR 1000 1000) 1000 1000 := by
  have len : fullR.length = 2000 := by
    unfold fullR
    rw [List.length_append, List.length_replicate]
    rfl
  have t : Told fullR 1000 1000 := ⟨len, by decide, fun x hx => by
    rcases List.mem_append.mp hx with h | h
    · rw [(List.mem_replicate.mp h).2]; decide
    · rw [List.mem_singleton.mp h]; decide⟩
  have low : ∀ j, j < 1999 → fullR.getD j 0 = 0 := fun j h => by
    have q := rep0 1999 j
    rw [List.getD_eq_getElem?_getD] at q
    unfold fullR
    rw [List.getD_eq_getElem?_getD, List.getElem?_append_left (by rw [List.length_replicate]; exact h)]
    exact q
  have top : fullR.getD 1999 0 = 1 := by
    unfold fullR
    rw [List.getD_eq_getElem?_getD, List.getElem?_append_right (by rw [List.length_replicate]; exact Nat.le_refl _), List.length_replicate]
    rfl
  refine ⟨t, form_top t (fun j a b => ?_) (.inr ?_)⟩
  · show _ ≠ fullR.getD 1999 0
    rw [top, low j (by omega)]
    decide
  · show fullR.getD 1999 0 ≠ fullR.getD 999 0
    rw [top, low 999 (by decide)]
    decide
theorem full_nums : nums (atW fullR 1000 1000) (1000 + 1000) = fullR := by
  have t := form_full.1
  rw [← take_nums t (Nat.le_refl _)]
  exact List.take_of_length_le (by rw [t.len]; exact Nat.le_refl _)
theorem full_cut : cutV (fullR.map V.int) (some ((1998 : Nat) : Int)) none = [V.int 0, .int 1] := by
  rw [cutV_drop]
  unfold fullR
  rw [List.map_append, List.map_replicate, List.drop_append_of_le_length (by rw [List.length_replicate]; decide), List.drop_replicate]
  rfl
theorem form_02 : Told [0, 1] 0 2 ∧ Form (atW [0, 1] 0 2) 0 2 := by
  have t : Told [0, 1] 0 2 := ⟨rfl, by decide, by decide⟩
  refine ⟨t, form_top t (fun j a b => ?_) (.inl rfl)⟩
  have : j = 0 := by omega
  subst this
  decide
theorem form_11 : Told [0, 1] 1 1 ∧ Form (atW [0, 1] 1 1) 1 1 := by
  have t : Told [0, 1] 1 1 := ⟨rfl, by decide, by decide⟩
  exact ⟨t, form_top t (fun j a b => by omega) (.inr (by decide))⟩
theorem form_0 : Told (List.replicate 9 0) 3 6 ∧ Form (atW (List.replicate 9 0) 3 6) 0 1 := by
  have t : Told (List.replicate 9 0) 3 6 := ⟨rfl, by decide, fun x hx => by rw [(List.mem_replicate.mp hx).2]; decide⟩
  have z : ∀ i, atW (List.replicate 9 0) 3 6 i = 0 := fun i => rep0 9 _
  exact ⟨t, Nat.le_refl 1, fun i _ => by rw [z, z], fun s c s1 _ => s1, .inl rfl⟩
def spLawT (K : PySem.W.Frag) (P1 P2 : Addr) : Sp := fun vs H Q _ => ∃ (a : Addr) (ns : List Int), vs = [.ref a] ∧ SqL K H a (ns.map V.int) ∧ ns.length ≤ 63 ∧ H P1 = some (.tbl #[]) ∧ H P2 = some (.tbl #[]) ∧ ∀ H', Q (.bl true) H'
theorem ok_law {f fPn fD fFo fRf fH fSh fTi fEq CT CB CX c P1 P2 : Addr} {fd fdPn fdD fdFo fdRf fdH fdSh fdTi fdEq : FuncData} (F : Fun K "law" "law" s_law f fd) (code : fd.code = .ref c) (TB : LamX.TabB base mg c P2) (ne12 : P1 ≠ P2)
    (U : Blt mg) (TC : TabC K CT) (tyT : TyC K CT) (tyC_ : PySem.W.typeIn K (.ref CT) = some (.type "type")) (Z : PrgG K mg CX CB) (rdT : ClX.CRead K CT (.type "type")) (mostT : ∃ u, ClX.CVal K CT (.type "type") "MOST" (.int 1000) u)
    (Pn : Fun K "_law_pen" "_law_pen" s_pen fPn fdPn) (gPn : mg "_law_pen" = some (.ref fPn)) (b_pen : L2.Binds K fdPn ["_law_script"] [])
    (D : Fun K "_law_draw" "_law_draw" s_draw fD fdD) (gD : mg "_law_draw" = some (.ref fD)) (b_draw : L2.Binds K fdD ["_law_pen_here", "_law_many"] [])
    (Fo : Fun K "_law_forms_right" "_law_forms_right" s_forms fFo fdFo) (gFo : mg "_law_forms_right" = some (.ref fFo)) (b_forms : L2.Binds K fdFo ["_law_pen_here"] []) (G_forms : FnG P w K mg base CX0 7 fFo fdFo ["_law_pen_here"] spForms)
    (Rf : Fun K "_law_refused_right" "_law_refused_right" s_refused fRf fdRf) (gRf : mg "_law_refused_right" = some (.ref fRf)) (b_refused : L2.Binds K fdRf ["_law_pen_here"] []) (G_refused : FnG P w K mg base CX0 9 fRf fdRf ["_law_pen_here"] (spRefused [(P1, lamF), (P2, lamW)]))
    (Hd : Fun K "_law_heard" "_law_heard" s_heard fH fdH) (gH : mg "_law_heard" = some (.ref fH)) (b_heard0 : L2.Binds K fdH ["_law_ask"] [])
    (Sh : Fun K "_law_shown" "_law_shown" s_shown fSh fdSh) (gSh : mg "_law_shown" = some (.ref fSh)) (b_shown : L2.Binds K fdSh ["_law_table"] [])
    (oT : PySem.W.findIn K (.ref CT) "__eq__" = some (some (.ref fEq))) (iT : PySem.W.isFn K (.ref fEq) = true) (sT : PySem.W.findIn K (.ref CT) "__ne__" = some (some (.builtin "object.__ne__"))) (mT_ : PySem.W.mroIn K CT (.type "object") = some true) (G_eqT : FnOk P w K mg base CX0 1 fEq fdEq ["self", "other"] (spEqT K CT)) (bT : L2.Binds K fdEq ["self", "other"] [])
    (MkT : Mk K CT fTi) (gTab : mg "Table" = some (.ref CT)) (b_ti : L2.Binds K fdTi ["self", "begin", "period", "numbers"] []) (G_ti : FnOk P w K mg base (L2.CX P w) 5 fTi fdTi ["self", "begin", "period", "numbers"] (spTable CB CT)) : FnG P w K mg base CX0 11 f fd ["_law_script"] (spLawT K P1 P2) := by
  have G_pen : FnOk P w K mg base CX0 1 fPn fdPn ["_law_script"] (spPen K) := ok_pen Pn U
  have G_draw : FnOk P w K mg base CX0 1 fD fdD ["_law_pen_here", "_law_many"] spDraw := ok_draw D U
  have G_shown : FnOk P w K mg base CX0 1 fSh fdSh ["_law_table"] (spShown CT) := ok_shown Sh TC
  obtain ⟨oc, od, kV, doc, pm, an, cdvH, ct, osl, rfl, lkH, codeH⟩ := Hd.ex
  have b_heard := b_heard0
  have mT : (P2, lamW) ∈ [(P1, lamF), (P2, lamW)] := by simp
  have uT : ∀ p ∈ [(P1, lamF), (P2, lamW)], p.1 = P2 → p.2 = lamW := fun p hp e => by
    simp only [List.mem_cons, List.not_mem_nil, or_false] at hp
    rcases hp with rfl | rfl
    · exact absurd e ne12
    · rfl
  obtain ⟨TL, hTL⟩ : ∃ TL, TL = [(P1, lamF), (P2, lamW)] := ⟨_, rfl⟩
  rw [← hTL] at mT uT G_refused
  refine funG F sc_law (fun vs H Q E h => ?_) (fun cdv A outer s H vs Q E hcdv hr hg h => ?_)
  · obtain ⟨a, ns, rfl, _⟩ := h
    rfl
  · obtain ⟨a, ns, rfl, hs, few, ht1, ht2, fin⟩ := h
    obtain rfl : cdv = .ref c := hcdv.symm.trans code
    have hcode : ∀ {X : Cx}, X.env.code = .ref c → X.env.code = .ref c := id
    refine ⟨_, (pss_cons (ps_set (i := 1) sc_law.nd rfl (Or.inr rfl) (pe_call G_pen (hr.mono (by decide)) rfl gPn Pn.kp b_pen .nil pass0 (by exact (pa_cons (pv 0) pa_nil))))
  (C8.pss_cut (ps_for PassesOwn.never rfl (pi_range1 rfl U.z_range (by exact (pa_cons pe_int pa_nil))) (pg_name (i := 2) sc_law.nd rfl (Or.inl rfl)) (pss_one (ps_if (PW.pt (pw_or (pt_not (pt_val (pe_callG G_forms (hr.mono (by decide)) hg rfl gFo Fo.kp b_forms .nil pass0 (by exact (pa_cons (pv 1) pa_nil))))) (pw_or1 (pt_not (pt_val (pe_callG G_refused (hr.mono (by decide)) hg rfl gRf Rf.kp b_refused .nil pass0 (by exact (pa_cons (pv 1) pa_nil)))))))) (pss_one (ps_ret pe_bl)) pss_nil)))
  (C8.pss_cut (ps_set (i := 3) sc_law.nd rfl (Or.inr rfl) (pe_lc (own := [("_law_k", 8)]) rfl sc_law.nd (pi_range1 rfl U.z_range (by exact (pa_cons pe_int pa_nil))) (blkOk_by (by kernel_rfl)) (fun s_ H_ C_ cl_ fp_ => (pg_name (i := 8) sc_law.nd rfl (Or.inl rfl))) (fun s_ H_ C_ cl_ fp_ => pts_nil) (fun s_ H_ C_ cl_ fp_ => (pe_call G_draw (hr.mono (by decide)) rfl gD D.kp b_draw .nil pass0 (by exact (pa_cons (pv 1) (pa_cons pe_int pa_nil)))))))
  (C8.pss_cut (ps_par (i := 6) (j := 7) (by rfl) sc_law.nd rfl rfl (by decide) rfl rfl (pa_cons (pe_box (pe_make MkT G_ti (hr.mono (by decide)) rfl gTab b_ti .nil (passes_call LamX.takes0 (fun _ _ _ _ h => h)) (by exact (pa_cons pe_int (pa_cons pe_int (pa_cons (pe_op op_cat (pe_op op_cat (pe_lst (pa_cons pe_int pa_nil)) (pv 3)) (pe_lst (pa_cons pe_int (pa_cons pe_int pa_nil)))) pa_nil)))))) (pa_cons (pe_box (pe_make MkT G_ti (hr.mono (by decide)) rfl gTab b_ti .nil (passes_call LamX.takes0 (fun _ _ _ _ h => h)) (by exact (pa_cons pe_int (pa_cons pe_int (pa_cons (pe_op op_cat (pe_op op_cat (pe_lst (pa_cons pe_int pa_nil)) (pv 3)) (pe_lst (pa_cons pe_int pa_nil))) pa_nil)))))) pa_nil)) (by rfl))
  (pss_cons (ps_if (pt_cmpR (op_neD hr.units) (pe_lst (pa_cons (pe_fld (pv 6) rfl) (pa_cons (pe_fld (pv 6) rfl) (pa_cons (pe_fld (pv 7) rfl) (pa_cons (pe_fld (pv 7) rfl) (pa_cons (pe_callB call_len rfl U.z_len (by decide +kernel) (pa_cons (pe_fld (pv 7) rfl) pa_nil)) pa_nil)))))) (pe_lst (pa_cons pe_int (pa_cons pe_int (pa_cons pe_int (pa_cons pe_int (pa_cons pe_int pa_nil)))))) (nomark _)) (pss_one (ps_ret pe_bl)) pss_nil)
  (C8.pss_cut (ps_set (i := 4) sc_law.nd rfl (Or.inl rfl) (pe_lst (pa_cons (pe_box (LamX.pe_lamcall (k := 6) (t := (fun E => tMake CT (spTable CB CT) [] E (tCons (tC (.int 1001)) (tCons (tC (.int 1)) (tCons (tOp rCat (tOp rCat (tLst (tCons (tC (.int 0)) tNil)) (tVar 3)) (tLst (tCons (tC (.int 1)) (tCons (tC (.int 1)) (tCons (tC (.int 0)) tNil))))) tNil))))) (T := TL) rfl gH Hd.kp lkH codeH b_heard sc_heard rfl (Or.inl rfl) (heard_gives U Z) TB (hcode rfl) mT uT (hr.mono (by decide)) (LamX.lamS_by (by kernel_rfl)) rfl (fun _ _ _ _ _ => rfl) (fun A2 outer2 s2 H2 E2 f2 c2 hr2 => (pe_make MkT G_ti (hr2.mono (by decide)) rfl gTab b_ti .nil (passes_call (takes_of rfl rfl rfl rfl) (fun _ _ _ _ h => h)) (by exact (pa_cons pe_int (pa_cons pe_int (pa_cons (pe_op op_cat (pe_op op_cat (pe_lst (pa_cons pe_int pa_nil)) (pv 3)) (pe_lst (pa_cons pe_int (pa_cons pe_int (pa_cons pe_int pa_nil))))) pa_nil)))))))) pa_nil)))
  (C8.pss_cut (ps_expr (pe_bm PySem.F.plainAttrs_list PySem.F.slot_list_append PySem.F.type_list_append mt_append (pv 4) (pa_cons (pe_box (LamX.pe_lamcall (k := 6) (t := (fun E => tMake CT (spTable CB CT) [] E (tCons (tC (.int 0)) (tCons (tC (.int 1001)) (tCons (tOp rCat (tOp rCat (tLst (tCons (tC (.int 0)) tNil)) (tVar 3)) (tLst (tCons (tC (.int 1)) (tCons (tC (.int 2)) tNil)))) tNil))))) (T := TL) rfl gH Hd.kp lkH codeH b_heard sc_heard rfl (Or.inl rfl) (heard_gives U Z) TB (hcode rfl) mT uT (hr.mono (by decide)) (LamX.lamS_by (by kernel_rfl)) rfl (fun _ _ _ _ _ => rfl) (fun A2 outer2 s2 H2 E2 f2 c2 hr2 => (pe_make MkT G_ti (hr2.mono (by decide)) rfl gTab b_ti .nil (passes_call (takes_of rfl rfl rfl rfl) (fun _ _ _ _ h => h)) (by exact (pa_cons pe_int (pa_cons pe_int (pa_cons (pe_op op_cat (pe_op op_cat (pe_lst (pa_cons pe_int pa_nil)) (pv 3)) (pe_lst (pa_cons pe_int (pa_cons pe_int pa_nil)))) pa_nil)))))))) pa_nil)))
  (C8.pss_cut (ps_set (i := 5) sc_law.nd rfl (Or.inl rfl) (pe_box (pe_make MkT G_ti (hr.mono (by decide)) rfl gTab b_ti .nil (passes_call LamX.takes0 (fun _ _ _ _ h => h)) (by exact (pa_cons pe_int (pa_cons pe_int (pa_cons (pe_op op_cat (pe_op op_rep (pe_lst (pa_cons pe_int pa_nil)) pe_int) (pe_lst (pa_cons pe_int pa_nil))) pa_nil)))))))
  (pss_cons (ps_if (pt_cmpR (op_neD hr.units) (pe_lst (pa_cons (pe_fld (pv 5) rfl) (pa_cons (pe_fld (pv 5) rfl) (pa_cons (pe_slice sl_tup (pe_fld (pv 5) rfl) (po_some pe_int) po_none) pa_nil)))) (pe_lst (pa_cons pe_int (pa_cons pe_int (pa_cons (pe_tup (pa_cons pe_int (pa_cons pe_int pa_nil))) pa_nil)))) (nomark _)) (pss_one (ps_ret pe_bl)) pss_nil)
  (pss_cons (ps_if (PW.pt (pw_or (pt_cmpR (op_eqO oT iT G_eqT bT (hr.mono (by decide))) (pe_box (pe_make MkT G_ti (hr.mono (by decide)) rfl gTab b_ti .nil (passes_call LamX.takes0 (fun _ _ _ _ h => h)) (by exact (pa_cons pe_int (pa_cons pe_int (pa_cons (pe_lst (pa_cons pe_int (pa_cons pe_int pa_nil))) pa_nil)))))) (pe_box (pe_make MkT G_ti (hr.mono (by decide)) rfl gTab b_ti .nil (passes_call LamX.takes0 (fun _ _ _ _ h => h)) (by exact (pa_cons pe_int (pa_cons pe_int (pa_cons (pe_lst (pa_cons pe_int (pa_cons pe_int pa_nil))) pa_nil)))))) (nomark _)) (pw_or1 (pt_cmpR (op_eqO oT iT G_eqT bT (hr.mono (by decide))) (pe_box (pe_make MkT G_ti (hr.mono (by decide)) rfl gTab b_ti .nil (passes_call LamX.takes0 (fun _ _ _ _ h => h)) (by exact (pa_cons pe_int (pa_cons pe_int (pa_cons (pe_lst (pa_cons pe_int (pa_cons pe_int pa_nil))) pa_nil)))))) (pe_box (pe_make MkT G_ti (hr.mono (by decide)) rfl gTab b_ti .nil (passes_call LamX.takes0 (fun _ _ _ _ h => h)) (by exact (pa_cons pe_int (pa_cons pe_int (pa_cons (pe_lst (pa_cons pe_int (pa_cons pe_int pa_nil))) pa_nil)))))) (nomark _))))) (pss_one (ps_ret pe_bl)) pss_nil)
  (pss_one (ps_ret (pe_and (pe_cmpR (op_eqD hr.units) (pv 4) (pe_lst (pa_cons pe_str (pa_cons pe_str pa_nil))) (nomark _)) (pe_and (pe_cmpR op_eq (ClX.pe_cval (pe_glob (v := .ref _) rfl gTab rfl)) pe_int (nomark _)) (pe_one (pe_cmpR (op_eqD hr.units) (pe_call G_shown (hr.mono (by decide)) rfl gSh Sh.kp b_shown .nil pass0 (by exact (pa_cons (pe_box (pe_make MkT G_ti (hr.mono (by decide)) rfl gTab b_ti .nil (passes_call LamX.takes0 (fun _ _ _ _ h => h)) (by exact (pa_cons pe_int (pa_cons pe_int (pa_cons (pe_op op_rep (pe_lst (pa_cons pe_int pa_nil)) pe_int) pa_nil)))))) pa_nil))) (pe_tup (pa_cons pe_int (pa_cons pe_int (pa_cons (pe_tup (pa_cons pe_int pa_nil)) pa_nil)))) (nomark _))))))))))))))))), ?_⟩
    have sz : (10000 : Nat) ≤ sizeLine := by show 10000 ≤ 16777216; decide
    refine ⟨_, rfl, a, ns, rfl, hs, few, fun H0 p q hp0 hq0 pen0 same0 => ?_⟩
    have tabs0 : LamX.Tabs TL H0 := fun b hb => by
      rw [hTL] at hb
      simp only [List.mem_cons, List.not_mem_nil, or_false] at hb
      rcases hb with rfl | rfl
      · exact LamX.TabS.nil (same0 _ _ ht1)
      · exact LamX.TabS.nil (same0 _ _ ht2)
    refine ⟨fun σ' H' => ∃ v2 : Option V, σ' = [some (.ref a), some (.ref p), v2, none, none, none, none, none, none] ∧ PenAt 140 H' p q ∧ LamX.Tabs TL H', ?_, ?_⟩
    · refine ⟨5, rfl, by decide, by decide, for_range (lo := 0) (n := 5) (fun i σ' H' => ∃ v2 : Option V, σ' = [some (.ref a), some (.ref p), v2, none, none, none, none, none, none] ∧ PenAt (28 * i) H' p q ∧ LamX.Tabs TL H') ⟨_, rfl, pen0, tabs0⟩ ?_ ?_⟩
      rotate_left
      · rintro σ' H' ⟨v2, rfl, pen, tabs⟩
        exact ⟨_, rfl, pen.more (by decide), tabs⟩
      rintro i σ' H1 hi ⟨v2, rfl, pen1, tabs1⟩
      refine ⟨_, rfl, 28 * i, p, q, rfl, pen1, by omega, fun H2 pen2 mv2 => ?_⟩
      obtain ⟨xs1, hpl⟩ := pen1.lst
      have tabs2 := tabs_mv hpl mv2 tabs1
      refine ⟨_, rfl, iteF ?_⟩
      refine ⟨_, rfl, 28 * i + 24, p, q, rfl, pen2, by omega, tabs2, fun H3 pen3 mv3 tabs3 => ?_⟩
      exact ⟨_, rfl, iteF ⟨_, rfl, pen3.more (by omega), tabs3⟩⟩
    rintro σ' H1 ⟨v2, rfl, pen1, tabs1⟩
    refine ⟨fun σ' H' => ∃ (gl : Addr) (great : List Int) (v8 : Option V), σ' = [some (.ref a), some (.ref p), v2, some (.ref gl), none, none, none, none, v8] ∧ LamX.Tabs TL H' ∧ H' gl = some (.lst (great.map V.int)) ∧ great.length = 998 ∧ ∀ x ∈ great, 0 ≤ x ∧ x ≤ 1, ?_, ?_⟩
    · refine ⟨_, rfl, by decide, by decide, fun D hD => ?_⟩
      have Dp := pen1.fresh hD
      refine lc_range (lo := 0) (n := (998 : Int).toNat) (fun i H' => ∃ xs : List Int, PenAt (140 + i) H' p q ∧ Mv p H1 H' ∧ H' D = some (.lst (xs.map V.int)) ∧ xs.length = i ∧ ∀ x ∈ xs, 0 ≤ x ∧ x ≤ 1) ⟨[], pen1.new hD, Mv.new hD, upd_same, rfl, fun _ z => by cases z⟩ (fun i H' hi q5 => ?_) (fun H' q5 => ?_)
      · obtain ⟨xs, pi, mi, hd, xl, xf⟩ := q5
        refine ⟨rfl, ?_⟩
        refine iteT (B := ∃ xs : List Int, PenAt (140 + (i + 1)) H' p q ∧ Mv p H1 H' ∧ H' D = some (.lst (xs.map V.int)) ∧ xs.length = i + 1 ∧ ∀ x ∈ xs, 0 ≤ x ∧ x ≤ 1) ?_
        refine ⟨_, rfl, 140 + i, p, q, 2, rfl, pi, by omega, by decide, small_log (by decide) (by decide), fun H5 x p6 m6 x0 x1 => ?_⟩
        refine ⟨_, m6 _ _ Dp.1 hd, by rw [List.length_map, xl]; omega, xs ++ [x], p6.put Dp.1 Dp.2, fun b o nb e => ?_, by rw [upd_same, List.map_append]; rfl, by rw [List.length_append, xl]; rfl, fun y hy => ?_⟩
        · have ne : b ≠ D := fun z => by rw [z, hD] at e; cases e
          rw [upd_ne ne]
          exact m6 _ _ nb (mi _ _ nb e)
        · rcases List.mem_append.mp hy with h | h
          · exact xf y h
          · rw [List.mem_singleton.mp h]
            omega
      · obtain ⟨xs, pi, mi, hd, xl, xf⟩ := q5
        obtain ⟨ys, hpl⟩ := pen1.lst
        exact ⟨D, xs, _, rfl, tabs_mv hpl mi tabs1, hd, xl, xf⟩
    rintro σ' H2 ⟨gl, great, v8, rfl, tabs2, hgl, g998, gfit⟩
    obtain ⟨tl1, fo1⟩ := form_late g998 gfit
    obtain ⟨tl2, fo2⟩ := form_wide g998 gfit
    refine ⟨fun σ' H' => ∃ x1 x2 : Addr, σ' = [some (.ref a), some (.ref p), v2, some (.ref gl), none, none, some (.ref x1), some (.ref x2), v8] ∧ Same H2 H' ∧ TabAt CT H' x1 1000 1 (nums (atW ([0] ++ great ++ [1, 0]) 1000 1) (1000 + 1)) ∧ TabAt CT H' x2 0 1000 (nums (atW ([0] ++ great ++ [2]) 0 1000) (0 + 1000)), ?_, ?_⟩
    · refine tabN_box (fun R k => row_box rfl hgl (by omega) (tail := [1, 0]) (by decide) (fun H R k => k) fun H' l s h => k H' l s (.inl h)) (a := 1000) (n := 1) rfl rfl tl1 rfl (by decide) (by decide) fun H3 x1 b1 q1 s3 f1 le1 at1 => ?_
      obtain ⟨rfl, rfl⟩ := fo1.uniq f1
      refine tabN_box (fun R k => row_box rfl (s3 _ _ hgl) (by omega) (tail := [2]) (by decide) (fun H R k => k) fun H' l s h => k H' l s (.inl h)) (a := 0) (n := 1000) rfl rfl tl2 rfl (by decide) (by decide) fun H4 x2 b2 q2 s4 f2 le2 at2 => ?_
      obtain ⟨rfl, rfl⟩ := fo2.uniq f2
      exact ⟨_, _, rfl, x1, x2, rfl, s3.trans s4, at1.same s4, at2⟩
    rintro σ' H3 ⟨x1, x2, rfl, s3, ⟨dx1, t1, h1, _⟩, ⟨dx2, t2, h2, h2t⟩⟩
    have tabs3 := tabs2.ext s3
    have hgl3 := s3 _ _ hgl
    have len2 : LenV K (.ref t2) H3 1000 := by
      have q := SeqAt2.len (K := K) (.inr h2t)
      rw [List.length_map, nums_len] at q
      exact q
    refine ⟨_, rfl, x1, CT, dx1, _, _, rfl, h1, TC.cl, TC.nBegin, tfs_b _ _ _, _, rfl, x1, CT, dx1, _, _, rfl, h1, TC.cl, TC.nPeriod, tfs_p _ _ _, _, rfl, x2, CT, dx2, _, _, rfl, h2, TC.cl, TC.nBegin, tfs_b _ _ _, _, rfl, x2, CT, dx2, _, _, rfl, h2, TC.cl, TC.nPeriod, tfs_p _ _ _, ?_⟩
    refine ⟨_, rfl, x2, CT, dx2, _, _, rfl, h2, TC.cl, TC.nNumbers, tfs_n _ _ _, _, _, rfl, len2, ?_⟩
    refine ⟨by show 5 ≤ sizeLine; omega, fun la hla => ⟨by show 5 ≤ sizeLine; omega, fun lb hlb => ?_⟩⟩
    refine ne_ints (xs := [1000, 1, 0, 1000, 1000]) (ys := [1000, 1, 0, 1000, 1000]) (Same.new hlb _ _ upd_same) upd_same ⟨_, rfl, ?_⟩
    rw [decide_eq_true rfl]
    refine iteF ?_
    have sab := (Same.new (o := .lst [V.int ((1000 : Nat) : Int), .int ((1 : Nat) : Int), .int ((0 : Nat) : Int), .int ((1000 : Nat) : Int), .int ((1000 : Nat) : Int)]) hla).trans (Same.new (o := .lst [V.int 1000, .int 1, .int 0, .int 1000, .int 1000]) hlb)
    have tabs4 := tabs3.ext sab
    have hgl4 := sab _ _ hgl3
    have d1 : ∀ o, dueT (.int 1001) (.int 1) o = some "begin" := fun o => by
      unfold dueT
      rw [show numV 0 1000 (.int 1001) = false from by decide]
      rfl
    have d2 : ∀ o, dueT (.int 0) (.int 1001) o = some "period" := fun o => by
      unfold dueT
      rw [show numV 0 1000 (.int 0) = true from by decide, show numV 1 1000 (.int 1001) = false from by decide]
      rfl
    have kds : ∀ (H : Hp) (tail : List Int) (xs : List V), tail.length ≤ 10 → some (([0] ++ great ++ tail).map V.int) = some xs → xs.length ≤ 3000 ∧ ∀ y ∈ xs, Kd H y := fun H tail xs l e => by
      cases e
      refine ⟨by rw [List.length_map, List.length_append, List.length_append]; show 1 + _ + _ ≤ 3000; omega, fun y hy => ?_⟩
      obtain ⟨i, _, rfl⟩ := List.mem_map.mp hy
      exact True.intro
    refine ⟨fun σ' H' => ∃ td, σ' = [some (.ref a), some (.ref p), v2, some (.ref gl), some (.ref td), none, some (.ref x1), some (.ref x2), v8] ∧ HeardAt TL H3 td [V.str "begin"] H', ?_, ?_⟩
    · refine heard_tab (b := .int 1001) (p := .int 1) (due := some "begin") tabs4 (fun H' e R k => row_box rfl (e _ _ hgl4 fun _ z => nomatch z) (by omega) (tail := [1, 1, 0]) (by decide) (fun H R k => k) fun H'' l s h => k H'' (.ref l) (some (([0] ++ great ++ [1, 1, 0]).map V.int)) s ⟨l, rfl, .inl h⟩ (fun xs e => kds _ _ xs (by decide) e) True.intro True.intro (d1 _)) fun H' e tb => ?_
      exact ⟨by show 1 ≤ sizeLine; omega, fun td htd => ⟨td, rfl, .first ((LamX.ExtN.of sab).trans e) tb htd⟩⟩
    rintro σ' H5 ⟨td, rfl, h5⟩
    refine ⟨fun σ' H' => σ' = [some (.ref a), some (.ref p), v2, some (.ref gl), some (.ref td), none, some (.ref x1), some (.ref x2), v8] ∧ H' td = some (.lst [V.str "begin", .str "period"]), ?_, ?_⟩
    · refine ⟨_, rfl, .inl ⟨rfl, _, SqL.of h5.at_⟩, ?_⟩
      refine heard_tab (b := .int 0) (p := .int 1001) (due := some "period") h5.tabs (fun H' e R k => row_box rfl (e _ _ (h5.ext _ _ hgl3 fun _ z => nomatch z) fun _ z => nomatch z) (by omega) (tail := [1, 2]) (by decide) (fun H R k => k) fun H'' l s h => k H'' (.ref l) (some (([0] ++ great ++ [1, 2]).map V.int)) s ⟨l, rfl, .inl h⟩ (fun xs e => kds _ _ xs (by decide) e) True.intro True.intro (d2 _)) fun H' e tb => ?_
      obtain ⟨at_, h6⟩ := h5.app (y := V.str "period") e tb
      exact ⟨td, _, _, rfl, rfl, at_, by show 1 < sizeLine; omega, rfl, h6.at_⟩
    rintro σ' H6 ⟨rfl, htd⟩
    have flat1 : (List.replicate (1999 : Int).toNat [V.int 0]).flatten = List.replicate 1999 (V.int 0) := List.flatten_replicate_singleton
    refine ⟨fun σ' H' => ∃ x3, σ' = [some (.ref a), some (.ref p), v2, some (.ref gl), some (.ref td), some (.ref x3), some (.ref x1), some (.ref x2), v8] ∧ Same H6 H' ∧ TabAt CT H' x3 1000 1000 fullR, ?_, ?_⟩
    · refine tabN_box (row := fullR) (fun R k => ⟨by show 1 ≤ sizeLine; omega, fun l1 g1 => ⟨l1, _, _, rfl, rfl, upd_same, by decide, by decide, by show 1 * 1999 ≤ sizeLine; omega, fun l2 g2 => ⟨by show 1 ≤ sizeLine; omega, fun l3 g3 => ⟨l2, l3, _, _, rfl, rfl, Same.new g3 _ _ upd_same, upd_same, by
        rw [flat1, List.length_replicate]
        show 1999 + 1 ≤ sizeLine
        omega, fun l4 g4 => k _ l4 (((Same.new g1).trans (Same.new g2)).trans ((Same.new g3).trans (Same.new g4))) (.inl (by
        rw [upd_same, flat1]
        unfold fullR
        rw [List.map_append, List.map_replicate]
        rfl))⟩⟩⟩⟩) (a := 1000) (n := 1000) rfl rfl form_full.1 rfl (by decide) (by decide) fun H7 x3 b3 q3 s7 f3 le3 at3 => ?_
      obtain ⟨rfl, rfl⟩ := form_full.2.uniq f3
      rw [full_nums] at at3
      exact ⟨x3, rfl, s7, at3⟩
    rintro σ' H7 ⟨x3, rfl, s7, ⟨dx3, t3, h3, h3t⟩⟩
    have htd7 := s7 _ _ htd
    refine ⟨_, rfl, x3, CT, dx3, _, _, rfl, h3, TC.cl, TC.nBegin, tfs_b _ _ _, _, rfl, x3, CT, dx3, _, _, rfl, h3, TC.cl, TC.nPeriod, tfs_p _ _ _, _, rfl, x3, CT, dx3, _, _, rfl, h3, TC.cl, TC.nNumbers, tfs_n _ _ _, _, rfl, _, _, rfl, SqT.of h3t, fun z => ?_, fun l1 g1 => ?_⟩
    · have z1 := z.1
      rw [show (1998 : Int) = ((1998 : Nat) : Int) from rfl, HT.sIx_nat, List.length_map, form_full.1.len] at z1
      revert z1
      decide
    have ec : cutV (fullR.map V.int) (some (1998 : Int)) none = [V.int 0, .int 1] := full_cut
    rw [ec]
    have u1 := Same.new (o := .tup [V.int 0, .int 1]) g1
    refine ⟨by show 3 ≤ sizeLine; omega, fun l2 g2 => ⟨by show 2 ≤ sizeLine; omega, fun l3 g3 => ⟨by show 3 ≤ sizeLine; omega, fun l4 g4 => ?_⟩⟩⟩
    have u2 := Same.new (o := .lst [V.int ((1000 : Nat) : Int), .int ((1000 : Nat) : Int), .ref l1]) g2
    have u3 := Same.new (o := .tup [V.int 0, .int 1]) g3
    have u4 := Same.new (o := .lst [V.int 1000, .int 1000, .ref l3]) g4
    refine ⟨.list [.int 1000, .int 1000, .tuple [.int 0, .int 1]], .list [.int 1000, .int 1000, .tuple [.int 0, .int 1]], Dp.lst (SqL.of (u4 _ _ (u3 _ _ upd_same))) (.cons (.int _) (.cons (.int _) (.cons (Dp.tup (SqT.of (u4 _ _ (u3 _ _ (u2 _ _ upd_same)))) (.cons (.int _) (.cons (.int _) .nil))) .nil))), Dp.lst (SqL.of upd_same) (.cons (.int _) (.cons (.int _) (.cons (Dp.tup (SqT.of (u4 _ _ upd_same)) (.cons (.int _) (.cons (.int _) .nil))) .nil))), by decide +kernel, by decide +kernel, ?_⟩
    rw [show PyData.eqv (.list [.int 1000, .int 1000, .tuple [.int 0, .int 1]]) (.list [.int 1000, .int 1000, .tuple [.int 0, .int 1]]) = true from by decide +kernel]
    refine ⟨_, rfl, iteF ?_⟩
    have s14 := ((u1.trans u2).trans u3).trans u4
    have htd8 := s14 _ _ htd7
    -- unlike
    refine tabN_box (row := [0, 1]) (fun R k => ⟨by show 2 ≤ sizeLine; omega, fun l g => k _ l (Same.new g) (.inl upd_same)⟩) (a := 0) (n := 2) rfl rfl form_02.1 rfl (by decide) (by decide) fun H9 y1 b1 q1 s9 f1 le1 at1 => ?_
    obtain ⟨rfl, rfl⟩ := form_02.2.uniq f1
    refine tabN_box (row := [0, 1]) (fun R k => ⟨by show 2 ≤ sizeLine; omega, fun l g => k _ l (Same.new g) (.inl upd_same)⟩) (a := 1) (n := 1) rfl rfl form_11.1 rfl (by decide) (by decide) fun H10 y2 b2 q2 s10 f2 le2 at2 => ?_
    obtain ⟨rfl, rfl⟩ := form_11.2.uniq f2
    refine eqT_is TC tyT (at1.same s10) at2 ⟨_, rfl, ?_⟩
    rw [decide_eq_false (fun z => absurd z.1 (by decide))]
    refine iteF ?_
    refine tabN_box (row := [0, 1]) (fun R k => ⟨by show 2 ≤ sizeLine; omega, fun l g => k _ l (Same.new g) (.inl upd_same)⟩) (a := 1) (n := 1) rfl rfl form_11.1 rfl (by decide) (by decide) fun H11 y3 b3 q3 s11 f3 le3 at3 => ?_
    obtain ⟨rfl, rfl⟩ := form_11.2.uniq f3
    refine tabN_box (row := [0, 1]) (fun R k => ⟨by show 2 ≤ sizeLine; omega, fun l g => k _ l (Same.new g) (.inl upd_same)⟩) (a := 0) (n := 2) rfl rfl form_02.1 rfl (by decide) (by decide) fun H12 y4 b4 q4 s12 f4 le4 at4 => ?_
    obtain ⟨rfl, rfl⟩ := form_02.2.uniq f4
    refine eqT_is TC tyT (at3.same s12) at4 ⟨_, rfl, ?_⟩
    rw [decide_eq_false (fun z => absurd z.1 (by decide))]
    refine iteF ?_
    have htd12 := s12 _ _ (s11 _ _ (s10 _ _ (s9 _ _ htd8)))
    refine ⟨_, rfl, by show 2 ≤ sizeLine; omega, fun l5 g5 => ?_⟩
    have u5 := Same.new (o := .lst [V.str "begin", .str "period"]) g5
    refine ⟨.list [.str "begin", .str "period"], .list [.str "begin", .str "period"], Dp.lst (SqL.of (u5 _ _ htd12)) (.cons (.str _) (.cons (.str _) .nil)), Dp.lst (SqL.of upd_same) (.cons (.str _) (.cons (.str _) .nil)), by decide +kernel, by decide +kernel, ?_⟩
    rw [show PyData.eqv (.list [.str "begin", .str "period"]) (.list [.str "begin", .str "period"]) = true from by decide +kernel]
    refine ⟨_, rfl, iteT ?_⟩
    obtain ⟨um, most⟩ := mostT
    refine ⟨_, _, _, _, rfl, rdT, most, rfl, _, rfl, ?_⟩
    rw [decide_eq_true rfl]
    refine iteT ?_
    refine tabN_box (row := List.replicate 9 0) (fun R k => ⟨by show 1 ≤ sizeLine; omega, fun l1 g1 => ⟨l1, _, _, rfl, rfl, upd_same, by decide, by decide, by show 1 * 9 ≤ sizeLine; omega, fun l2 g2 => k _ l2 ((Same.new g1).trans (Same.new g2)) (.inl (by rw [upd_same]; rfl))⟩⟩) (a := 3) (n := 6) rfl rfl form_0.1 rfl (by decide) (by decide) fun H13 y5 b5 q5 s13 f5 le5 at5 => ?_
    obtain ⟨rfl, rfl⟩ := form_0.2.uniq f5
    refine ⟨y5, 0, 1, _, rfl, at5, fun H14 u1 s14 fu => ?_⟩
    refine ⟨by show 1 ≤ sizeLine; omega, fun t1 ht1 => ⟨by show 3 ≤ sizeLine; omega, fun t2 ht2 => ?_⟩⟩
    refine eq_form ((fu.same (Same.new ht1)).same (Same.new ht2)) (b' := 0) (p' := 1) (ms := [0]) ⟨t1, upd_same, Same.new ht2 _ _ upd_same⟩ ?_
    rw [decide_eq_true (show 0 = 0 ∧ 1 = 1 ∧ nums (atW (List.replicate 9 0) 3 6) (0 + 1) = [0] from ⟨rfl, rfl, rfl⟩)]
    exact fin _
end

end Fz
set_option Elab.async false
set_option linter.all false
set_option maxRecDepth 100000
set_option maxHeartbeats 2000000
namespace Fz
open PySem PySem.Spec PyProof.Rows L2
/-- one step of a reading -/
local macro_rules | `(tactic| walk_at "st") => `(tactic| first
  | refine ⟨_, rfl, ?_⟩
  | refine Or.inl ⟨_, rfl, ?_⟩
  | refine Or.inr ⟨_, rfl, ?_⟩
  | refine ⟨_, _, _, _, rfl, rfl, SqL.of (by first | assumption | exact upd_same), rfl, ?_⟩
  | refine ⟨_, _, _, _, rfl, rfl, (by first | assumption | exact upd_same), rfl, ?_⟩
  | refine ⟨_, _, rfl, .inl ⟨_, SqL.of (by first | assumption | exact upd_same), rfl⟩, ?_⟩
  | refine ⟨_, _, rfl, rfl, (show (0 : Int) < _ by first | decide | omega), ?_⟩
  | refine ⟨_, _, rfl, rfl, (show (0 : Int) < _ ∧ _ < _ by first | exact ⟨by decide, by decide⟩ | omega), ?_⟩
  | refine ⟨_, _, rfl, rfl, (show (_ < _ ∧ _ < _) ∨ (_ < _ ∧ _ < _) by first | exact .inl ⟨by decide, by decide⟩ | omega), ?_⟩
  | refine ⟨_, _, rfl, rfl, (show (0 : Int) ≤ _ ∧ _ ≤ _ ∧ _ < _ by first | exact ⟨by decide, by decide, by decide⟩ | exact ⟨by decide, by decide, by omega⟩), ?_⟩
  | refine ⟨_, _, rfl, rfl, ?_⟩)

theorem kbT {K : PySem.W.Frag} {f : Addr} {fd : FuncData} (F : Fun K "__init__" "Table.__init__" s_ti f fd) : KBn K fd ["self", "begin", "period", "numbers"] 1 ["numbers", "period", "begin"] (fun us ws => us ++ ws.reverse) (fun vs zs => vs ++ zs.reverse) := by
  obtain ⟨oc, od, kV, doc, pm, an, cdv, ct, osl, rfl, lk, hcd⟩ := F.ex
  exact ⟨fun s us ws _ l1 l2 => match us, l1, ws, l2 with | [_], _, [_, _, _], _ => .of_eq rfl, fun r1 r2 => r1.append r2.reverse⟩
theorem all_mk {l : PySem.W.OpenLaw} {w : World} {K : PySem.W.Frag} {h : Heap} {mg mb : Str → Option Value} {fa : Addr} {qp : Program} {lo : List Str} {mean : ExcName → Option Value} (X : K.In h) (Tp : Top qp lo mean mg mb h) (hfa : mg "law" = some (.ref fa)) {dRf : DefRec} (hrRf : (recsOf qp).find? (fun e : DefRec => e.name == ("_law_refused_right" : Str)) = some dRf) {dL : DefRec} (hrL : (recsOf qp).find? (fun e : DefRec => e.name == ("law" : Str)) = some dL)
    {kodRf PRf kodL PL : Addr}
    {CT : Addr}
    {CB : Addr}
    {CX : Addr}
    {fN : Addr}
    {odN anN : Option Addr} {slN : Array (Option Value)} {ocN kVN dcN pmN cdN ctN : Value}
    {fCr : Addr}
    {odCr anCr : Option Addr} {slCr : Array (Option Value)} {ocCr kVCr dcCr pmCr cdCr ctCr : Value}
    {fLp : Addr}
    {odLp anLp : Option Addr} {slLp : Array (Option Value)} {ocLp kVLp dcLp pmLp cdLp ctLp : Value}
    {fLf : Addr}
    {odLf anLf : Option Addr} {slLf : Array (Option Value)} {ocLf kVLf dcLf pmLf cdLf ctLf : Value}
    {fPn : Addr}
    {odPn anPn : Option Addr} {slPn : Array (Option Value)} {ocPn kVPn dcPn pmPn cdPn ctPn : Value}
    {fD : Addr}
    {odD anD : Option Addr} {slD : Array (Option Value)} {ocD kVD dcD pmD cdD ctD : Value}
    {fPk : Addr}
    {odPk anPk : Option Addr} {slPk : Array (Option Value)} {ocPk kVPk dcPk pmPk cdPk ctPk : Value}
    {fTo : Addr}
    {odTo anTo : Option Addr} {slTo : Array (Option Value)} {ocTo kVTo dcTo pmTo cdTo ctTo : Value}
    {fAt : Addr}
    {odAt anAt : Option Addr} {slAt : Array (Option Value)} {ocAt kVAt dcAt pmAt cdAt ctAt : Value}
    {fLe : Addr}
    {odLe anLe : Option Addr} {slLe : Array (Option Value)} {ocLe kVLe dcLe pmLe cdLe ctLe : Value}
    {fSh : Addr}
    {odSh anSh : Option Addr} {slSh : Array (Option Value)} {ocSh kVSh dcSh pmSh cdSh ctSh : Value}
    {fHd : Addr}
    {odHd anHd : Option Addr} {slHd : Array (Option Value)} {ocHd kVHd dcHd pmHd cdHd ctHd : Value}
    {fFo : Addr}
    {odFo anFo : Option Addr} {slFo : Array (Option Value)} {ocFo kVFo dcFo pmFo cdFo ctFo : Value}
    {fRf : Addr}
    {odRf anRf : Option Addr} {slRf : Array (Option Value)} {ocRf kVRf dcRf pmRf  ctRf : Value}
    {fBt : Addr}
    {odBt anBt : Option Addr} {slBt : Array (Option Value)} {ocBt kVBt dcBt pmBt cdBt ctBt : Value}
    {fTi : Addr}
    {odTi anTi : Option Addr} {slTi : Array (Option Value)} {ocTi kVTi dcTi pmTi cdTi ctTi : Value}
    {fEq : Addr}
    {odEq anEq : Option Addr} {slEq : Array (Option Value)} {ocEq kVEq dcEq pmEq cdEq ctEq : Value}
    {fSt : Addr}
    {odSt anSt : Option Addr} {slSt : Array (Option Value)} {ocSt kVSt dcSt pmSt cdSt ctSt : Value}
    {t_CT_MOST : Tok}
    {tMO : Tok}
    {tMW : Tok}
    {nmCB q_CB : Str} {N_CB : Addr} {bsCB bmCB : List Value} {snCB : List Str} {subCB : List Value} {abCB : Bool} {colCB : Option Bool} {ddCB : Option Addr} {m0CB m1CB m2CB m3CB m5CB : Option Value}
    {fL : Addr}
    {odL anL : Option Addr} {slL : Array (Option Value)} {ocL kVL dcL pmL  ctL : Value}
    {occRf : Value} {odccRf : Option Addr} {vscRf : Array Value} {slccRf : Array (Option Value)}
    {occL : Value} {odccL : Option Addr} {vscL : Array Value} {slccL : Array (Option Value)}
    (gT : PySem.W.nsIn K mainGlobals "Table" = some (some (.ref CT)))
    (gB : PySem.W.nsIn K mainGlobals "BadTable" = some (some (.ref CB)))
    (gX : PySem.W.nsIn K mainGlobals "FreeError" = some (some (.ref CX)))
    (aN : PySem.W.nsIn K mainGlobals "is_number" = some (some (.ref fN)))
    (lN : K.lookup fN = some ⟨ocN, odN, .func (PySem.W.fnOf "is_number" "is_number" (defArgs s_is_number) (defBody s_is_number) (defScope s_is_number) .none kVN dcN pmN anN cdN ctN), slN⟩)
    (cN : PySem.W.codeIn K cdN "is_number" = true)
    (kN : PySem.W.keepIn K (.ref fN) = true)
    (aCr : PySem.W.nsIn K mainGlobals "check_row" = some (some (.ref fCr)))
    (lCr : K.lookup fCr = some ⟨ocCr, odCr, .func (PySem.W.fnOf "check_row" "check_row" (defArgs s_cr) (defBody s_cr) (defScope s_cr) .none kVCr dcCr pmCr anCr cdCr ctCr), slCr⟩)
    (cCr : PySem.W.codeIn K cdCr "check_row" = true)
    (kCr : PySem.W.keepIn K (.ref fCr) = true)
    (aLp : PySem.W.nsIn K mainGlobals "least_period" = some (some (.ref fLp)))
    (lLp : K.lookup fLp = some ⟨ocLp, odLp, .func (PySem.W.fnOf "least_period" "least_period" (defArgs s_lp) (defBody s_lp) (defScope s_lp) .none kVLp dcLp pmLp anLp cdLp ctLp), slLp⟩)
    (cLp : PySem.W.codeIn K cdLp "least_period" = true)
    (kLp : PySem.W.keepIn K (.ref fLp) = true)
    (aLf : PySem.W.nsIn K mainGlobals "least_form" = some (some (.ref fLf)))
    (lLf : K.lookup fLf = some ⟨ocLf, odLf, .func (PySem.W.fnOf "least_form" "least_form" (defArgs s_lf) (defBody s_lf) (defScope s_lf) .none kVLf dcLf pmLf anLf cdLf ctLf), slLf⟩)
    (cLf : PySem.W.codeIn K cdLf "least_form" = true)
    (kLf : PySem.W.keepIn K (.ref fLf) = true)
    (aPn : PySem.W.nsIn K mainGlobals "_law_pen" = some (some (.ref fPn)))
    (lPn : K.lookup fPn = some ⟨ocPn, odPn, .func (PySem.W.fnOf "_law_pen" "_law_pen" (defArgs s_pen) (defBody s_pen) (defScope s_pen) .none kVPn dcPn pmPn anPn cdPn ctPn), slPn⟩)
    (cPn : PySem.W.codeIn K cdPn "_law_pen" = true)
    (kPn : PySem.W.keepIn K (.ref fPn) = true)
    (aD : PySem.W.nsIn K mainGlobals "_law_draw" = some (some (.ref fD)))
    (lD : K.lookup fD = some ⟨ocD, odD, .func (PySem.W.fnOf "_law_draw" "_law_draw" (defArgs s_draw) (defBody s_draw) (defScope s_draw) .none kVD dcD pmD anD cdD ctD), slD⟩)
    (cD : PySem.W.codeIn K cdD "_law_draw" = true)
    (kD : PySem.W.keepIn K (.ref fD) = true)
    (aPk : PySem.W.nsIn K mainGlobals "_law_pick" = some (some (.ref fPk)))
    (lPk : K.lookup fPk = some ⟨ocPk, odPk, .func (PySem.W.fnOf "_law_pick" "_law_pick" (defArgs s_pick) (defBody s_pick) (defScope s_pick) .none kVPk dcPk pmPk anPk cdPk ctPk), slPk⟩)
    (cPk : PySem.W.codeIn K cdPk "_law_pick" = true)
    (kPk : PySem.W.keepIn K (.ref fPk) = true)
    (aTo : PySem.W.nsIn K mainGlobals "_law_told" = some (some (.ref fTo)))
    (lTo : K.lookup fTo = some ⟨ocTo, odTo, .func (PySem.W.fnOf "_law_told" "_law_told" (defArgs s_told) (defBody s_told) (defScope s_told) .none kVTo dcTo pmTo anTo cdTo ctTo), slTo⟩)
    (cTo : PySem.W.codeIn K cdTo "_law_told" = true)
    (kTo : PySem.W.keepIn K (.ref fTo) = true)
    (aAt : PySem.W.nsIn K mainGlobals "_law_at" = some (some (.ref fAt)))
    (lAt : K.lookup fAt = some ⟨ocAt, odAt, .func (PySem.W.fnOf "_law_at" "_law_at" (defArgs s_at) (defBody s_at) (defScope s_at) .none kVAt dcAt pmAt anAt cdAt ctAt), slAt⟩)
    (cAt : PySem.W.codeIn K cdAt "_law_at" = true)
    (kAt : PySem.W.keepIn K (.ref fAt) = true)
    (aLe : PySem.W.nsIn K mainGlobals "_law_least" = some (some (.ref fLe)))
    (lLe : K.lookup fLe = some ⟨ocLe, odLe, .func (PySem.W.fnOf "_law_least" "_law_least" (defArgs s_least) (defBody s_least) (defScope s_least) .none kVLe dcLe pmLe anLe cdLe ctLe), slLe⟩)
    (cLe : PySem.W.codeIn K cdLe "_law_least" = true)
    (kLe : PySem.W.keepIn K (.ref fLe) = true)
    (aSh : PySem.W.nsIn K mainGlobals "_law_shown" = some (some (.ref fSh)))
    (lSh : K.lookup fSh = some ⟨ocSh, odSh, .func (PySem.W.fnOf "_law_shown" "_law_shown" (defArgs s_shown) (defBody s_shown) (defScope s_shown) .none kVSh dcSh pmSh anSh cdSh ctSh), slSh⟩)
    (cSh : PySem.W.codeIn K cdSh "_law_shown" = true)
    (kSh : PySem.W.keepIn K (.ref fSh) = true)
    (aHd : PySem.W.nsIn K mainGlobals "_law_heard" = some (some (.ref fHd)))
    (lHd : K.lookup fHd = some ⟨ocHd, odHd, .func (PySem.W.fnOf "_law_heard" "_law_heard" (defArgs s_heard) (defBody s_heard) (defScope s_heard) .none kVHd dcHd pmHd anHd cdHd ctHd), slHd⟩)
    (cHd : PySem.W.codeIn K cdHd "_law_heard" = true)
    (kHd : PySem.W.keepIn K (.ref fHd) = true)
    (aFo : PySem.W.nsIn K mainGlobals "_law_forms_right" = some (some (.ref fFo)))
    (lFo : K.lookup fFo = some ⟨ocFo, odFo, .func (PySem.W.fnOf "_law_forms_right" "_law_forms_right" (defArgs s_forms) (defBody s_forms) (defScope s_forms) .none kVFo dcFo pmFo anFo cdFo ctFo), slFo⟩)
    (cFo : PySem.W.codeIn K cdFo "_law_forms_right" = true)
    (kFo : PySem.W.keepIn K (.ref fFo) = true)
    (aRf : PySem.W.nsIn K mainGlobals "_law_refused_right" = some (some (.ref fRf)))
    (lRf : K.lookup fRf = some ⟨ocRf, odRf, .func (PySem.W.fnOf "_law_refused_right" "_law_refused_right" (defArgs s_refused) (defBody s_refused) (defScope s_refused) .none kVRf dcRf pmRf anRf (.ref kodRf) ctRf), slRf⟩)
    (cRf : PySem.W.codeIn K (.ref kodRf) "_law_refused_right" = true)
    (kRf : PySem.W.keepIn K (.ref fRf) = true)
    (aBt : PySem.W.findIn K (.ref CB) "__init__" = some (some (.ref fBt)))
    (lBt : K.lookup fBt = some ⟨ocBt, odBt, .func (PySem.W.fnOf "__init__" "BadTable.__init__" (defArgs s_bt) (defBody s_bt) (defScope s_bt) .none kVBt dcBt pmBt anBt cdBt ctBt), slBt⟩)
    (cBt : PySem.W.codeIn K cdBt "BadTable.__init__" = true)
    (kBt : PySem.W.keepIn K (.ref fBt) = true)
    (aTi : PySem.W.findIn K (.ref CT) "__init__" = some (some (.ref fTi)))
    (lTi : K.lookup fTi = some ⟨ocTi, odTi, .func (PySem.W.fnOf "__init__" "Table.__init__" (defArgs s_ti) (defBody s_ti) (defScope s_ti) .none kVTi dcTi pmTi anTi cdTi ctTi), slTi⟩)
    (cTi : PySem.W.codeIn K cdTi "Table.__init__" = true)
    (kTi : PySem.W.keepIn K (.ref fTi) = true)
    (aEq : PySem.W.findIn K (.ref CT) "__eq__" = some (some (.ref fEq)))
    (lEq : K.lookup fEq = some ⟨ocEq, odEq, .func (PySem.W.fnOf "__eq__" "Table.__eq__" (defArgs s_eqT) (defBody s_eqT) (defScope s_eqT) .none kVEq dcEq pmEq anEq cdEq ctEq), slEq⟩)
    (cEq : PySem.W.codeIn K cdEq "Table.__eq__" = true)
    (kEq : PySem.W.keepIn K (.ref fEq) = true)
    (aSt : PySem.W.findIn K (.ref CT) "__str__" = some (some (.ref fSt)))
    (lSt : K.lookup fSt = some ⟨ocSt, odSt, .func (PySem.W.fnOf "__str__" "Table.__str__" (defArgs s_strT) (defBody s_strT) (defScope s_strT) .none kVSt dcSt pmSt anSt cdSt ctSt), slSt⟩)
    (cSt : PySem.W.codeIn K cdSt "Table.__str__" = true)
    (kSt : PySem.W.keepIn K (.ref fSt) = true)
    (iFEq : PySem.W.isFn K (.ref fEq) = true)
    (iFSt : PySem.W.isFn K (.ref fSt) = true)
    (neCT : PySem.W.findIn K (.ref CT) "__ne__" = some (some (.builtin "object.__ne__")))
    (tyCT : PySem.W.typeIn K (.ref CT) = some (.type "type"))
    (rdCT : PySem.W.readsIn K CT (.type "type") = true)
    (gaCT : PySem.W.specialIn K (.ref CT) "__getattribute__" = some (some (.builtin "type.__getattribute__")))
    (pgCT : PySem.W.plainGet K CT Str.empty = true)
    (hdCT : PySem.W.hasDictIn K CT = true)
    (poCT : PySem.W.plainOver K CT = true)
    (saCT : PySem.W.findIn K (.ref CT) "__setattr__" = some (some (.builtin "object.__setattr__")))
    (nbeginCT : PySem.W.findIn K (.ref CT) "begin" = some none)
    (nperiodCT : PySem.W.findIn K (.ref CT) "period" = some none)
    (nnumbersCT : PySem.W.findIn K (.ref CT) "numbers" = some none)
    (haCT : PySem.W.findIn K (.ref CT) "__class__" = some (some (.builtin "object.__class__")))
    (hn : PySem.W.specialIn K (.builtin "object.__class__") "__get__" = some (some (.builtin "getset_descriptor.__get__")))
    (htk : PySem.W.takesIn K (.builtin "object.__class__") = some true)
    (hmCT : PySem.W.mroIn K CT (.type "object") = some true)
    (mkCT : PySem.W.makesIn K CT = true)
    (kpCT : PySem.W.keepIn K (.ref CT) = true)
    (iFTi : PySem.W.isFn K (.ref fTi) = true)
    (m_CT_MOST : PySem.W.findCls K (.ref CT) (.type "type") "MOST" = some (.val (.int 1000 t_CT_MOST)))
    (kt_CT_CT : PySem.W.kitOne K (.ref CT) (.ref CT) = some true)
    (gMO : PySem.W.nsIn K mainGlobals "MOST" = some (some (.int 1000 tMO)))
    (gMW : PySem.W.nsIn K mainGlobals "MOST_WORTH" = some (some (.int 400 tMW)))
    (xBCB : K.lookup CB = some (excClassObj nmCB q_CB CB N_CB bsCB bmCB true snCB subCB abCB colCB ddCB m0CB m1CB m2CB m3CB m5CB "ValueError.__new__"))
    (rBCB : PySem.HandSPX.refsVE bmCB = true)
    (saCB : PySem.W.findIn K (.ref CB) "__setattr__" = some (some (.builtin "object.__setattr__")))
    (exCB : PySem.W.subIn K (.ref CB) (.type "BaseException") = some true)
    (tyCB : PySem.W.typeIn K (.ref CB) = some (.type "type"))
    (kpCB : PySem.W.keepIn K (.ref CB) = true)
    (npCB : PySem.W.findIn K (.ref CB) "part" = some none)
    (tfCB : PySem.W.typeIn K (.ref fBt) = some (.type "function"))
    (gaCB : PySem.W.findIn K (.ref CB) "__getattribute__" = some (some (.builtin "BaseException.__getattribute__")))
    (ggCB : PySem.W.findIn K (.ref CB) "__getattr__" = some none)
    (hdCB : PySem.W.hasDictIn K CB = true)
    (haCB : PySem.W.findIn K (.ref CB) "__class__" = some (some (.builtin "object.__class__")))
    (hmCB : PySem.W.mroIn K CB (.type "object") = some true)
    (exCX : PySem.W.subIn K (.ref CX) (.type "BaseException") = some true)
    (hdCX : PySem.W.hasDictIn K CX = true)
    (tyCX : PySem.W.typeIn K (.ref CX) = some (.type "type"))
    (s_CB_CX : PySem.W.subIn K (.ref CB) (.ref CX) = some true)
    (kt_CB_CB : PySem.W.kitOne K (.ref CB) (.ref CB) = some true)
    (kVE : PySem.W.kitOne K (.ref CB) (.type "ValueError") = some true)
    (z_VE : PySem.W.nsIn K mainGlobals "ValueError" = some none)
    (z_int : PySem.W.nsIn K mainGlobals "int" = some none)
    (z_len : PySem.W.nsIn K mainGlobals "len" = some none)
    (z_abs : PySem.W.nsIn K mainGlobals "abs" = some none)
    (z_list : PySem.W.nsIn K mainGlobals "list" = some none)
    (z_range : PySem.W.nsIn K mainGlobals "range" = some none)
    (z_isinstance : PySem.W.nsIn K mainGlobals "isinstance" = some none)
    (z_repr : PySem.W.nsIn K mainGlobals "repr" = some none)
    (z_bool : PySem.W.nsIn K mainGlobals "bool" = some none)
    (z_tuple : PySem.W.nsIn K mainGlobals "tuple" = some none)
    (z_str : PySem.W.nsIn K mainGlobals "str" = some none)
    (z_max : PySem.W.nsIn K mainGlobals "max" = some none)
    (z_min : PySem.W.nsIn K mainGlobals "min" = some none)
    (z_dict : PySem.W.nsIn K mainGlobals "dict" = some none)
    (z_set : PySem.W.nsIn K mainGlobals "set" = some none)
    (z_sorted : PySem.W.nsIn K mainGlobals "sorted" = some none)
    (z_sum : PySem.W.nsIn K mainGlobals "sum" = some none)
    (z_all : PySem.W.nsIn K mainGlobals "all" = some none)
    (z_any : PySem.W.nsIn K mainGlobals "any" = some none)
    (z_zip : PySem.W.nsIn K mainGlobals "zip" = some none)
    (z_enumerate : PySem.W.nsIn K mainGlobals "enumerate" = some none)
    (z_reversed : PySem.W.nsIn K mainGlobals "reversed" = some none)
    (aL : PySem.W.nsIn K mainGlobals "law" = some (some (.ref fL)))
    (lL : K.lookup fL = some ⟨ocL, odL, .func (PySem.W.fnOf "law" "law" (defArgs s_law) (defBody s_law) (defScope s_law) .none kVL dcL pmL anL (.ref kodL) ctL), slL⟩)
    (cL : PySem.W.codeIn K (.ref kodL) "law" = true)
    (kL : PySem.W.keepIn K (.ref fL) = true)
    (tcRf : K.lookup kodRf = some ⟨occRf, odccRf, .fields vscRf, slccRf⟩)
    (vPRf : vscRf[11]? = some (Value.ref PRf))
    (ttRf : K.lookup PRf = none)
    (tcL : K.lookup kodL = some ⟨occL, odccL, .fields vscL, slccL⟩)
    (vPL : vscL[11]? = some (Value.ref PL))
    (ttL : K.lookup PL = none)
    (pn0_1 : PRf ≠ PL)
    (pn1_0 : PL ≠ PRf) : LawEnd l w K 11 63 "_law_script" mg fa h := by
  have G := Tp.g
  have e := hfa.symm.trans (PySem.W.mg_of X G aL)
  cases e
  have FN := fun_mk (st := s_is_number) lN cN kN
  have bN := FN.binds (ps := ["value", "least", "most"]) fun _ _ _ _ _ _ us hl => match us, hl with | [_, _, _], _ => rfl
  have FCr := fun_mk (st := s_cr) lCr cCr kCr
  have bCr := FCr.binds (ps := ["begin", "period", "told", "part"]) fun _ _ _ _ _ _ us hl => match us, hl with | [_, _, _, _], _ => rfl
  have FLp := fun_mk (st := s_lp) lLp cLp kLp
  have bLp := FLp.binds (ps := ["again"]) fun _ _ _ _ _ _ us hl => match us, hl with | [_], _ => rfl
  have FLf := fun_mk (st := s_lf) lLf cLf kLf
  have bLf := FLf.binds (ps := ["told", "begin"]) fun _ _ _ _ _ _ us hl => match us, hl with | [_, _], _ => rfl
  have FPn := fun_mk (st := s_pen) lPn cPn kPn
  have bPn := FPn.binds (ps := ["_law_script"]) fun _ _ _ _ _ _ us hl => match us, hl with | [_], _ => rfl
  have FD := fun_mk (st := s_draw) lD cD kD
  have bD := FD.binds (ps := ["_law_pen_here", "_law_many"]) fun _ _ _ _ _ _ us hl => match us, hl with | [_, _], _ => rfl
  have FPk := fun_mk (st := s_pick) lPk cPk kPk
  have bPk := FPk.binds (ps := ["_law_pen_here", "_law_some"]) fun _ _ _ _ _ _ us hl => match us, hl with | [_, _], _ => rfl
  have FTo := fun_mk (st := s_told) lTo cTo kTo
  have bTo := FTo.binds (ps := ["_law_pen_here"]) fun _ _ _ _ _ _ us hl => match us, hl with | [_], _ => rfl
  have FAt := fun_mk (st := s_at) lAt cAt kAt
  have bAt := FAt.binds (ps := ["_law_told_here", "_law_heap"]) fun _ _ _ _ _ _ us hl => match us, hl with | [_, _], _ => rfl
  have FLe := fun_mk (st := s_least) lLe cLe kLe
  have bLe := FLe.binds (ps := ["_law_told_here"]) fun _ _ _ _ _ _ us hl => match us, hl with | [_], _ => rfl
  have FSh := fun_mk (st := s_shown) lSh cSh kSh
  have bSh := FSh.binds (ps := ["_law_table"]) fun _ _ _ _ _ _ us hl => match us, hl with | [_], _ => rfl
  have FHd := fun_mk (st := s_heard) lHd cHd kHd
  have bHd := FHd.binds (ps := ["_law_ask"]) fun _ _ _ _ _ _ us hl => match us, hl with | [_], _ => rfl
  have FFo := fun_mk (st := s_forms) lFo cFo kFo
  have bFo := FFo.binds (ps := ["_law_pen_here"]) fun _ _ _ _ _ _ us hl => match us, hl with | [_], _ => rfl
  have FRf := fun_mk (st := s_refused) lRf cRf kRf
  have bRf := FRf.binds (ps := ["_law_pen_here"]) fun _ _ _ _ _ _ us hl => match us, hl with | [_], _ => rfl
  have FBt := fun_mk (st := s_bt) lBt cBt kBt
  have bBt := FBt.binds (ps := ["self", "part"]) fun _ _ _ _ _ _ us hl => match us, hl with | [_, _], _ => rfl
  have FTi := fun_mk (st := s_ti) lTi cTi kTi
  have bTi := FTi.binds (ps := ["self", "begin", "period", "numbers"]) fun _ _ _ _ _ _ us hl => match us, hl with | [_, _, _, _], _ => rfl
  have FEq := fun_mk (st := s_eqT) lEq cEq kEq
  have bEq := FEq.binds (ps := ["self", "other"]) fun _ _ _ _ _ _ us hl => match us, hl with | [_, _], _ => rfl
  have FSt := fun_mk (st := s_strT) lSt cSt kSt
  have bSt := FSt.binds (ps := ["self"]) fun _ _ _ _ _ _ us hl => match us, hl with | [_], _ => rfl
  have FL := fun_mk (st := s_law) lL cL kL
  have U : Blt mg := ⟨PySem.W.mg_none_of X G z_int, PySem.W.mg_none_of X G z_len, PySem.W.mg_none_of X G z_abs, PySem.W.mg_none_of X G z_list, PySem.W.mg_none_of X G z_range, PySem.W.mg_none_of X G z_isinstance, PySem.W.mg_none_of X G z_repr, PySem.W.mg_none_of X G z_bool, PySem.W.mg_none_of X G z_tuple, PySem.W.mg_none_of X G z_str, PySem.W.mg_none_of X G z_max, PySem.W.mg_none_of X G z_min, PySem.W.mg_none_of X G z_dict, PySem.W.mg_none_of X G z_set, PySem.W.mg_none_of X G z_sorted, PySem.W.mg_none_of X G z_sum, PySem.W.mg_none_of X G z_all, PySem.W.mg_none_of X G z_any, PySem.W.mg_none_of X G z_zip, PySem.W.mg_none_of X G z_enumerate, PySem.W.mg_none_of X G z_reversed⟩
  have TC : TabC K CT := ⟨⟨pgCT, hdCT, poCT, saCT⟩, nbeginCT, nperiodCT, nnumbersCT⟩
  have tyT : TyC K CT := ⟨haCT, hn, htk, hmCT⟩
  have MkT : Mk K CT fTi := ⟨mkCT, aTi, iFTi, kpCT⟩
  have PB : PrgF K mg "BadTable" "part" CB fBt := { g_ := (PySem.W.mg_of X G gB), oB := ⟨⟨_, _, _, _, _, _, _, _, _, _, _, _, _, _, _, xBCB, rBCB⟩, saCB, exCB, tyCB, kpCB⟩, nF := npCB, iB := aBt, tB := tfCB }
  have Z : PrgG K mg CX CB := { g_FreeError := (PySem.W.mg_of X G gX), g_BadTable := (PySem.W.mg_of X G gB), hit := (PySem.W.exm_ref exCX hdCX tyCX s_CB_CX), exc := ⟨gaCB, ggCB, exCB, hdCB, haCB, hn, htk, hmCB⟩, xf := ⟨gaCB, ggCB, exCB, hdCB⟩, same := kt_CB_CB, ve := kVE, fP := npCB, zVE := PySem.W.mg_none_of X G z_VE }
  have rdT : ClX.CRead K CT (.type "type") := ⟨rdCT, gaCT⟩
  have mostT : ∃ u, ClX.CVal K CT (.type "type") "MOST" (.int 1000) u := ⟨_, m_CT_MOST, ⟨t_CT_MOST, rfl⟩⟩
  have bk_ti : KBn K _ ["self", "begin", "period", "numbers"] 1 ["numbers", "period", "begin"] (fun us ws => us ++ ws.reverse) (fun vs zs => vs ++ zs.reverse) := kbT FTi
  have htRf : PySem.W.tabIn K "_law_refused_right" = some (kodRf, PRf) := by
    unfold PySem.W.tabIn
    rw [show PySem.W.nsIn K mainGlobals "_law_refused_right" = some (some (.ref fRf)) from aRf]
    simp only [lRf, PySem.W.fnOf, tcRf, vPRf]
  obtain ⟨codeRf, tabRf⟩ := PySem.W.tab_of Tp X hrRf htRf
  have htL : PySem.W.tabIn K "law" = some (kodL, PL) := by
    unfold PySem.W.tabIn
    rw [show PySem.W.nsIn K mainGlobals "law" = some (some (.ref fa)) from aL]
    simp only [lL, PySem.W.fnOf, tcL, vPL]
  obtain ⟨codeL, tabL⟩ := PySem.W.tab_of Tp X hrL htL
  refine ⟨PySem.W.fnOf "law" "law" (defArgs s_law) (defBody s_law) (defScope s_law) .none kVL dcL pmL anL (.ref kodL) ctL, [(kodRf, PRf), (kodL, PL)], spLawT K PRf PL, fun q hq => ?_, fun s u => .of_eq rfl, fun H a ns few _ tabs sq => ⟨a, ns, rfl, sq, few, tabs (kodRf, PRf) List.mem_cons_self, tabs (kodL, PL) (List.mem_cons_of_mem _ List.mem_cons_self), fun _ => rfl⟩, fun base KX _ tb => ?_⟩
  · skip
    simp only [List.mem_cons, List.not_mem_nil, or_false] at hq
    rcases hq with e | e
    · cases e
      exact ⟨tabRf, ttRf, codeRf⟩
    · cases e
      exact ⟨tabL, ttL, codeL⟩
  · skip
    have cwRf : (PySem.W.fnOf "_law_refused_right" "_law_refused_right" (defArgs s_refused) (defBody s_refused) (defScope s_refused) .none kVRf dcRf pmRf anRf (.ref kodRf) ctRf).code = .ref kodRf := PySem.W.law_code X G htRf (PySem.W.mg_of X G aRf) (X _ _ lRf) rfl
    have tbRf := tb (kodRf, PRf) List.mem_cons_self
    have cwL : (PySem.W.fnOf "law" "law" (defArgs s_law) (defBody s_law) (defScope s_law) .none kVL dcL pmL anL (.ref kodL) ctL).code = .ref kodL := PySem.W.law_code X G htL hfa (X _ _ lL) rfl
    have tbL := tb (kodL, PL) (List.mem_cons_of_mem _ List.mem_cons_self)
    have G_ti : FnOk l.prog w K mg base (L2.CX l.prog w) 5 fTi _ ["self", "begin", "period", "numbers"] (spTable CB CT) := ok_ti FTi U TC FN (PySem.W.mg_of X G aN) bN PB FBt bBt (PySem.W.mg_of X G gMO) (PySem.W.mg_of X G gMW) FCr (PySem.W.mg_of X G aCr) bCr FLp (PySem.W.mg_of X G aLp) bLp FLf (PySem.W.mg_of X G aLf) bLf
    have G_eqT : FnOk l.prog w K mg base CX0 1 fEq _ ["self", "other"] (spEqT K CT) := ok_eqT FEq U (PySem.W.mg_of X G gT) TC tyT kt_CT_CT
    have G_strT : FnOk l.prog w K mg base CX0 1 fSt _ ["self"] (spStrT CT) := ok_strT FSt U TC
    have G_forms : FnG l.prog w K mg base CX0 7 fFo _ ["_law_pen_here"] spForms := ok_forms FFo U TC tyT tyCT FD (PySem.W.mg_of X G aD) bD FPk (PySem.W.mg_of X G aPk) bPk FTo (PySem.W.mg_of X G aTo) bTo FAt (PySem.W.mg_of X G aAt) bAt FLe (PySem.W.mg_of X G aLe) bLe FSh (PySem.W.mg_of X G aSh) bSh aEq iFEq neCT hmCT G_eqT bEq aSt iFSt G_strT bSt MkT (PySem.W.mg_of X G gT) bTi bk_ti G_ti
    have G_refused : FnG l.prog w K mg base CX0 9 fRf _ ["_law_pen_here"] (spRefused [(PRf, lamF), (PL, lamW)]) := ok_refused FRf cwRf tbRf List.mem_cons_self (fun p hp e => by
      simp only [List.mem_cons, List.not_mem_nil, or_false] at hp
      rcases hp with rfl | rfl
      · rfl
      · exact absurd e pn1_0) U Z FD (PySem.W.mg_of X G aD) bD FPk (PySem.W.mg_of X G aPk) bPk FHd (PySem.W.mg_of X G aHd) bHd MkT (PySem.W.mg_of X G gT) bTi G_ti
    exact ok_law FL cwL tbL pn0_1 U TC tyT tyCT Z rdT mostT FPn (PySem.W.mg_of X G aPn) bPn FD (PySem.W.mg_of X G aD) bD FFo (PySem.W.mg_of X G aFo) bFo G_forms FRf (PySem.W.mg_of X G aRf) bRf G_refused FHd (PySem.W.mg_of X G aHd) bHd FSh (PySem.W.mg_of X G aSh) bSh aEq iFEq neCT hmCT G_eqT bEq MkT (PySem.W.mg_of X G gT) bTi G_ti
end Fz
open PySem PySem.W PyProof.Rows in
set_option maxRecDepth 100000 in
set_option maxHeartbeats 0 in
theorem PySem.Challenge.cw_freetakes_k17_tables_in_least_form_holds : PySem.Challenge.rw_freetakes_k17_tables_in_least_form.Holds := by
  w_on; o_law; k_head; (case hw => w_witness2)
  k_fill
  refine Fz.walk_fz (l := PySem.Challenge.rw_freetakes_k17_tables_in_least_form) (n := 63) (k := 11) (x := "_law_script") rfl (by decide) rfl ⟨rfl, by decide, by decide⟩ (fun w h Y => PySem.W.km_in_of Y) ?F
  case F =>
    intro w mg mb fa h lo mean KX Tp hmg
    refine' Fz.all_mk KX Tp hmg ?hrRf ?hrL ?gT ?gB ?gX ?aN ?lN ?cN ?kN ?aCr ?lCr ?cCr ?kCr ?aLp ?lLp ?cLp ?kLp ?aLf ?lLf ?cLf ?kLf ?aPn ?lPn ?cPn ?kPn ?aD ?lD ?cD ?kD ?aPk ?lPk ?cPk ?kPk ?aTo ?lTo ?cTo ?kTo ?aAt ?lAt ?cAt ?kAt ?aLe ?lLe ?cLe ?kLe ?aSh ?lSh ?cSh ?kSh ?aHd ?lHd ?cHd ?kHd ?aFo ?lFo ?cFo ?kFo ?aRf ?lRf ?cRf ?kRf ?aBt ?lBt ?cBt ?kBt ?aTi ?lTi ?cTi ?kTi ?aEq ?lEq ?cEq ?kEq ?aSt ?lSt ?cSt ?kSt ?iFEq ?iFSt ?neCT ?tyCT ?rdCT ?gaCT ?pgCT ?hdCT ?poCT ?saCT ?nbeginCT ?nperiodCT ?nnumbersCT ?haCT ?hn ?htk ?hmCT ?mkCT ?kpCT ?iFTi ?m_CT_MOST ?kt_CT_CT ?gMO ?gMW ?xBCB ?rBCB ?saCB ?exCB ?tyCB ?kpCB ?npCB ?tfCB ?gaCB ?ggCB ?hdCB ?haCB ?hmCB ?exCX ?hdCX ?tyCX ?s_CB_CX ?kt_CB_CB ?kVE ?z_VE ?z_int ?z_len ?z_abs ?z_list ?z_range ?z_isinstance ?z_repr ?z_bool ?z_tuple ?z_str ?z_max ?z_min ?z_dict ?z_set ?z_sorted ?z_sum ?z_all ?z_any ?z_zip ?z_enumerate ?z_reversed ?aL ?lL ?cL ?kL ?tcRf ?vPRf ?ttRf ?tcL ?vPL ?ttL ?pn0_1 ?pn1_0
    (case hrRf => first | rfl | kernel_rfl | k_is)
    (case hrL => first | rfl | kernel_rfl | k_is)
    (case gT => k_is)
    (case gB => k_is)
    (case gX => k_is)
    (case aN => k_is)
    (case lN => k_is)
    (case cN => k_is)
    (case kN => k_is)
    (case aCr => k_is)
    (case lCr => k_is)
    (case cCr => k_is)
    (case kCr => k_is)
    (case aLp => k_is)
    (case lLp => k_is)
    (case cLp => k_is)
    (case kLp => k_is)
    (case aLf => k_is)
    (case lLf => k_is)
    (case cLf => k_is)
    (case kLf => k_is)
    (case aPn => k_is)
    (case lPn => k_is)
    (case cPn => k_is)
    (case kPn => k_is)
    (case aD => k_is)
    (case lD => k_is)
    (case cD => k_is)
    (case kD => k_is)
    (case aPk => k_is)
    (case lPk => k_is)
    (case cPk => k_is)
    (case kPk => k_is)
    (case aTo => k_is)
    (case lTo => k_is)
    (case cTo => k_is)
    (case kTo => k_is)
    (case aAt => k_is)
    (case lAt => k_is)
    (case cAt => k_is)
    (case kAt => k_is)
    (case aLe => k_is)
    (case lLe => k_is)
    (case cLe => k_is)
    (case kLe => k_is)
    (case aSh => k_is)
    (case lSh => k_is)
    (case cSh => k_is)
    (case kSh => k_is)
    (case aHd => k_is)
    (case lHd => k_is)
    (case cHd => k_is)
    (case kHd => k_is)
    (case aFo => k_is)
    (case lFo => k_is)
    (case cFo => k_is)
    (case kFo => k_is)
    (case aRf => k_is)
    (case lRf => k_is)
    (case cRf => k_is)
    (case kRf => k_is)
    (case aBt => k_is)
    (case lBt => k_is)
    (case cBt => k_is)
    (case kBt => k_is)
    (case aTi => k_is)
    (case lTi => k_is)
    (case cTi => k_is)
    (case kTi => k_is)
    (case aEq => k_is)
    (case lEq => k_is)
    (case cEq => k_is)
    (case kEq => k_is)
    (case aSt => k_is)
    (case lSt => k_is)
    (case cSt => k_is)
    (case kSt => k_is)
    (case iFEq => k_is)
    (case iFSt => k_is)
    (case neCT => k_is)
    (case tyCT => k_is)
    (case rdCT => k_is)
    (case gaCT => k_is)
    (case pgCT => k_is)
    (case hdCT => k_is)
    (case poCT => k_is)
    (case saCT => k_is)
    (case nbeginCT => k_is)
    (case nperiodCT => k_is)
    (case nnumbersCT => k_is)
    (case haCT => k_is)
    (case hn => k_is)
    (case htk => k_is)
    (case hmCT => k_is)
    (case mkCT => k_is)
    (case kpCT => k_is)
    (case iFTi => k_is)
    (case m_CT_MOST => k_is)
    (case kt_CT_CT => kit_is)
    (case gMO => k_is)
    (case gMW => k_is)
    (case xBCB => k_is)
    (case rBCB => first | rfl | decide +kernel)
    (case saCB => k_is)
    (case exCB => k_is)
    (case tyCB => k_is)
    (case kpCB => k_is)
    (case npCB => k_is)
    (case tfCB => k_is)
    (case gaCB => k_is)
    (case ggCB => k_is)
    (case hdCB => k_is)
    (case haCB => k_is)
    (case hmCB => k_is)
    (case exCX => k_is)
    (case hdCX => k_is)
    (case tyCX => k_is)
    (case s_CB_CX => k_is)
    (case kt_CB_CB => kit_is)
    (case kVE => kit_is)
    (case z_VE => k_is)
    (case z_int => k_is)
    (case z_len => k_is)
    (case z_abs => k_is)
    (case z_list => k_is)
    (case z_range => k_is)
    (case z_isinstance => k_is)
    (case z_repr => k_is)
    (case z_bool => k_is)
    (case z_tuple => k_is)
    (case z_str => k_is)
    (case z_max => k_is)
    (case z_min => k_is)
    (case z_dict => k_is)
    (case z_set => k_is)
    (case z_sorted => k_is)
    (case z_sum => k_is)
    (case z_all => k_is)
    (case z_any => k_is)
    (case z_zip => k_is)
    (case z_enumerate => k_is)
    (case z_reversed => k_is)
    (case aL => k_is)
    (case lL => k_is)
    (case cL => k_is)
    (case kL => k_is)
    (case tcRf => k_is)
    (case vPRf => rfl)
    (case ttRf => first | rfl | kernel_rfl | decide +kernel)
    (case tcL => k_is)
    (case vPL => rfl)
    (case ttL => first | rfl | kernel_rfl | decide +kernel)
    (case pn0_1 => decide)
    (case pn1_0 => decide)
#print axioms PySem.Challenge.cw_freetakes_k17_tables_in_least_form_holds
