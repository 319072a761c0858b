import PyProof.Rows.All
import Wide.All
import OpenK.AllK
import Wide.FinOn
import PyProof.EqAt
import PyProof.EqKinds
import PyProof.TupleCall
import HandS.Base
import HandS.Call
import HandS.List
import HandS.Ends
import HandS.Exc
import HandS.ExcOwn
import HandS.ExcInit
import HandS.Lambda
import HandS.ExcField
import HandS.ExcIs
import HandS.IsInst
import HandS.EndTab
import HandS.Words
import HandS.WordsList
import HandS.WordsExc
import HandS.ClsMeth
import HandS.Wide
import HandS.Conv
import HandS.LawCells
import HandS.MakeKw
import HandS.MakeKwOnly
import KE.KCallOwn
import HandS.SlotsOwn
import HandS.FStr
import KE.IntTextLaws
import KE.KIntText
import HandS.Text
import HandS.OwnEq
import HandS.Star
import HandS.StrMore
import HandS.Iter
import HandS.Walk
import HandS.TupAny
import PySem.Challenge.RW_freetakes_k01_errors_and_their_fields
set_option Elab.async false
set_option linter.all false
set_option maxRecDepth 100000
set_option maxHeartbeats 2000000
/-! Own layer, first part: repr of data; defs that are called where no repr is under way. -/
namespace Fz
open PySem PySem.Spec PyProof.Rows L2

/-! ### repr of lists and tuples of data -/
structure rRepD (K : PySem.W.Frag) (vs : List V) (H : Hp) (Q : VK) : Prop where
  ex : ∃ (p : Addr) (dat : PyData), vs = [.ref p] ∧ Dp K H (.ref p) dat ∧ dat.showable = true ∧ dat.hasDict = false ∧ dat.depth ≤ 60 ∧ dat.shown.length ≤ sizeLine ∧ Q (.str dat.shown) H
theorem call_repD {X : Cx} (clear : X.A.guards = some []) (room : X.A.units + 64 < cLine) : CallR X (.builtin "repr") (rRepD X.K) := by
  intro pins s σ H vs us Q I rvs hyp
  obtain ⟨p, dat, rfl, hdat, hshow, hno, hdeep, hfit, fin⟩ := hyp.ex
  obtain ⟨u, rfl, ru⟩ := vals1 rvs
  cases ru
  obtain ⟨seen, reads⟩ := Dp.reads I dat (.ref p) (.ref p) hdat rfl
  refine repr_of_reads' reads hshow (fun bad => ?_) clear (by omega) (fun _ _ same => same) (fun heap' tok toks kept => ?_) hfit
  · rw [hno] at bad
    cases bad
  · exact ⟨.str dat.shown, H, I.kept kept, ⟨_, rfl⟩, fin⟩

/-! ### defs that are called where no repr is under way -/
structure FnG (P : Program) (w : World) (K : PySem.W.Frag) (mg : Str → Option Value) (base : Heap) (CX : CXT) (k : Nat) (f : Addr) (fd : FuncData) (ps : List Str) (sp : Sp) : Prop where
  len : ∀ vs H Q E, sp vs H Q E → vs.length = ps.length
  run : ∀ (A : Around) (outer : List Env) (s : Shared) (H : Hp) (args : Args) (us : List Value) (vs : List V) (Q : VK) (E : XK), Room k A → A.guards = some [] → Env0 P w K mg base A outer s H →
    BindsTo s fd args (ps.zip us) → Vals vs us → sp vs H Q E → codeAny (model P w) A (.call (.ref f) args) (CR CX outer P w H s Q E) s
section
variable {P : Program} {w : World} {K : PySem.W.Frag} {mg : Str → Option Value} {base : Heap} {CX : CXT} {k : Nat} {f : Addr} {fd : FuncData} {ps : List Str} {sp : Sp}
theorem FnG.of (F : FnOk P w K mg base CX k f fd ps sp) : FnG P w K mg base CX k f fd ps sp :=
  ⟨F.len, fun A outer s H args us vs Q E room _ => F.run A outer s H args us vs Q E room⟩
/-- the rule for such a def -/
theorem fnG_of {name qual : Str} {params : Arguments} {body : List Stmt} {scope : Scope} {dV kV doc pm cdv ct oc : Value} {an od : Option Addr} {osl : Array (Option Value)} {N : List Str}
    (lk : K.lookup f = some ⟨oc, od, .func (PySem.W.fnOf name qual params body scope dV kV doc pm an cdv ct), osl⟩) (code : PySem.W.codeIn K cdv qual = true) (S : FnScope N ps scope) (len : ∀ vs H Q E, sp vs H Q E → vs.length = ps.length)
    (walk : ∀ (A : Around) (outer : List Env) (s : Shared) (H : Hp) (vs : List V) (Q : VK) (E : XK), Room k (A.deeper (envOfC qual scope s.heap.objs.size f cdv)) → A.guards = some [] → sp vs H Q E →
      ∃ t, PSs (cxOf CX P w K mg base N qual scope f cdv A outer s H E) body t ∧ t { nx := fun _ H' => Q .non H', rt := Q } (start N vs) H) :
    FnG P w K mg base CX (k + 1) f (PySem.W.fnOf name qual params body scope dV kV doc pm an cdv ct) ps sp :=
  ⟨len, fun A outer s H args us vs Q E room clear at0 binds rvs hyp => LamX.run_ofS lk code S room at0 binds rvs (len _ _ _ _ hyp) fun room' => walk A outer s H vs Q E room' clear hyp⟩
end
section
variable {X : Cx} {CX : CXT} {k : Nat} {f : Addr} {fd : FuncData} {ps : List Str} {sp : Sp} {dvs : List V} {ds : List Value} {E : XK} {x : Str} {p pos : Pos} {e : Expr} {es : List Expr} {t : TA}
theorem run_fnG {pins : List (Addr × Obj)} {σ : L2.St} {H : Hp} {s : Shared} {Q : VK} {us : List Value} {vs : List V} (F : FnG X.prog X.w X.K X.mg X.base CX k f fd ps sp) (room : Room k X.A) (clear : X.A.guards = some []) (binds : L2.Binds X.K fd ps ds) (rd : Vals dvs ds)
    (pass : Passes CX X E) (I : Inv X pins σ H s) (rvs : Vals vs us) (hyp : sp (vs ++ dvs) H Q E) : wpAny (model X.prog X.w) X.A (call (.ref f) us) (EP X pins σ Q) X.xe s := by
  have rall : Vals (vs ++ dvs) (us ++ ds) := rvs.append rd
  have many : (us ++ ds).length = ps.length := rall.length.symm.trans (F.len _ _ _ _ hyp)
  refine wpAny_call (codeAny_mono (F.run X.A X.stack s H ⟨us, []⟩ (us ++ ds) (vs ++ dvs) Q E room clear I.env0 (binds s us I.kIn many) rall hyp) fun res s' got => ?_)
  match res, got with
  | .error e, got => exact pass pins σ H s e s' I got
  | .ok (.ret u), got => exact I.after got
  | .ok .next, got => exact got.elim
  | .ok .brk, got => exact got.elim
  | .ok .cont, got => exact got.elim
theorem pe_callG (F : FnG X.prog X.w X.K X.mg X.base CX k f fd ps sp) (room : Room k X.A) (clear : X.A.guards = some []) (glob : Gl X x) (at_ : X.mg x = some (.ref f)) (keep : PySem.W.keepIn X.K (.ref f) = true) (binds : L2.Binds X.K fd ps ds) (rd : Vals dvs ds) (pass : Passes CX X E)
    (ha : PA X (e :: es) t) (ndb : (x == ("__debug__" : Str)) = false := by decide) (star : starEach (e :: es) X.env = (false, eval e X.env) :: starEach es X.env := by rfl) (plain : (backTo pos (starEach es X.env)).any (·.1) = false := by rfl) :
    PE X (.Call (.Name x p) (e :: es) [] pos) (tCall sp dvs E t) :=
  ⟨fun pins s σ H Q I hyp => wpAny_Call_Name_kw (ld_glob I glob at_ (PySem.W.callWith_K (h₀ := X.base) I.ok.mod.kin keep
    (thn (ha.run pos pins s σ H _ I hyp) fun us s1 ⟨vs, H1, I1, rvs, fin⟩ => ⟨I1.kIn, run_fnG F room clear binds rd pass I1 rvs fin⟩) star plain) ndb)⟩
end
end Fz

set_option Elab.async false
set_option linter.all false
set_option maxRecDepth 100000
set_option maxHeartbeats 4000000
/-! Own layer, second part: a caught error of an own class that a name keeps behind the except suite: it is tracked. -/
namespace Fz
open PySem PySem.Spec PyProof.Rows L2

/-- at p: an error of the class cls, its fields' dict at d -/
def Err (cls : Value) (d : Option Addr) (p : Addr) : HO := .ext fun h => ∃ (ob : Obj) (slots : Array Value), h.get? p = some ob ∧ Zc cls d ob ∧ ob.data = .fields slots
theorem Err.made {P : Program} {w : World} {H : Hp} {h : Heap} {p : Addr} {cls : Value} {d : Option Addr} {ob : Obj} {slots : Array Value} (at_ : h.get? p = some ob) (z : Zc cls d ob) (dat : ob.data = .fields slots) : ObjOk P w H h p (Err cls d p) :=
  ⟨⟨ob, slots, at_, z, dat⟩, ⟨ob, at_⟩, fun _ _ ⟨ob', slots', q, r⟩ stay => ⟨ob', slots', stay ob' q, r⟩⟩
theorem Err.at_ {P : Program} {w : World} {H : Hp} {h : Heap} {p : Addr} {cls : Value} {d : Option Addr} (ok : HOk P w H h) (here : H p = some (Err cls d p)) : ∃ (ob : Obj) (slots : Array Value), h.get? p = some ob ∧ Zc cls d ob ∧ ob.data = .fields slots :=
  (show ObjOk P w H h p (.ext _) from ok p _ here).1

section
variable {X : Cx} {pins : List (Addr × Obj)} {σ : L2.St} {H : Hp} {s : Shared}
/-- an object that came to be since the entry is tracked from now on -/
theorem track {p : Addr} {o : HO} (I : Inv X pins σ H s) (un : H p = none) (new : ObjOk X.prog X.w (upd H p o) s.heap p o) (late : ∀ b u, X.s_0.heap.get? b = some u → b ≠ p) (noFrame : p ≠ X.env.locals)
    (noCell : ∀ x c, X.env.cells.lookup x = some c → c ≠ p) (noPin : ∀ q ∈ X.pn ++ pins, q.1 ≠ p) : Inv X pins σ (upd H p o) s := by
  have other : ∀ {b u}, H b = some u → b ≠ p := fun {b u} q => ne_of_none q un
  refine ⟨I.ok, I.os, I.bare, ⟨I.base.keep, I.base.slot, fun b u q n hx => ?_, I.base.there, fun b vs q => ?_, fun b u v q => ?_, fun b vs q => ?_⟩, I.loc, I.cell, ?_, fun x c q => ?_, fun q hq => ?_, fun b u q => ?_, I.len⟩
  · rw [upd_ne (late b u q)]
    exact I.base.free b u q n hx
  · have z := I.base.tups b vs q
    rw [upd_ne (other z)]
    exact z
  · have z := I.base.frzs b u v q
    rw [upd_ne (other z)]
    exact z
  · obtain ⟨more, z⟩ := I.base.tbls b vs q
    exact ⟨more, by rw [upd_ne (other z)]; exact z⟩
  · rw [upd_ne (Ne.symm noFrame)]
    exact I.free
  · rw [upd_ne (noCell x c q)]
    exact I.freeC x c q
  · obtain ⟨z1, z2, z3, z4, z5⟩ := I.pin q hq
    exact ⟨z1, by rw [upd_ne (noPin q hq)]; exact z2, z3, z4, z5⟩
  · by_cases hb : b = p
    · subst hb
      rw [upd_same] at q
      cases q
      exact new
    · rw [upd_ne hb] at q
      refine (I.hok b u q).stay (fun c v _ r => r) (fun c r => ?_) fun c vs r => ?_
      · rw [upd_ne (other r)]
        exact r
      · rw [upd_ne (other r)]
        exact r
/-- into an except suite, and out of it, the error tracked -/
theorem intoSuite (I : Inv X pins σ H s) (p : Addr) : Inv (X.suite p (X.pn ++ pins)) [] σ H s :=
  ⟨I.ok.suite p (X.pn ++ pins), I.os, I.bare, I.base, I.loc, I.cell, I.free, I.freeC, fun q hq => I.pin q (by simpa using hq), I.hok, I.len⟩
theorem outOfSuite {p : Addr} {more : List (Addr × Obj)} (I : Inv (X.suite p (X.pn ++ pins)) more σ H s) (ok : X.Ok) : Inv X pins σ H s :=
  ⟨ok, I.os, I.bare, I.base, I.loc, I.cell, I.free, I.freeC, fun q hq => I.pin q (List.mem_append_left more hq), I.hok, I.len⟩
end

/-- what the clause «except x as n» wishes: in its suite, and from then on, the error is tracked at p -/
def wErr (K : PySem.W.Frag) (N : List Str) (c : Value) (i : Nat) (ts : Addr → Value → Option Addr → TS) (Wout : WX) (D : Ends) : WX := fun cls d σ H => ∃ hit, PySem.W.exmOne K cls c = some hit ∧
  (hit = true → σ.length = N.length → ∀ p, H p = none → ts p cls d { nx := fun σ' H' => D.nx (σ'.set i none) H', rt := D.rt, bk := fun σ' H' => D.bk (σ'.set i none) H', ct := fun σ' H' => D.ct (σ'.set i none) H' } (σ.set i (some (.ref p))) (upd H p (Err cls d p))) ∧
  (hit = false → Wout cls d σ H)
section
variable {X : Cx} {x n : Str} {c : Value} {i : Nat} {body rest : List Stmt} {first : Stmt} {np pos pos' : Pos} {tb : WX → TS} {ts : Addr → Value → Option Addr → TS} {Wout : WX}
theorem ps_tryErr (stk : X.stack = X.env :: X.outer) (frm : X.env.frame = some X.env.locals) (noex : X.ex = []) (nd : X.N.Nodup) (slot : X.N[i]? = some n) (isLocal : X.env.kindOf n = some .local) (named : Names X x c) (out : Takes X Wout)
    (hbody : ∀ (W : WX) (pn : List (Addr × Obj)) (xe : Value → Shared → Prop), Takes (X.tr pn xe) W → PassesOwn (model X.prog X.w) X.A X.env xe → PSs (X.tr pn xe) body (tb W))
    (hsuite : ∀ (p : Addr) (cls : Value) (d : Option Addr) (pn : List (Addr × Obj)), PSs (X.suite p pn) (first :: rest) (ts p cls d)) :
    PS X (.Try body [.ExceptHandler (some (.Name x np)) (some n) (first :: rest) pos'] [] [] pos) (fun D σ H => tb (wErr X.K X.N c i ts Wout D) D σ H) := by
  refine ⟨fun pins s σ H D I hyp => wpAny_Try_except ?_⟩
  have okX := I.ok
  have frames : X.A.frames = some (X.env :: X.outer) := okX.frames.trans (congrArg some stk)
  refine wpAny_mono ((hbody (wErr X.K X.N c i ts Wout D) (X.pn ++ pins) (fun err s₁ => wpAny (model X.prog X.w) X.A (noteFrame err X.env) (fun _ s₂ => wpAny (model X.prog X.w) X.A (setFlight err none) (fun _ s₃ =>
    wpAny (model X.prog X.w) X.A (handleBy err X.env [.ExceptHandler (some (.Name x np)) (some n) (first :: rest) pos']) (SP X pins D) X.xe s₃) X.xe s₂) X.xe s₁) (fun err s' air => ?_) PassesOwn.looking).run [] s σ H D (I.toTry _) hyp) (fun flow s' done => ?_) (fun _ _ z => z)
  · -- an error comes
    obtain ⟨p, B, ground, pins', σ', H', cls, d, rfl, Jt, below, upto, sky, un, sameOs, bare, hit, test, yes, no⟩ := air
    have J : Inv X pins σ' H' ground := Jt.ofTry okX
    rw [stk] at sky
    show wpAny (model X.prog X.w) X.A (noteFrame (.ref p) X.env) _ _ _
    refine Sky.land Zc.steady frames frm sky fun h1 fly1 upto1 => ?_
    have J1 : Inv X pins σ' H' { s' with heap := h1 } := J.landed below fly1.1 (upto.trans upto1) sameOs bare
    obtain ⟨ob1, sl1, get1, z1, dat1⟩ := fly1.there
    -- p is no frame's own address
    have noFrame : p ∉ frs (X.env :: X.outer) := fun hm => by
      obtain ⟨_, ob', get', nofields⟩ := fly1.2.2.1.mem hm
      have same : ob1 = ob' := Option.some.inj (get1.symm.trans get')
      exact nofields sl1 (same ▸ dat1)
    have notOwn : p ≠ X.env.locals := fun z => noFrame (List.mem_filterMap.mpr ⟨X.env, List.mem_cons_self, by rw [frm, z]⟩)
    -- p came to be behind the entry
    have fresh0 : ∀ b u, ground.heap.get? b = some u → b ≠ p := fun b u q z => by
      have z2 := below b u q (by rw [stk, z]; exact noFrame)
      rw [z, fly1.2.1] at z2
      cases z2
    have fresh : ∀ b u, X.s_0.heap.get? b = some u → b ≠ p := fun b u q => by
      obtain ⟨u', q'⟩ := J.base.there b u q (by rw [noex]; exact fun z => nomatch z)
      exact fresh0 b u' q'
    have noPin : ∀ q ∈ X.pn ++ pins, q.1 ≠ p := fun q hq => fresh0 q.1 q.2 (J.pin q hq).1
    have noCell : ∀ y k, X.env.cells.lookup y = some k → k ≠ p := fun y k q => by
      obtain ⟨v, ob', get', _⟩ := J.cell y k q
      exact fresh0 k ob' get'
    -- the clause's class is named and asked
    refine wpAny_handleBy_cons (codeAny_handlers_test ?_) (by intro z; cases z)
    have tyP : PySem.W.Looks (model X.prog X.w) h1 (typeOf (.ref p)) cls := fun A Q E s k q => wpAny_typeOf_ref (k _ _ get1) (by rw [z1.1]; exact q)
    have ask := PySem.W.exm_one (M := model X.prog X.w) J1.kIn tyP test
    have inside := intoSuite J1 p
    have loaded : ∀ {Q : Value → Shared → Prop} {E : Value → Shared → Prop}, Q c { s' with heap := h1 } → wpAny (model X.prog X.w) (X.A.mark (some (.ref p))) (eval (.Name x np) X.env) Q E { s' with heap := h1 } := fun {Q E} q => by
      obtain ⟨isGlob, ndb, here | ⟨nowhere, boot, nname⟩⟩ := named
      · exact ld_glob (X := X.suite p (X.pn ++ pins)) inside isGlob here q ndb
      · exact ld_blt (X := X.suite p (X.pn ++ pins)) inside isGlob nowhere boot q nname ndb
    refine loaded (ask.here ?_)
    match hit, yes, no with
    | true, yes, _ =>
      refine codeAny_handlers_suite_as (HandSPX.lands_againZ fly1 fun h2 fly2 upto2 => ?_)
      have J2 : Inv X pins σ' H' { s' with heap := h2 } := J.landed below fly2.1 ((upto.trans upto1).trans upto2) sameOs bare
      obtain ⟨ob2, sl2, get2, z2, dat2⟩ := fly2.there
      have tracked := track J2 un (Err.made get2 z2 dat2) fresh notOwn noCell noPin
      refine store_ok (X := X.suite p (X.pn ++ pins)) (v := .ref p) (intoSuite tracked p) nd slot (.inl isLocal) rfl (fun s3 S3 => ?_) (.inr isLocal)
      refine wpAny_mono ((hsuite p cls d (X.pn ++ pins)).run [] s3 _ _ _ S3 (yes rfl J.len p un)) (fun flow s4 done => ?_) (fun _ _ z => z.elim)
      have gone : ∀ {σ4 : L2.St} {H4 : Hp} {Q : Shared → Prop}, Inv (X.suite p (X.pn ++ pins)) [] σ4 H4 s4 → (∀ s5, Inv X pins (σ4.set i none) H4 s5 → Q s5) →
          wpAny (model X.prog X.w) X.A (do bindName X.env n .none; unbindBehindTheSuite X.env n pos') (fun _ s5 => Q s5) X.xe s4 := fun {σ4 H4 Q} S4 go => gone_ok (outOfSuite S4 okX) nd slot isLocal go
      match flow, done with
      | .next, ⟨_, _, S4, q⟩ => exact gone S4 fun _ J5 => ⟨_, _, J5, q⟩
      | .brk, ⟨_, _, S4, q⟩ => exact gone S4 fun _ J5 => ⟨_, _, J5, q⟩
      | .cont, ⟨_, _, S4, q⟩ => exact gone S4 fun _ J5 => ⟨_, _, J5, q⟩
      | .ret _, ⟨_, _, _, S4, rv, q⟩ => exact gone S4 fun _ J5 => ⟨_, _, _, J5, rv, q⟩
    | false, _, no =>
      show wpAny _ X.A (handleBy (.ref p) X.env []) _ _ _
      refine wpAny_handleBy_nil ?_
      obtain ⟨_, _, _, obF, slF, T, _, _, getF, _, datF, traced, _⟩ := id fly1
      unfold PySem.passOn
      refine wpAny_bind (wpAny_field getF datF traced ?_)
      rw [if_neg (show ¬ ((Value.ref T == Value.none) = true) by simp)]
      have on_ : wpAny (model X.prog X.w) X.A (setFlight (.ref p) X.env.frame) (fun _ s4 => wpAny (model X.prog X.w) X.A (throw (.ref p) : Sem Flow) (SP X pins D) X.xe s4) X.xe { s' with heap := h1 } := by
        rw [frm]
        exact HandSPX.setFlight_upZ fly1 fun h2 held2 upto2 => wpAny_throw (out _ _ ⟨p, B, ground, pins, σ', H', cls, d, rfl, J, below, (upto.trans upto1).trans upto2, .inr (.inr (by rw [stk]; exact held2)), un, sameOs, bare, no rfl⟩)
      first
        | exact wpAny_bind (wpAny_pure (wpAny_bind on_))
        | exact wpAny_bind on_
  · match flow, done with
    | .next, ⟨_, _, J, q⟩ => exact wpAny_execs_nil ⟨_, _, J.ofTry okX, q⟩
    | .brk, ⟨_, _, J, q⟩ => exact ⟨_, _, J.ofTry okX, q⟩
    | .cont, ⟨_, _, J, q⟩ => exact ⟨_, _, J.ofTry okX, q⟩
    | .ret _, ⟨_, _, _, J, rv, q⟩ => exact ⟨_, _, _, J.ofTry okX, rv, q⟩
end
end Fz

set_option Elab.async false
set_option linter.all false
set_option maxRecDepth 100000
set_option maxHeartbeats 4000000
/-! Own layer, third part: what is asked of a tracked error: its fields, its class. -/
namespace Fz
open PySem PySem.Spec PyProof.Rows L2
section
open PySem.W
variable {prog : Program} {w : World} {A : Around} {E : Value → Shared → Prop} {s : Shared} {K : Frag} {p cl : Addr} {ob : Obj} {own : Option Obj}
/-- err.__class__, the error with a dict or without one -/
theorem err_class {Q : Option Value → Shared → Prop} (C : ExcC K cl) (X : K.In s.heap) (I : InstAt s.heap p ob cl own) (fin : Q (some (.ref cl)) { s with toks := s.toks + 1 }) : wpAny (model prog w) A (getAttr? (.ref p) "__class__") Q E s := by
  have found : findObj K cl own "__class__" = some (.bind (.builtin "getset_descriptor.__get__") (.builtin "object.__class__")) := by
    have isC : (clsIn K cl).isSome = true := by
      obtain ⟨cd, q, _⟩ := any_some C.hd
      rw [q]
      rfl
    cases own with
    | none => exact findObj_dataN isC C.ha C.hn C.ht
    | some od => exact findObj_data isC C.ha C.hn C.ht
  obtain ⟨heap, gens, drawn, tok, os⟩ := s
  have t1 := I.type (M := model prog w)
  have t2 := looks_findIn (M := model prog w) X C.hg
  have t3 := looks_findIn (M := model prog w) X C.hk
  have t4 := looks_find (M := model prog w) X I found
  have isExc : Looks (model prog w) heap (isInstance (.ref p) (.type "BaseException")) true := t1.andThen (looks_subIn X C.hs)
  have n1 : (Value.builtin "BaseException.__getattribute__" == Value.builtin "object.__getattribute__") = false := by decide +kernel
  have n2 : (onTheHeap (Value.ref cl) && Value.builtin "BaseException.__getattribute__" == Value.builtin "object.__getattribute__") = false := by rw [n1]; rfl
  have n3 : (false && onTheHeap (Value.builtin "BaseException.__getattribute__")) = false := rfl
  unfold getAttr? getAttrBy? getAttrBy
  refine wpAny_bind (wpAny_mkText (wpAny_bind (wpAny_attempt (wpAny_holding (wpAny_bind (t1.at (wpAny_bind (t2.at ?_))))))))
  show wpAny _ _ (if (onTheHeap (Value.ref cl) && Value.builtin "BaseException.__getattribute__" == Value.builtin "object.__getattribute__") = true then _ else _) _ _ _
  rw [n2, if_neg Bool.false_ne_true]
  unfold getAttrByItsOwn hookBefore
  refine wpAny_bind ?_
  rw [if_pos (show onTheHeap (Value.ref cl) = true from rfl)]
  refine t3.at (wpAny_bind (wpAny_attempt (wpAny_holding ?_)))
  unfold callGetattribute
  rw [n3, if_neg Bool.false_ne_true]
  unfold boundAndCalled
  rw [PySem.F.excAttr_ValueError.ga.bind (.ref p)]
  refine wpAny_bind (wpAny_pure ?_)
  show wpAny _ _ (call (.builtin "BaseException.__getattribute__") [.ref p, .str "__class__" tok]) _ _ _
  refine wpAny_call (codeAny_call_builtin PySem.F.excAttr_ValueError.ga.plain PySem.F.entry_bexc_ga ?_)
  refine @check_slot (model prog w) _ _ ⟨heap, gens, drawn, tok + 1, os⟩ "BaseException.__getattribute__" "BaseException" "__getattribute__" (.ref p) [.str "__class__" tok] [] _ (by decide +kernel) (by decide +kernel) isExc (PySem.F.args_bexc_ga (.ref p) (.str "__class__" tok)) ?_
  unfold Builtin.«object.__getattribute__»
  refine wpAny_bind (wpAny_of_eq (a := ((Value.ref p : Value), [Value.str "__class__" tok])) (by first | rfl | (simp only [slotArgs]; rfl)) ?_)
  refine wpAny_bind (wpAny_pure (wpAny_bind (t1.at (wpAny_bind (t4.at ?_)))))
  show wpAny _ _ (holding [Value.builtin "object.__class__"] (call (.builtin "getset_descriptor.__get__") [.builtin "object.__class__", .ref p, .ref cl]) >>= ret) _ _ _
  refine wpAny_bind (wpAny_holding (wpAny_call (class_get (s := ⟨heap, gens, drawn, tok + 1, os⟩) (ox := ob) (od := own) X I C.hm ?_)))
  refine wpAny_pure ?_
  show wpAny _ _ (handedOut (.ref cl)) _ _ _
  rw [handedOut_of (v := .ref cl) rfl]
  first
    | exact wpAny_pure (wpAny_pure fin)
    | exact wpAny_pure fin
    | exact wpAny_pure (wpAny_bind (wpAny_pure (wpAny_pure fin)))
theorem cls_obj (C : ExcC K cl) : ∃ o : Obj, K.lookup cl = some o ∧ (∀ its n, o.data ≠ .seq its n) ∧ ∀ (M : Model) (h : Heap), K.In h → Looks M h (isType (.ref cl)) true := by
  obtain ⟨cd, q, _⟩ := any_some C.hd
  unfold clsIn at q
  split at q
  · rename_i c d dat sl here
    refine ⟨_, here, fun its n z => (by cases z), fun M h X A Q E st stay fin => ?_⟩
    unfold isType loadHead
    exact wpAny_bind (wpAny_loadPart (stay _ _ (X _ _ here)) (wpAny_pure fin))
  · cases q
theorem kit_err (C : ExcC K cl) : KitX K (.ref p) (.ref cl) (fun h => InstAt h p ob cl own) where
  ty := fun _ _ _ I => I.type
  it := fun M h X _ => (cls_obj C).choose_spec.2.2 M h X
  ne := fun h tp dd its n sl X there => by
    obtain ⟨o, here, noSeq, _⟩ := cls_obj C
    refine Bool.eq_false_iff.mpr fun q => ?_
    cases Value.ref.inj (beq_iff_eq.mp q)
    have z := Option.some.inj ((X _ _ here).symm.trans there)
    exact noSeq its.toArray n (by rw [z])
  ca := fun X I fin => err_class C X I fin
end
section
variable {X : Cx}
/-- an error's place as the library's rules take it -/
theorem inst_err {pins : List (Addr × Obj)} {σ : L2.St} {H : Hp} {s : Shared} {p cl : Addr} {d : Option Addr} (I : Inv X pins σ H s) (here : H p = some (Err (.ref cl) d p)) (dict : ∀ dd, d = some dd → ∃ fs, H dd = some (.xd fs)) :
    ∃ (ob : Obj) (own : Option Obj), PySem.W.InstAt s.heap p ob cl own := by
  obtain ⟨ob, slots, get, z, dat⟩ := Err.at_ I.hok here
  have notC : PySem.W.notCls ob = true := by
    unfold PySem.W.notCls
    rw [dat] <;> rfl
  match d, z, dict with
  | none, z, _ => exact ⟨ob, none, get, z.1, notC, by rw [z.2]; trivial⟩
  | some dd, z, dict =>
    obtain ⟨fs, q⟩ := dict dd rfl
    obtain ⟨mA, names, _⟩ := (show ObjOk X.prog X.w H s.heap dd (.xd fs) from I.hok dd _ q)
    obtain ⟨od, getD, _⟩ := lookIn_ns names
    exact ⟨ob, some od, get, z.1, notC, by rw [z.2]; exact getD⟩
/-- isinstance(err, c) -/
def rIsErr (K : PySem.W.Frag) : List V → Hp → VK → Prop := fun vs H Q => ∃ (p cl : Addr) (d : Option Addr) (c : V) (cv : Value) (b : Bool), vs = [.ref p, c] ∧ H p = some (Err (.ref cl) d p) ∧ (∀ dd, d = some dd → ∃ fs, H dd = some (.xd fs)) ∧ ExcC K cl ∧ ClsV c cv ∧
  PySem.W.kitOne K (.ref cl) cv = some b ∧ Q (.bl b) H
theorem call_isErr : CallR X (.builtin "isinstance") (rIsErr X.K) := by
  intro pins s σ H vs us Q I rvs hyp
  obtain ⟨p, cl, d, c, cv, b, rfl, here, dict, C, isC, ans, fin⟩ := hyp
  obtain ⟨u1, u2, rfl, r1, r2⟩ := vals2 rvs
  cases r1
  cases isC.eq r2
  obtain ⟨ob, own, J⟩ := inst_err I here dict
  exact PySem.W.kia_one (kit_err C) I.kIn J ans (fun z => nomatch z) fun tk => ⟨.bl b, H, I.tok tk, rfl, fin⟩
/-- err.f -/
def tErrF (K : PySem.W.Frag) (f : Str) (te : TE) : TE := fun σ H Q => te σ H fun x H1 => ∃ (p cl dd : Addr) (fs : List (Str × V)) (v : V), x = .ref p ∧ H1 p = some (Err (.ref cl) (some dd) p) ∧ H1 dd = some (.xd fs) ∧ XfC K cl ∧ PySem.W.findIn K (.ref cl) f = some none ∧ fs.lookup f = some v ∧ Q v H1
theorem pe_errF {e : Expr} {te : TE} {f : Str} {pos : Pos} (he : PE X e te) (base : attributeBase e f X.env (eval e X.env) = eval e X.env := by rfl) : PE X (.Attribute e f pos) (tErrF X.K f te) := by
  refine ⟨fun pins s σ H Q I hyp => attr_of base (thn (he.run pins s σ H _ I hyp) fun u s1 ⟨x, H1, I1, rx, p, cl, dd, fs, v, ex, here, dict, T, none_, look, fin⟩ => ?_)⟩
  subst ex
  obtain rfl : u = Value.ref p := rx
  obtain ⟨ob, slots, get, z, dat⟩ := Err.at_ I1.hok here
  obtain ⟨mA, names, rel⟩ := (show ObjOk X.prog X.w H1 s1.heap dd (.xd fs) from I1.hok dd _ dict)
  obtain ⟨od, getD, lookD⟩ := lookIn_ns names
  obtain ⟨u', atf, ru⟩ := RelO.some_of (v := v) (o := mA f) (by rw [← look]; exact rel f)
  have J : PySem.W.InstAt s1.heap p ob cl (some od) := ⟨get, z.1, by unfold PySem.W.notCls; rw [dat] <;> rfl, by rw [z.2]; exact getD⟩
  exact HandSPX.exc_get I1.kIn J T.ga T.gg T.exC (PySem.W.findObj_own T.hdC none_ rfl (by rw [lookD, atf])) (handed_of ru) ⟨v, H1, I1.tok _, ru, fin⟩
end
end Fz

set_option Elab.async false
set_option linter.all false
set_option maxRecDepth 100000
set_option maxHeartbeats 4000000
/-! Own layer, fourth part: the end of a law's row, for a law whose defs ask for repr, its tables of code objects told. -/
namespace Fz
open PySem PySem.Spec PyProof.Rows L2
section
variable {P : Program} {w : World} {K : PySem.W.Frag} {mg mb : Str → Option Value} {s : Shared} {H : Hp}
/-- what is tracked at first: lists and empty records, none of them in the written part -/
structure First (K : PySem.W.Frag) (h : Heap) (H : Hp) : Prop where
  out : ∀ b, H b ≠ none → K.lookup b = none
  kind : ∀ b o, H b ≠ none → h.get? b = some o → (∃ its n, o.data = .seq its n) ∨ o.data = .fields #[]
theorem First.free (F : First K s.heap H) {b : Addr} {o : Obj} (get : s.heap.get? b = some o) (n1 : ∀ its n, o.data ≠ .seq its n) (n2 : o.data ≠ .fields #[]) : H b = none := by
  cases q : H b with
  | none => rfl
  | some u =>
    rcases F.kind b o (by rw [q]; exact fun z => nomatch z) get with ⟨its, n, z⟩ | z
    · exact absurd z (n1 its n)
    · exact absurd z n2
theorem First.names (F : First K s.heap H) {b : Addr} {m : Str → Option Value} (N : s.heap.Ns b m) : (hidT s.heap H).Ns b m := by
  obtain ⟨o, es, ep, get, dat, more⟩ := N
  exact ⟨o, es, ep, hidT_get get (F.free get (fun its n z => by rw [dat] at z; cases z) (fun z => by rw [dat] at z; cases z)), dat, more⟩
theorem First.part (F : First K s.heap H) (X : K.In s.heap) : K.In (hidT s.heap H) := fun b o here => hidT_get (X b o here) (by
  cases q : H b with
  | none => rfl
  | some u =>
    have z := F.out b (by rw [q]; exact fun z => nomatch z)
    rw [here] at z
    cases z)
theorem First.env (F : First K s.heap H) (X : K.In s.heap) (N : s.heap.Ns mainGlobals mg) (B : s.heap.Ns builtinsNs mb) (boot : ∀ x : Str, x ≠ "__name__" → mb x = bootBuiltins x) (lim : s.heap.NoLimit) (noGens : s.gens = #[]) (ok : HOk P w H s.heap) :
    Env0 P w K mg (hidT s.heap H) callerA [] s H where
  frames := rfl
  mod := ⟨F.part X, F.names N, ⟨mb, F.names B, boot⟩, let ⟨mc, q, r⟩ := lim; ⟨mc, F.names q, r⟩⟩
  bs := fun _ _ z => of_hidT z
  bsz := Nat.le_of_eq (hidT_size _ _)
  funs := trivial
  frf := fun b z => nomatch (show b ∈ ([] : List Addr) from z)
  hok := ok
  bare := .of_eq noGens
theorem First.table (F : First K s.heap H) (N : s.heap.Ns mainGlobals mg) {c T : Addr} (tab : s.heap.get? T = some { cls := .none, data := .fields #[] }) (code : PySem.W.CodeHd s.heap c T)
    (main : ∃ (bm : Addr) (ob : Obj), mg "__builtins__" = some (.ref bm) ∧ bm ≠ builtinsNs ∧ s.heap.get? bm = some ob ∧ ob.cls = .type "module" ∧ ob.dict = some builtinsNs ∧ ob.data = .plain) : LamX.TabB (hidT s.heap H) mg c T := by
  obtain ⟨om, es, ep, getM, datM, _⟩ := N
  refine ⟨?_, ?_, fun z => ?_⟩
  · obtain ⟨o, us, file, tf, flags, tg, inF, text, tt, get, isCode, dat, r⟩ := code
    exact ⟨o, us, file, tf, flags, tg, inF, text, tt, hidT_get get (F.free get (fun its n z => by rw [dat] at z; cases z) (fun z => by
      rw [dat] at z
      cases z
      have z2 := r.1
      simp at z2)), isCode, dat, r⟩
  · obtain ⟨bm, ob, r1, r2, r3, r4, r5, r6⟩ := main
    refine ⟨bm, ob, r1, r2, fun z => ?_, fun z => ?_, hidT_get r3 (F.free r3 (fun its n z => by rw [r6] at z; cases z) (fun z => by rw [r6] at z; cases z)), r4, r5, r6⟩
    · rw [z, getM] at r3
      cases r3
      rw [datM] at r6
      cases r6
    · rw [z, tab] at r3
      cases r3
      cases r6
  · rw [z, tab] at getM
    cases getM
    cases datM
end
/-- what a law's proof gives at the end of the top -/
def LawEnd (l : PySem.W.OpenLaw) (w : World) (K : PySem.W.Frag) (k n : Nat) (x : Str) (mg : Str → Option Value) (fa : Addr) (h : Heap) : Prop :=
  ∃ (fd : FuncData) (tabs : List (Addr × Addr)) (sp : Sp), (∀ q ∈ tabs, h.get? q.2 = some { cls := .none, data := .fields #[] } ∧ K.lookup q.2 = none ∧ PySem.W.CodeHd h q.1 q.2) ∧ (∀ (s : Shared) (u : Value), BindsTo s fd ⟨[u], []⟩ [(x, u)]) ∧
    (∀ (H : Hp) (a : Addr) (ns : List Int), ns.length ≤ n → (∀ z ∈ ns, Builtin.Int.intBits z ≤ 1048576) → (∀ q ∈ tabs, H q.2 = some (.tbl #[])) → SqL K H a (ns.map V.int) → sp [.ref a] H (fun v _ => v = .bl true) fun _ _ _ => False) ∧
    ∀ base : Heap, K.In base → base.Ns mainGlobals mg → (∀ q ∈ tabs, LamX.TabB base mg q.1 q.2) → FnG l.prog w K mg base CX0 k fa fd [x] sp
theorem law_end {l : PySem.W.OpenLaw} {w : World} {K : PySem.W.Frag} {mg mb : Str → Option Value} {k n : Nat} {fa a : Addr} {x : Str} {s : Shared} {vs : List Value} {ns : List Int}
    (X : K.In s.heap) (N : s.heap.Ns mainGlobals mg) (B : s.heap.Ns builtinsNs mb) (boot : ∀ x : Str, x ≠ "__name__" → mb x = bootBuiltins x) (lim : s.heap.NoLimit) (noGens : s.gens = #[])
    (main : ∃ (bm : Addr) (ob : Obj), mg "__builtins__" = some (.ref bm) ∧ bm ≠ builtinsNs ∧ s.heap.get? bm = some ob ∧ ob.cls = .type "module" ∧ ob.dict = some builtinsNs ∧ ob.data = .plain)
    (script : s.heap.get? a = some { cls := .type "list", data := .seq vs.toArray }) (areInts : IntsAre vs ns) (few : ns.length ≤ n) (line : n ≤ sizeLine) (bits : ∀ z ∈ ns, Builtin.Int.intBits z ≤ 1048576) (room : Room k callerA) (L : LawEnd l w K k n x mg fa s.heap) :
    codeAny (model l.prog w) callerA (.call (.ref fa) ⟨[.ref a], []⟩) (fun r s' => r = .ok (.ret (.bool true)) ∧ OldK s.heap s'.heap ∧ s'.os = s.os ∧ AllBare s'.gens) s := by
  obtain ⟨fd, tabs, sp, tab, binds, promise, fn⟩ := L
  have vals := vals_ints areInts
  have many := areInts.length
  have isTab : ∀ b ∈ tabs.map (·.2), s.heap.get? b = some { cls := .none, data := .fields #[] } := fun b hb => by
    obtain ⟨q, hq, z⟩ := List.mem_map.mp hb
    rw [← z]
    exact (tab q hq).1
  have apart : a ∉ tabs.map (·.2) := fun z => by
    have z2 := isTab a z
    rw [script] at z2
    cases z2
  have asTab : ∀ q ∈ tabs, q.2 ∈ tabs.map (·.2) := fun q hq => List.mem_map.mpr ⟨q, hq, rfl⟩
  -- from what is tracked at first: the tables, and the script where it is no object of the top
  have start_ : ∀ H : Hp, (∀ q ∈ tabs, H q.2 = some (.tbl #[])) → (∀ b, b ∉ tabs.map (·.2) → H b = none ∨ (b = a ∧ H b = some (.frz { cls := .type "list", data := .seq vs.toArray } (.lst (ns.map V.int))))) → (H a ≠ none → K.lookup a = none) → SqL K H a (ns.map V.int) →
      codeAny (model l.prog w) callerA (.call (.ref fa) ⟨[.ref a], []⟩) (fun r s' => r = .ok (.ret (.bool true)) ∧ OldK s.heap s'.heap ∧ s'.os = s.os ∧ AllBare s'.gens) s := by
    intro H onTab else_ outA read
    have cases_ : ∀ b u, H b = some u → (b ∈ tabs.map (·.2) ∧ u = .tbl #[]) ∨ (b = a ∧ u = .frz { cls := .type "list", data := .seq vs.toArray } (.lst (ns.map V.int))) := fun b u q => by
      by_cases hb : b ∈ tabs.map (·.2)
      · obtain ⟨t, ht, z⟩ := List.mem_map.mp hb
        have z2 := onTab t ht
        rw [z, q] at z2
        exact .inl ⟨hb, Option.some.inj z2⟩
      · rcases else_ b hb with z | ⟨z, z2⟩
        · rw [q] at z
          cases z
        · rw [q] at z2
          exact .inr ⟨z, Option.some.inj z2⟩
    have F : First K s.heap H := by
      refine ⟨fun b hb => ?_, fun b o hb get => ?_⟩
      · obtain ⟨u, q⟩ := Option.ne_none_iff_exists'.mp hb
        rcases cases_ b u q with ⟨z, _⟩ | ⟨z, _⟩
        · obtain ⟨t, ht, e⟩ := List.mem_map.mp z
          rw [← e]
          exact (tab t ht).2.1
        · rw [z] at hb ⊢
          exact outA hb
      · obtain ⟨u, q⟩ := Option.ne_none_iff_exists'.mp hb
        rcases cases_ b u q with ⟨z, _⟩ | ⟨z, _⟩
        · rw [isTab b z] at get
          cases get
          exact .inr rfl
        · rw [z, script] at get
          cases get
          exact .inl ⟨_, _, rfl⟩
    have ok : HOk l.prog w H s.heap := fun b u q => by
      rcases cases_ b u q with ⟨z, rfl⟩ | ⟨rfl, rfl⟩
      · exact isTab b z
      · exact ⟨script, by rw [List.length_map]; exact Nat.le_trans few line, vs, _, vals, script⟩
    have G := fn _ (F.part X) (F.names N) fun q hq => F.table N (tab q hq).1 (tab q hq).2.2 main
    refine codeAny_mono (G.run callerA [] s H ⟨[.ref a], []⟩ [.ref a] [.ref a] _ _ room rfl (F.env X N B boot lim noGens ok) (binds s (.ref a)) (.cons rfl .nil) (promise H a ns few bits onTab read)) fun r s' got => ?_
    match r, got with
    | .error _, got => exact got.elim
    | .ok .next, got => exact got.elim
    | .ok .brk, got => exact got.elim
    | .ok .cont, got => exact got.elim
    | .ok (.ret u), ⟨v, H', os, bare, un, ok', rv, fin⟩ =>
      cases (show v = .bl true from fin)
      cases (show u = Value.bool true from rv)
      have grown : ∀ b, b ∈ tabs.map (·.2) → ∃ more : Array Value, s'.heap.get? b = some { cls := .none, data := .fields more } := fun b hb => by
        obtain ⟨t, ht, e⟩ := List.mem_map.mp hb
        obtain ⟨more, z⟩ := un.tbls t.2 #[] (onTab t ht)
        rw [← e]
        exact ⟨_, ok' t.2 _ z⟩
      have kept : ∀ b o, b ∉ tabs.map (·.2) → s.heap.get? b = some o → s'.heap.get? b = some o := fun b o hb get => by
        rcases else_ b hb with z | ⟨rfl, z⟩
        · exact un.keep b o get z (fun y => nomatch (show b ∈ ([] : List Addr) from y)) (fun y => nomatch y)
        · obtain ⟨z1, _⟩ := ok b _ z
          obtain ⟨z2, _⟩ := ok' b _ (un.frzs b _ _ z)
          rw [get] at z1
          cases z1
          exact z2
      refine ⟨rfl, ⟨fun b o get => ?_, fun b o get => ?_⟩, os, bare⟩
      · by_cases hb : b ∈ tabs.map (·.2)
        · obtain ⟨more, z⟩ := grown b hb
          obtain ⟨t, ht, e⟩ := List.mem_map.mp hb
          have z0 := isTab b hb
          rw [get] at z0
          cases z0
          rw [← e] at get z ⊢
          exact .inr (.inl ⟨((tab t ht).2.2.tab get).isCodeTable, rfl, #[], more, rfl, by rw [Array.empty_append]; exact z⟩)
        · exact .inl (kept b o hb get)
      · by_cases hb : b ∈ tabs.map (·.2)
        · obtain ⟨more, z⟩ := grown b hb
          exact ⟨_, z⟩
        · exact ⟨o, kept b o hb get⟩
  cases inTop : K.lookup a with
  | some o =>
    have same := X a o inTop
    rw [script] at same
    cases same
    refine start_ (fun b => if b ∈ tabs.map (·.2) then some (.tbl #[]) else none) (fun q hq => if_pos (asTab q hq)) (fun b hb => .inl (if_neg hb)) (fun z => absurd (if_neg apart) z)
      (.inr ⟨_, vs.toArray, _, inTop, rfl, rfl, rfl, by rw [List.size_toArray, many]; exact Nat.le_trans few line, by simpa using vals⟩)
  | none =>
    refine start_ (fun b => if b ∈ tabs.map (·.2) then some (.tbl #[]) else if b = a then some (.frz { cls := .type "list", data := .seq vs.toArray } (.lst (ns.map V.int))) else none) (fun q hq => if_pos (asTab q hq)) (fun b hb => ?_) (fun _ => inTop)
      (.inl (.inr ⟨_, (if_neg apart).trans (if_pos rfl)⟩))
    by_cases ba : b = a
    · exact .inr ⟨ba, (if_neg hb).trans (if_pos ba)⟩
    · exact .inl ((if_neg hb).trans (if_neg ba))
/-- the goal that k_head leaves -/
theorem walk_fz {l : PySem.W.OpenLaw} {n k : Nat} {q : Program} {loose : List Str} {XP : (Str → Option Value) → Heap → Prop} {YP : World → Heap → Prop} {d : DefRec} {K : Params → PySem.W.Frag} {x : Str}
    (most : l.most = some n) (line : n ≤ sizeLine) (noDef : d.params.defaults = []) (room : Room k callerA) (part : ∀ (w : World) (h : Heap), YP w h → (K w.params).In h)
    (F : ∀ (w : World) (mg mb : Str → Option Value) (fa : Addr) (h : Heap) (lo : List Str) (mean : ExcName → Option Value), (K w.params).In h → Top q lo mean mg mb h → mg d.name = some (.ref fa) → LawEnd l w (K w.params) k n x mg fa h) :
    PySem.W.WalkO q loose XP YP l.row.toRowW d [] (fun f vs => PySem.call f vs) :=
  Att.attach_callB most noDef fun w _ s₁ mg mb fa _ _ _ _ _ vs ns G Y _ _ _ hmg script areInts few bits noGens =>
    law_end (part w _ Y) G.T.g G.T.b G.T.builtins G.T.nolimit noGens G.T.bmain script areInts few line bits room (F w mg mb fa _ _ _ (part w _ Y) G.T hmg)
end Fz

set_option Elab.async false
set_option linter.all false
set_option maxRecDepth 100000
set_option maxHeartbeats 4000000
/-! Own layer, fifth part: a def read off a class and called; values of any kind; numbers within bounds; data of lists. -/
namespace Fz
open PySem PySem.Spec PyProof.Rows L2
section
variable {X : Cx} {CX : CXT} {k : Nat} {C g : Addr} {mc : Value} {fd : FuncData} {ps : List Str} {sp : Sp} {dvs : List V} {ds : List Value} {E : XK} {o e : Expr} {es : List Expr} {m : Str} {pos apos : Pos} {ta : TE} {t : TA} {pl : Sem Bool}
/-- C.m(e, ..), C a class, m a def of it or of one above it -/
def tClsFn (C : Addr) (sp : Sp) (dvs : List V) (E : XK) (ta : TE) (t : TA) : TE := fun σ H Q => ta σ H fun x H1 => x = .ref C ∧ t σ H1 fun vs H2 => sp (vs ++ dvs) H2 Q E
theorem pe_clsFn (he : PE X o ta) (r : ClX.CRead X.K C mc) (found : PySem.W.findCls X.K (.ref C) mc m = some (.val (.ref g))) (F : FnOk X.prog X.w X.K X.mg X.base CX k g fd ps sp) (room : Room k X.A) (keep : PySem.W.keepIn X.K (.ref g) = true) (binds : L2.Binds X.K fd ps ds) (rd : Vals dvs ds)
    (pass : Passes CX X E) (ha : PA X (e :: es) t) (star : starEach (e :: es) X.env = (false, eval e X.env) :: starEach es X.env := by rfl) (plain : (backTo pos (starEach es X.env)).any (·.1) = false := by rfl)
    (tree : eval (.Call (.Attribute o m apos) (e :: es) [] pos) X.env = (do
      let ov ← eval o X.env
      standAt apos.atName
      let (f, first) ← holding [ov] (getMethod ov m pl)
      callWith pos f first (backTo pos (starEach (e :: es) X.env)) (backToKw pos (keywordEach [] X.env))) := by rfl) :
    PE X (.Call (.Attribute o m apos) (e :: es) [] pos) (tClsFn C sp dvs E ta t) := by
  refine ⟨fun pins s σ H Q I hyp => PySem.W.methodCall_KW (pl := pl) (thn (he.run pins s σ H _ I hyp) fun u s1 ⟨x, H1, I1, rx, isC, rest⟩ => ?_) tree⟩
  subst isC
  obtain rfl : u = Value.ref C := rx
  refine PySem.W.method_cls I1.kIn r.ga (PySem.W.cls_value I1.kIn r.rd found rfl ?_)
  have I2 := I1.tok (s1.toks + 1)
  exact PySem.W.callWith_K (first := []) (h₀ := X.base) I2.ok.mod.kin keep (thn (ha.run pos pins _ σ H1 _ I2 rest) fun us s3 ⟨vs, H3, I3, rv, fin⟩ => ⟨I3.kIn, run_fn F room binds rd pass I3 rv fin⟩) star plain
end

/-! ### values of any kind -/
/-- of a built-in kind, what it holds left open -/
def Kd (H : Hp) : V → Prop
  | .non | .bl _ | .int _ | .str _ => True
  | .ref a => (∃ xs, H a = some (.tup xs)) ∨ (∃ xs, H a = some (.lst xs)) ∨ ∃ kvs, H a = some (.dK kvs)
  | _ => False
theorem Kd.keep {H H' : Hp} {x : V} (h : Kd H x) (k : ∀ a o, x = .ref a → H a = some o → H' a = some o) : Kd H' x := by
  cases x with
  | ref a =>
    rcases h with ⟨xs, h⟩ | ⟨xs, h⟩ | ⟨kvs, h⟩
    · exact .inl ⟨xs, k a _ rfl h⟩
    · exact .inr (.inl ⟨xs, k a _ rfl h⟩)
    · exact .inr (.inr ⟨kvs, k a _ rfl h⟩)
  | _ => exact h
def isIntV : V → Bool
  | .int _ => true
  | .bl _ => true
  | _ => false
def isBlV : V → Bool
  | .bl _ => true
  | _ => false
theorem Kd.isInt {K : PySem.W.Frag} {H : Hp} {x : V} (h : Kd H x) : ∃ t, TyX K H x t ∧ PySem.W.kitOne K t (.type "int") = some (isIntV x) ∧ PySem.W.kitOne K t (.type "bool") = some (isBlV x) := by
  cases x with
  | non => exact ⟨_, .base .non, kit_ty (show kitB "NoneType" "int" = some false by decide +kernel), kit_ty (show kitB "NoneType" "bool" = some false by decide +kernel)⟩
  | bl b => exact ⟨_, .base (.bl b), kit_ty (show kitB "bool" "int" = some true by decide +kernel), kit_ty (show kitB "bool" "bool" = some true by decide +kernel)⟩
  | int i => exact ⟨_, .base (.int i), kit_ty (show kitB "int" "int" = some true by decide +kernel), kit_ty (show kitB "int" "bool" = some false by decide +kernel)⟩
  | str z => exact ⟨_, .base (.str z), kit_ty (show kitB "str" "int" = some false by decide +kernel), kit_ty (show kitB "str" "bool" = some false by decide +kernel)⟩
  | ref a =>
    rcases h with ⟨xs, h⟩ | ⟨xs, h⟩ | ⟨kvs, h⟩
    · exact ⟨_, .base (.tup h), kit_ty (show kitB "tuple" "int" = some false by decide +kernel), kit_ty (show kitB "tuple" "bool" = some false by decide +kernel)⟩
    · exact ⟨_, .base (.lst h), kit_ty (show kitB "list" "int" = some false by decide +kernel), kit_ty (show kitB "list" "bool" = some false by decide +kernel)⟩
    · exact ⟨_, .base (.dK h), kit_ty (show kitB "dict" "int" = some false by decide +kernel), kit_ty (show kitB "dict" "bool" = some false by decide +kernel)⟩
  | byt _ => exact h.elim
  | flt _ => exact h.elim
  | ty _ => exact h.elim
/-- an int (no bool) within bounds -/
def numV (lo hi : Int) : V → Bool
  | .int i => decide (lo ≤ i) && decide (i ≤ hi)
  | _ => false
theorem numV_is {lo hi : Int} {x : V} (h : numV lo hi x = true) : ∃ i, x = .int i ∧ lo ≤ i ∧ i ≤ hi := by
  cases x with
  | int i =>
    obtain ⟨a, b⟩ := Bool.and_eq_true_iff.mp h
    exact ⟨i, rfl, of_decide_eq_true a, of_decide_eq_true b⟩
  | _ => exact absurd (show false = true from h) Bool.false_ne_true
theorem small_log {m : Int} (h0 : 0 < m) (h1 : m ≤ 10 ^ 40) : m.natAbs.log2 < 9000 := by
  have h2 : m.natAbs < 2 ^ 9000 := Nat.lt_of_le_of_lt (show m.natAbs ≤ 10 ^ 40 by omega) (by decide +kernel)
  exact (Nat.log2_lt (by omega)).mpr h2

/-! ### data -/
theorem dp_ints {K : PySem.W.Frag} {H : Hp} : ∀ ns : List Int, DpAll K H (ns.map V.int) (ns.map PyData.int)
  | [] => .nil
  | n :: ns => .cons (.int n) (dp_ints ns)
theorem lay_ints : ∀ ns : List Int, PyData.canLayAll0 (ns.map PyData.int) = true
  | [] => by simp only [List.map_nil, PyData.canLayAll0]
  | n :: ns => by
    have ih := lay_ints ns
    simp only [List.map_cons, PyData.canLayAll0, PyData.canLay0, ih, Bool.and_self]
theorem depth_ints : ∀ ns : List Int, PyData.depthAll (ns.map PyData.int) ≤ 1
  | [] => by simp only [List.map_nil, PyData.depthAll]; omega
  | n :: ns => by
    have ih := depth_ints ns
    simp only [List.map_cons, PyData.depthAll, PyData.depth]
    omega
theorem shaped_ints (ns : List Int) : SeqAt.shaped (.list (ns.map PyData.int)) = true := by
  have h1 := depth_ints ns
  have h2 : PyData.depth (.list (ns.map PyData.int)) ≤ 64 := by
    simp only [PyData.depth]
    omega
  show (PyData.canLay0 (.list (ns.map PyData.int)) && decide (PyData.depth (.list (ns.map PyData.int)) ≤ 64)) = true
  rw [Bool.and_eq_true]
  exact ⟨by simp only [PyData.canLay0]; exact lay_ints ns, decide_eq_true h2⟩
theorem at_mod {xs : List V} (i : Int) (h : 0 < xs.length) : ∃ x, x ∈ xs ∧ atI xs (i % (xs.length : Int)) = some x := by
  have hp := mod_place (i := i) h
  have e : xs[(i % (xs.length : Int)).toNat]? = some xs[(i % (xs.length : Int)).toNat] := List.getElem?_eq_getElem hp.1
  refine ⟨_, List.getElem_mem hp.1, ?_⟩
  have z := atI_nat e
  rw [hp.2] at z
  exact z
theorem at_in {xs : List V} {i : Int} (h0 : 0 ≤ i) (h1 : i < xs.length) : ∃ x, x ∈ xs ∧ atI xs i = some x := by
  have hn : i.toNat < xs.length := by omega
  have e : xs[i.toNat]? = some xs[i.toNat] := List.getElem?_eq_getElem hn
  refine ⟨_, List.getElem_mem hn, ?_⟩
  have z := atI_nat e
  rw [show ((i.toNat : Nat) : Int) = i by omega] at z
  exact z
end Fz

set_option Elab.async false
set_option linter.all false
set_option maxRecDepth 100000
set_option maxHeartbeats 4000000
/-! Own layer, sixth part: the text of a list of numbers is short. -/
namespace Fz
open PySem PySem.Spec PyProof.Rows L2
section
variable {X : Cx} {e : Expr} {t : TE}
/-- a reading, closed -/
structure Box (t : TE) (σ : L2.St) (H : Hp) (Q : VK) : Prop where
  open_ : t σ H Q
theorem pe_box (h : PE X e t) : PE X e (Box t) := ⟨fun pins s σ H Q I h' => h.run pins s σ H Q I h'.open_⟩
/-- a reading may be asked for less -/
def tWeak (t : TE) : TE := fun σ H Q => ∃ Q' : VK, t σ H Q' ∧ ∀ x H', Q' x H' → Q x H'
theorem pe_weak (h : PE X e t) : PE X e (tWeak t) :=
  ⟨fun pins s σ H Q I ⟨Q', h', k⟩ => wpAny_mono (h.run pins s σ H Q' I h') (fun _ _ ⟨x, H1, I1, r, q⟩ => ⟨x, H1, I1, r, k _ _ q⟩) fun _ _ z => z⟩
end
/-- the rule for a def of the law that may ask for repr -/
theorem funG {P : Program} {w : World} {K : PySem.W.Frag} {mg : Str → Option Value} {base : Heap} {x qual : Str} {st : Stmt} {f : Addr} {fd : FuncData} {N ps : List Str} {k : Nat} {sp : Sp} (F : Fun K x qual st f fd) (S : FnScope N ps (defScope st)) (len : ∀ vs H Q E, sp vs H Q E → vs.length = ps.length)
    (walk : ∀ (cdv : Value) (A : Around) (outer : List Env) (s : Shared) (H : Hp) (vs : List V) (Q : VK) (E : XK), fd.code = cdv → Room k (A.deeper (envOfC qual (defScope st) s.heap.objs.size f cdv)) → A.guards = some [] → sp vs H Q E →
      ∃ t, PSs (cxOf CX0 P w K mg base N qual (defScope st) f cdv A outer s H E).nox (defBody st) t ∧ t { nx := fun _ H' => Q .non H', rt := Q } (start N vs) H) : FnG P w K mg base CX0 (k + 1) f fd ps sp := by
  obtain ⟨oc, od, kV, doc, pm, an, cdv, ct, osl, rfl, lk, code⟩ := F.ex
  refine fnG_of lk code S len fun A outer s H vs Q E room clear h => ?_
  obtain ⟨t, ht, hq⟩ := walk cdv A outer s H vs Q E rfl room clear h
  exact ⟨t, ht.nox, hq⟩
theorem textFrom_most (m : Nat) : ∀ (ts : List Str) (k : Nat) (acc : Str), (∀ t ∈ ts, t.length ≤ m) → (textFrom k acc ts).length ≤ acc.length + ts.length * (m + 2)
  | [], k, acc, _ => by
    show acc.length ≤ _
    omega
  | t :: r, k, acc, h => by
    have ih := textFrom_most m r (k + 1) (acc ++ (if k > 0 then ", " else "" : String) ++ t) fun u hu => h u (List.mem_cons_of_mem _ hu)
    have ht := h t List.mem_cons_self
    have e : (acc ++ (if k > 0 then ", " else "" : String) ++ t).length ≤ acc.length + 2 + t.length := by
      rw [strLen_append, strLen_append]
      split
      · have z : (Str.ofString ", ").length = 2 := by decide +kernel
        show acc.length + (Str.ofString ", ").length + t.length ≤ _
        omega
      · have z : (Str.ofString "").length = 0 := by decide +kernel
        show acc.length + (Str.ofString "").length + t.length ≤ _
        omega
    show (textFrom (k + 1) _ r).length ≤ _
    have l : (t :: r).length = r.length + 1 := rfl
    rw [l, Nat.add_mul]
    omega
theorem shown_int_short {n : Int} (h0 : 0 ≤ n) (h1 : n < 10 ^ 10) : (PyData.shown (.int n)).length ≤ 10 := by
  rw [PyData.shown]
  exact toString_length_le h0 (by decide) h1
theorem shownAll_ints : ∀ ns : List Int, PyData.shownAll (ns.map PyData.int) = ns.map fun n => PyData.shown (.int n)
  | [] => by simp only [List.map_nil, PyData.shownAll]
  | n :: ns => by
    have ih := shownAll_ints ns
    simp only [List.map_cons, PyData.shownAll, ih]
theorem text_ints {ns : List Int} (h : ∀ n ∈ ns, 0 ≤ n ∧ n < 10 ^ 10) (l : ns.length ≤ 1000) : (PyData.shown (.list (ns.map PyData.int))).length ≤ sizeLine := by
  rw [PyData.shown, shownAll_ints]
  have z := textFrom_most 10 (ns.map fun n => PyData.shown (.int n)) 0 "[" fun t ht => by
    obtain ⟨n, hn, e⟩ := List.mem_map.mp ht
    rw [← e]
    exact shown_int_short (h n hn).1 (h n hn).2
  rw [List.length_map] at z
  have z1 : (Str.ofString "[").length = 1 := by decide +kernel
  have z2 : (Str.ofString "]").length = 1 := by decide +kernel
  have z3 : (textFrom 0 "[" (ns.map fun n => PyData.shown (.int n))).length ≤ 1 + ns.length * 12 := by
    rw [← z1]
    exact z
  show (textFrom 0 "[" _ ++ Str.ofString "]").length ≤ sizeLine
  rw [strLen_append]
  show _ ≤ 16777216
  omega
theorem showable_ints : ∀ {ns : List Int}, (∀ n ∈ ns, 0 ≤ n ∧ n < 10 ^ 10) → PyData.showableAll (ns.map PyData.int) = true
  | [], _ => by simp only [List.map_nil, PyData.showableAll]
  | n :: ns, h => by
    have ih := showable_ints (ns := ns) fun m hm => h m (List.mem_cons_of_mem _ hm)
    obtain ⟨h0, h1⟩ := h n List.mem_cons_self
    have z : n.natAbs.log2 < 1920 := by
      have h2 : n.natAbs < 2 ^ 1920 := Nat.lt_of_lt_of_le (show n.natAbs < 10 ^ 10 by omega) (by decide +kernel)
      by_cases e : n.natAbs = 0
      · rw [e]
        decide +kernel
      · exact (Nat.log2_lt e).mpr h2
    simp only [List.map_cons, PyData.showableAll, PyData.showable, ih, decide_eq_true z, Bool.and_self]
theorem noDict_ints : ∀ ns : List Int, PyData.hasDictAll (ns.map PyData.int) = false
  | [] => by simp only [List.map_nil, PyData.hasDictAll]
  | n :: ns => by
    have ih := noDict_ints ns
    simp only [List.map_cons, PyData.hasDictAll, PyData.hasDict, ih, Bool.or_self]
/-- repr of a list of numbers, in the words that call_repD asks for -/
theorem rep_ints {K : PySem.W.Frag} {H : Hp} {Q : VK} {l : Addr} {ns : List Int} (hl : H l = some (.lst (ns.map V.int))) (h : ∀ n ∈ ns, 0 ≤ n ∧ n < 10 ^ 10) (few : ns.length ≤ 1000) (fin : Q (.str (PyData.shown (.list (ns.map PyData.int)))) H) : rRepD K [.ref l] H Q := by
  refine ⟨⟨l, _, rfl, Dp.lst (SqL.of hl) (dp_ints ns), ?_, ?_, ?_, text_ints h few, fin⟩⟩
  · rw [PyData.showable]
    exact showable_ints h
  · rw [PyData.hasDict]
    exact noDict_ints ns
  · have z := depth_ints ns
    rw [PyData.depth]
    omega
end Fz

set_option Elab.async false
set_option linter.all false
set_option maxRecDepth 100000
set_option maxHeartbeats 2000000
/-! Own layer, seventh part: the words of the laws on rules: the pen, numbers, errors, rules, what is heard. -/
namespace Fz
open PySem PySem.Spec PyProof.Rows L2
/-- at p: the pen, of which at most n draws were made -/
def PenAt (n : Nat) (H : Hp) (p q : Addr) : Prop := ∃ (ns : List Int) (spot great : Int), H p = some (.lst [.ref q, .int spot, .int great]) ∧ H q = some (.lst (ns.map V.int)) ∧ q ≠ p ∧ ns.length ≤ 63 ∧ 0 ≤ spot ∧ spot ≤ n
/-- all but what stands at p is as it was -/
def Mv (p : Addr) (H H' : Hp) : Prop := ∀ b o, b ≠ p → H b = some o → H' b = some o
theorem Mv.refl (p : Addr) (H : Hp) : Mv p H H := fun _ _ _ z => z
theorem Mv.trans {p : Addr} {H H1 H2 : Hp} (a : Mv p H H1) (b : Mv p H1 H2) : Mv p H H2 := fun c o n z => b c o n (a c o n z)
theorem Mv.new {p l : Addr} {H : Hp} {o : HO} (h : H l = none) : Mv p H (upd H l o) := fun b u _ z => by
  rw [upd_ne (ne_of_none z h)]
  exact z
theorem Mv.here {p : Addr} {H : Hp} {o : HO} : Mv p H (upd H p o) := fun b u n z => by
  rw [upd_ne n]
  exact z
theorem PenAt.ne {n : Nat} {H : Hp} {p q : Addr} (h : PenAt n H p q) : q ≠ p := let ⟨_, _, _, _, _, z, _⟩ := h; z
theorem PenAt.there {n : Nat} {H : Hp} {p q : Addr} (h : PenAt n H p q) : H p ≠ none ∧ H q ≠ none := by
  obtain ⟨_, _, _, a, b, _⟩ := h
  exact ⟨fun z => (by rw [a] at z; cases z), fun z => (by rw [b] at z; cases z)⟩
theorem PenAt.fresh {n : Nat} {H : Hp} {p q l : Addr} (h : PenAt n H p q) (hl : H l = none) : l ≠ p ∧ l ≠ q := by
  obtain ⟨a, b⟩ := h.there
  exact ⟨fun z => a (z ▸ hl), fun z => b (z ▸ hl)⟩
theorem PenAt.keep {n m : Nat} {H H' : Hp} {p q : Addr} (h : PenAt n H p q) (le : n ≤ m) (kp : H' p = H p) (kq : H' q = H q) : PenAt m H' p q := by
  obtain ⟨ns, spot, great, a, b, c, d, e, f⟩ := h
  exact ⟨ns, spot, great, by rw [kp]; exact a, by rw [kq]; exact b, c, d, e, by omega⟩
theorem PenAt.put {n : Nat} {H : Hp} {p q l : Addr} {o : HO} (h : PenAt n H p q) (hp : l ≠ p) (hq : l ≠ q) : PenAt n (upd H l o) p q := h.keep (Nat.le_refl _) (upd_ne (Ne.symm hp)) (upd_ne (Ne.symm hq))
theorem PenAt.new {n : Nat} {H : Hp} {p q l : Addr} {o : HO} (h : PenAt n H p q) (hl : H l = none) : PenAt n (upd H l o) p q := h.put (h.fresh hl).1 (h.fresh hl).2
theorem PenAt.same {n : Nat} {H H' : Hp} {p q : Addr} (h : PenAt n H p q) (s : Same H H') : PenAt n H' p q := by
  obtain ⟨ns, spot, great, a, b, c⟩ := h
  exact ⟨ns, spot, great, s _ _ a, s _ _ b, c⟩
theorem PenAt.more {n m : Nat} {H : Hp} {p q : Addr} (h : PenAt n H p q) (le : n ≤ m) : PenAt m H p q := h.keep le rfl rfl
theorem PenAt.lst {n : Nat} {H : Hp} {p q : Addr} (h : PenAt n H p q) : ∃ xs, H p = some (.lst xs) := by
  obtain ⟨_, _, _, a, _⟩ := h
  exact ⟨_, a⟩
theorem PenAt.ext {n : Nat} {H H' : Hp} {p q : Addr} (h : PenAt n H p q) (s : LamX.ExtN H H') : PenAt n H' p q := by
  obtain ⟨ns, spot, great, a, b, c⟩ := h
  exact ⟨ns, spot, great, s _ _ a (fun _ z => nomatch z), s _ _ b (fun _ z => nomatch z), c⟩
theorem PenAt.mv {n : Nat} {H H' : Hp} {p q r : Addr} (h : PenAt n H p q) (m : Mv r H H') (hp : r ≠ p) (hq : r ≠ q) : PenAt n H' p q := by
  obtain ⟨ns, spot, great, a, b, c⟩ := h
  exact ⟨ns, spot, great, m _ _ (Ne.symm hp) a, m _ _ (Ne.symm hq) b, c⟩
/-- the names that the laws mean as Python means them -/
structure Blt (mg : Str → Option Value) : Prop where
  z_int : mg "int" = none
  z_len : mg "len" = none
  z_abs : mg "abs" = none
  z_list : mg "list" = none
  z_range : mg "range" = none
  z_isinstance : mg "isinstance" = none
  z_repr : mg "repr" = none
  z_bool : mg "bool" = none
  z_tuple : mg "tuple" = none
  z_str : mg "str" = none
  z_max : mg "max" = none
  z_min : mg "min" = none
  z_dict : mg "dict" = none
  z_set : mg "set" = none
  z_sorted : mg "sorted" = none
  z_sum : mg "sum" = none
  z_all : mg "all" = none
  z_any : mg "any" = none
  z_zip : mg "zip" = none
  z_enumerate : mg "enumerate" = none
  z_reversed : mg "reversed" = none
def spPen (K : PySem.W.Frag) : Sp := fun vs H Q _ => ∃ (a : Addr) (ns : List Int), vs = [.ref a] ∧ SqL K H a (ns.map V.int) ∧ ns.length ≤ 63 ∧ ∀ H' p q, H p = none → H q = none → PenAt 0 H' p q → Same H H' → Q (.ref p) H'
def spDraw : Sp := fun vs H Q _ => ∃ (n : Nat) (p q : Addr) (m : Int), vs = [.ref p, .int m] ∧ PenAt n H p q ∧ n < 100000 ∧ 0 < m ∧ m.natAbs.log2 < 9000 ∧ ∀ H' r, PenAt (n + 1) H' p q → Mv p H H' → 0 ≤ r → r < m → Q (.int r) H'
def spPick (K : PySem.W.Frag) : Sp := fun vs H Q _ => ∃ (n : Nat) (p q l : Addr) (xs : List V), vs = [.ref p, .ref l] ∧ PenAt n H p q ∧ n < 100000 ∧ l ≠ p ∧ H l = some (.lst xs) ∧ 0 < xs.length ∧ xs.length ≤ 1000 ∧ ∀ H' x, PenAt (n + 1) H' p q → Mv p H H' → x ∈ xs → Q x H'
/-- the rank of a rule -/
def rankI (k a b c e : Int) : Int := (((k * 401 + a) * 401 + b) * 401 + c) * 401 + e
def spNum : Sp := fun vs H Q _ => ∃ (x : V) (lo hi : Int), vs = [x, .int lo, .int hi] ∧ Kd H x ∧ Q (.bl (numV lo hi x)) H
def spBadI (C : Addr) : Sp := fun vs H Q _ => ∃ (a : Addr) (v : V), vs = [.ref a, v] ∧ H a = some (exo a C none) ∧ ∀ d, H d = none → d ≠ a → Q .non (upd (upd H d (exd d [("part", v)])) a (exo a C (some d)))
/-- a BadRule of this part may leave -/
def Bad (C : Addr) (E : XK) (H : Hp) (z : Str) : Prop := ∀ d, H d = none → E (.ref C) (some d) (upd H d (.xd [("part", .str z)]))
def spRank : Sp := fun vs H Q _ => ∃ k a b c e : Int, vs = [.int k, .int a, .int b, .int c, .int e] ∧ 0 ≤ k ∧ k ≤ 1 ∧ 0 ≤ a ∧ a ≤ 400 ∧ 0 ≤ b ∧ b ≤ 400 ∧ 0 ≤ c ∧ c ≤ 400 ∧ 0 ≤ e ∧ e ≤ 400 ∧ ∀ H', Same H H' → Q (.int (rankI k a b c e)) H'
/-- the wrong one of rest and modulus -/
def dueR (r m : V) : Option Str := if numV 1 6 m = true then (match m with | .int i => if numV 0 (i - 1) r = true then none else some "rest" | _ => none) else some "modulus"
def spRested (CB C : Addr) : Sp := fun vs H Q E => ∃ (x dx : Addr) (fs : List (Str × V)) (r m : V), vs = [.ref x, r, m] ∧ H x = some (.ins C dx fs) ∧ fs.length < 900 ∧ Kd H r ∧ Kd H m ∧ (∀ z, dueR r m = some z → Bad CB E H z) ∧
  (dueR r m = none → Q .non (upd H x (.ins C dx (putF "modulus" m (putF "rest" r fs)))))
/-- the wrong one of size and leave -/
def dueS (s l : V) : Option Str := if numV 1 400 s = true then (if numV 0 400 l = true then none else some "leave") else some "size"
def spSized (CB C : Addr) : Sp := fun vs H Q E => ∃ (x dx : Addr) (fs : List (Str × V)) (s l : V), vs = [.ref x, s, l] ∧ H x = some (.ins C dx fs) ∧ fs.length < 900 ∧ Kd H s ∧ Kd H l ∧ (∀ z, dueS s l = some z → Bad CB E H z) ∧
  (dueS s l = none → Q .non (upd H x (.ins C dx (putF "leave" l (putF "size" s fs)))))
/-- the wrong one of the parts of a Down -/
def dueD (t r m : V) : Option Str := if numV 0 400 t = true then dueR r m else some "to"
def dfs (t r m k : Int) : List (Str × V) := putF "rank" (.int k) (putF "start" (.int (t + 1)) (putF "to" (.int t) (putF "modulus" (.int m) (putF "rest" (.int r) []))))
def spDown (CB CD : Addr) : Sp := fun vs H Q E => ∃ (x dx : Addr) (t r m : V), vs = [.ref x, t, r, m] ∧ H x = some (.ins CD dx []) ∧ Kd H t ∧ Kd H r ∧ Kd H m ∧ (∀ z, dueD t r m = some z → Bad CB E H z) ∧
  (∀ (ti ri mi : Int) (H' : Hp), t = .int ti → r = .int ri → m = .int mi → dueD t r m = none → Mv x H H' → H' x = some (.ins CD dx (dfs ti ri mi (rankI 1 ti mi ri 0))) → Q .non H')
/-- the wrong one of the parts of a Fixed -/
def dueF (s r m l : V) : Option Str := match dueS s l with
  | some z => some z
  | none => dueR r m
def ffs (s r m l k : Int) : List (Str × V) := putF "rank" (.int k) (putF "start" (.int (s + l)) (putF "modulus" (.int m) (putF "rest" (.int r) (putF "leave" (.int l) (putF "size" (.int s) [])))))
def spFixed (CB CF : Addr) : Sp := fun vs H Q E => ∃ (x dx : Addr) (s r m l : V), vs = [.ref x, s, r, m, l] ∧ H x = some (.ins CF dx []) ∧ Kd H s ∧ Kd H r ∧ Kd H m ∧ Kd H l ∧ (∀ z H', dueF s r m l = some z → Mv x H H' → Bad CB E H' z) ∧
  (∀ (si ri mi li : Int) (H' : Hp), s = .int si → r = .int ri → m = .int mi → l = .int li → dueF s r m l = none → Mv x H H' → H' x = some (.ins CF dx (ffs si ri mi li (rankI 0 si mi ri li))) → Q .non H')
/-- what the rules' makers ask of the module -/
structure PrgB (K : PySem.W.Frag) (mg : Str → Option Value) (CRl CB fB : Addr) : Prop where
  g_Rule : mg "Rule" = some (.ref CRl)
  g_BadRule : mg "BadRule" = some (.ref CB)
  rdRl : ClX.CRead K CRl (.type "type")
  most : ∃ u, ClX.CVal K CRl (.type "type") "MOST" (.int 400) u
  mostM : ∃ u, ClX.CVal K CRl (.type "type") "MOST_MODULUS" (.int 6) u
  oB : OexC K CB
  nPart : PySem.W.findIn K (.ref CB) "part" = some none
  iB : PySem.W.findIn K (.ref CB) "__init__" = some (some (.ref fB))
  tB : PySem.W.typeIn K (.ref fB) = some (.type "function")
/-- a class whose maker is called by name -/
structure BaseC (K : PySem.W.Frag) (C f : Addr) : Prop where
  rd : ClX.CRead K C (.type "type")
  fn : PySem.W.findCls K (.ref C) (.type "type") "__init__" = some (.val (.ref f))
/-- a class of rules -/
structure InsC (K : PySem.W.Frag) (C : Addr) : Prop where
  cl : Cls K C
  nTo : NoAttr K C "to"
  nSize : NoAttr K C "size"
  nLeave : NoAttr K C "leave"
  nRest : NoAttr K C "rest"
  nModulus : NoAttr K C "modulus"
  nStart : NoAttr K C "start"
  nRank : NoAttr K C "rank"
/-- isinstance may be asked of its objects -/
structure TyC (K : PySem.W.Frag) (C : Addr) : Prop where
  ga : PySem.W.findIn K (.ref C) "__class__" = some (some (.builtin "object.__class__"))
  gn : PySem.W.specialIn K (.builtin "object.__class__") "__get__" = some (some (.builtin "getset_descriptor.__get__"))
  gt : PySem.W.takesIn K (.builtin "object.__class__") = some true
  gm : PySem.W.mroIn K C (.type "object") = some true
theorem TyC.ty {K : PySem.W.Frag} {C x dx : Addr} {H : Hp} {fs : List (Str × V)} (t : TyC K C) (c : Cls K C) (h : H x = some (.ins C dx fs)) : TyX K H (.ref x) (.ref C) := .base (.ins h c t.ga t.gn t.gt t.gm)
theorem int_of_num {lo hi : Int} {x : V} (h : numV lo hi x = true) : ∃ i, x = .int i ∧ lo ≤ i ∧ i ≤ hi := numV_is h
theorem dueS_none {s l : V} (h : dueS s l = none) : ∃ si li : Int, s = .int si ∧ l = .int li ∧ 1 ≤ si ∧ si ≤ 400 ∧ 0 ≤ li ∧ li ≤ 400 := by
  unfold dueS at h
  split at h
  · rename_i e1
    split at h
    · rename_i e2
      obtain ⟨si, rfl, s0, s1⟩ := numV_is e1
      obtain ⟨li, rfl, l0, l1⟩ := numV_is e2
      exact ⟨si, li, rfl, rfl, s0, s1, l0, l1⟩
    · cases h
  · cases h
theorem dueR_none {r m : V} (h : dueR r m = none) : ∃ ri mi : Int, r = .int ri ∧ m = .int mi ∧ 0 ≤ ri ∧ ri ≤ mi - 1 ∧ 1 ≤ mi ∧ mi ≤ 6 := by
  unfold dueR at h
  split at h
  · rename_i e2
    obtain ⟨mi, rfl, m0, m1⟩ := numV_is e2
    have h' : (if numV 0 (mi - 1) r = true then none else some ("rest" : Str)) = none := h
    split at h'
    · rename_i e3
      obtain ⟨ri, rfl, r0, r1⟩ := numV_is e3
      exact ⟨ri, mi, rfl, rfl, r0, r1, m0, m1⟩
    · cases h'
  · cases h
theorem dueD_none {t r m : V} (h : dueD t r m = none) : ∃ ti ri mi : Int, t = .int ti ∧ r = .int ri ∧ m = .int mi ∧ 0 ≤ ti ∧ ti ≤ 400 ∧ 0 ≤ ri ∧ ri ≤ mi - 1 ∧ 1 ≤ mi ∧ mi ≤ 6 := by
  unfold dueD at h
  split at h
  · rename_i e1
    obtain ⟨ti, rfl, t0, t1⟩ := numV_is e1
    obtain ⟨ri, mi, rfl, rfl, z⟩ := dueR_none h
    exact ⟨ti, ri, mi, rfl, rfl, rfl, t0, t1, z⟩
  · cases h
theorem dueF_none {s r m l : V} (h : dueF s r m l = none) : ∃ si ri mi li : Int, s = .int si ∧ r = .int ri ∧ m = .int mi ∧ l = .int li ∧ 1 ≤ si ∧ si ≤ 400 ∧ 0 ≤ ri ∧ ri ≤ mi - 1 ∧ 1 ≤ mi ∧ mi ≤ 6 ∧ 0 ≤ li ∧ li ≤ 400 := by
  unfold dueF at h
  split at h
  · cases h
  · rename_i e
    obtain ⟨si, li, rfl, rfl, s0, s1, l0, l1⟩ := dueS_none e
    obtain ⟨ri, mi, rfl, rfl, r0, r1, m0, m1⟩ := dueR_none h
    exact ⟨si, ri, mi, li, rfl, rfl, rfl, rfl, s0, s1, r0, r1, m0, m1, l0, l1⟩
theorem numV_of {lo hi i : Int} (h0 : lo ≤ i) (h1 : i ≤ hi) : numV lo hi (.int i) = true := by
  show (decide (lo ≤ i) && decide (i ≤ hi)) = true
  rw [decide_eq_true h0, decide_eq_true h1] <;> rfl
theorem dueR_of {r m : Int} (r0 : 0 ≤ r) (r1 : r ≤ m - 1) (m0 : 1 ≤ m) (m1 : m ≤ 6) : dueR (.int r) (.int m) = none := by
  unfold dueR
  rw [numV_of m0 m1]
  show (if numV 0 (m - 1) (.int r) = true then none else some ("rest" : Str)) = none
  rw [numV_of r0 r1]
  rfl
theorem dueD_of {t r m : Int} (t0 : 0 ≤ t) (t1 : t ≤ 400) (r0 : 0 ≤ r) (r1 : r ≤ m - 1) (m0 : 1 ≤ m) (m1 : m ≤ 6) : dueD (.int t) (.int r) (.int m) = none := by
  unfold dueD
  rw [numV_of t0 t1, dueR_of r0 r1 m0 m1]
  rfl
theorem dueF_of {s r m l : Int} (s0 : 1 ≤ s) (s1 : s ≤ 400) (r0 : 0 ≤ r) (r1 : r ≤ m - 1) (m0 : 1 ≤ m) (m1 : m ≤ 6) (l0 : 0 ≤ l) (l1 : l ≤ 400) : dueF (.int s) (.int r) (.int m) (.int l) = none := by
  unfold dueF dueS
  rw [numV_of s0 s1, numV_of l0 l1, dueR_of r0 r1 m0 m1]
  rfl
/-- BadRule(z), raised -/
theorem bad_made {C : Addr} {E : XK} {W : WX} {σ : L2.St} {H : Hp} {z : Str} (h : Bad C E H z) (hW : ∀ cls d H', E cls d H' → W cls d σ H') : tMkO C (spBadI C) [] (tCons (tC (.str z)) tNil) σ H (fun cls d H' => W cls d σ H') := by
  refine ⟨(show 1 ≤ 1000 by decide), fun a ha => ⟨a, .str z, rfl, upd_same, fun d hd ne => ⟨rfl, d, _, upd_same, by rw [upd_ne ne, upd_same], by rw [upd_ne ne] at hd; exact hd, ?_⟩⟩⟩
  have hd0 : H d = none := by rw [upd_ne ne] at hd; exact hd
  have e : upd (del (upd (upd (upd H a (exo a C none)) d (exd d [("part", V.str z)])) a (exo a C (some d))) a) d (.xd [("part", V.str z)]) = upd H d (.xd [("part", V.str z)]) := by
    funext b
    by_cases hb : b = d
    · subst hb
      rw [upd_same, upd_same]
    · rw [upd_ne hb, upd_ne hb]
      by_cases hba : b = a
      · subst hba
        rw [del_same, ha]
      · rw [del_ne hba, upd_ne hba, upd_ne hb, upd_ne hba]
  show W (.ref C) (some d) σ (upd (del (upd (upd (upd H a (exo a C none)) d (exd d [("part", V.str z)])) a (exo a C (some d))) a) d (.xd [("part", V.str z)]))
  rw [e]
  exact hW _ _ _ (h d hd0)
/-- what the hearing of an act asks of the program -/
structure PrgE (K : PySem.W.Frag) (mg : Str → Option Value) (CB CF : Addr) : Prop where
  g_FreeError : mg "FreeError" = some (.ref CF)
  hit : PySem.W.exmOne K (.ref CB) (.ref CF) = some true
  exc : ExcC K CB
  xf : XfC K CB
  same : PySem.W.kitOne K (.ref CB) (.ref CB) = some true
/-- what the hearing makes of an act's reading -/
def TTh (CB : Addr) : (XK → Hp → VK → Prop) → Hp → VK → Prop := fun tl H Q => ∀ H1, Same H H1 →
  tl (fun cls d H' => cls = .ref CB ∧ ∃ (dd : Addr) (z : V), d = some dd ∧ H' dd = some (.xd [("part", z)]) ∧ ∀ H'' t, Same H' H'' → H'' t = some (.tup [.str "part", z]) → Q (.ref t) H'')
    H1 (fun x H' => ∀ H'' l, Same H' H'' → H'' l = some (.lst [x]) → Q (.ref l) H'')
/-- a value of a built-in kind, neither the pen nor l -/
def Good (p l : Addr) (H : Hp) (x : V) : Prop := Kd H x ∧ ∀ a, x = .ref a → a ≠ p ∧ a ≠ l
theorem Good.mv {p l : Addr} {H H' : Hp} {x : V} (h : Good p l H x) (m : Mv p H H') : Good p l H' x := ⟨h.1.keep fun a o e z => m a o (h.2 a e).1 z, h.2⟩
theorem Good.put {p l : Addr} {H : Hp} {x : V} {o : HO} (h : Good p l H x) : Good p l (upd H l o) x := ⟨h.1.keep fun a u e z => by rw [upd_ne (h.2 a e).2]; exact z, h.2⟩
theorem Good.int {p l : Addr} {H : Hp} (i : Int) : Good p l H (.int i) := ⟨True.intro, fun _ z => nomatch z⟩
theorem tabs_mv {T : List (Addr × Str)} {H H' : Hp} {p : Addr} {xs : List V} (hp : H p = some (.lst xs)) (m : Mv p H H') (t : LamX.Tabs T H) : LamX.Tabs T H' := fun b hb => by
  obtain ⟨ps, h1, h2, h3⟩ := t b hb
  refine ⟨ps, m _ _ (fun z => by rw [z, hp] at h1; cases h1) h1, h2, fun pos cv hc => ?_⟩
  obtain ⟨c, e1, e2⟩ := h3 pos cv hc
  exact ⟨c, e1, m _ _ (fun z => by rw [z, hp] at e2; cases e2) e2⟩
theorem Kd.ext {H H' : Hp} {x : V} (h : Kd H x) (s : LamX.ExtN H H') : Kd H' x := by
  cases x with
  | ref a =>
    rcases h with ⟨xs, h⟩ | ⟨xs, h⟩ | ⟨kvs, h⟩
    · exact .inl ⟨xs, s _ _ h fun _ z => nomatch z⟩
    · exact .inr (.inl ⟨xs, s _ _ h fun _ z => nomatch z⟩)
    · exact .inr (.inr ⟨kvs, s _ _ h fun _ z => nomatch z⟩)
  | _ => exact h
theorem made_same {H H' : Hp} {x dx C : Addr} (hx : H x = none) (hd : H dx = none) (m : Mv x (upd (upd H dx (.own x)) x (.ins C dx [])) H') : Same H H' := fun b o e => by
  have n1 := ne_of_none e hx
  have n2 := ne_of_none e hd
  exact m b o n1 (by rw [upd_ne n1, upd_ne n2]; exact e)
theorem extN_same {H H1 H2 : Hp} (a : LamX.ExtN H H1) (b : Same H1 H2) : LamX.ExtN H H2 := a.trans (.of b)
theorem Kd.put {H : Hp} {h : Addr} {xs ys : List V} {x : V} (k : Kd H x) (at_ : H h = some (.lst xs)) : Kd (upd H h (.lst ys)) x := by
  cases x with
  | ref a =>
    by_cases e : a = h
    · subst e
      exact .inr (.inl ⟨ys, upd_same⟩)
    · rcases k with ⟨zs, k⟩ | ⟨zs, k⟩ | ⟨zs, k⟩
      · exact .inl ⟨zs, by rw [upd_ne e]; exact k⟩
      · exact .inr (.inl ⟨zs, by rw [upd_ne e]; exact k⟩)
      · exact .inr (.inr ⟨zs, by rw [upd_ne e]; exact k⟩)
  | _ => exact k
theorem Same.new {H : Hp} {l : Addr} {o : HO} (h : H l = none) : Same H (upd H l o) := fun b u e => by
  rw [upd_ne (ne_of_none e h)]
  exact e
theorem Same.mv {H H' : Hp} (s : Same H H') (p : Addr) : Mv p H H' := fun b o _ e => s b o e
theorem Kd.same {H H' : Hp} {x : V} (h : Kd H x) (s : Same H H') : Kd H' x := h.keep fun a o _ e => s a o e
end Fz
set_option Elab.async false
set_option linter.all false
set_option maxRecDepth 100000
set_option maxHeartbeats 2000000
/-! Own layer, eighth part: rules made, and what is heard of their making. -/
namespace Fz
open PySem PySem.Spec PyProof.Rows L2
def toI : V → Int
  | .int i => i
  | _ => 0
/-- what a law hears of a making: the wrong part, or the object in a list -/
def Ans (C : Addr) (due : Option Str) (fs : Int → List (Str × V)) (H : Hp) (v : V) : Prop := (∃ (z : Str) (a : Addr), due = some z ∧ v = .ref a ∧ H a = some (.tup [.str "part", .str z])) ∨
  ∃ (a x dx : Addr) (k : Int), due = none ∧ v = .ref a ∧ H a = some (.lst [.ref x]) ∧ H x = some (.ins C dx (fs k))
section
variable {C CB : Addr} {due : Option Str} {fs : Int → List (Str × V)} {H H' : Hp} {v : V}
theorem Ans.ext (h : Ans C due fs H v) (s : LamX.ExtN H H') : Ans C due fs H' v := by
  rcases h with ⟨z, a, h1, h2, h3⟩ | ⟨a, x, dx, k, h1, h2, h3, h4⟩
  · exact .inl ⟨z, a, h1, h2, s _ _ h3 (fun _ z => nomatch z)⟩
  · exact .inr ⟨a, x, dx, k, h1, h2, s _ _ h3 (fun _ z => nomatch z), s _ _ h4 (fun _ z => nomatch z)⟩
theorem Ans.put {h : Addr} {a1 : V} {o : HO} {C' : Addr} {due' : Option Str} {fs' : Int → List (Str × V)} (k : Ans C due fs H v) (at_ : H h = some (.lst [a1])) (k1 : Ans C' due' fs' H a1) : Ans C due fs (upd H h o) v := by
  have no : ∀ {x C dx fs}, H x = some (.ins C dx fs) → a1 ≠ .ref x := fun {x C dx fs} hx e => by
    rcases k1 with ⟨_, b, _, e2, z⟩ | ⟨b, _, _, _, _, e2, z, _⟩ <;>
    · rw [e] at e2
      cases e2
      rw [hx] at z
      cases z
  rcases k with ⟨z, a, h1, h2, h3⟩ | ⟨a, x, dx, k, h1, h2, h3, h4⟩
  · exact .inl ⟨z, a, h1, h2, by rw [upd_ne (fun e => by rw [e, at_] at h3; cases h3)]; exact h3⟩
  · refine .inr ⟨a, x, dx, k, h1, h2, ?_, ?_⟩
    · rw [upd_ne (fun e => ?_)]
      · exact h3
      · rw [e, at_] at h3
        exact no h4 (List.cons.inj (HO.lst.inj (Option.some.inj h3))).1
    · rw [upd_ne (fun e => by rw [e, at_] at h4; cases h4)]
      exact h4
/-- what stands in the answer of a making -/
abbrev heardNx (Q : VK) : VK := fun x H' => ∀ H'' l, Same H' H'' → H'' l = some (.lst [x]) → Q (.ref l) H''
abbrev heardEx (CB : Addr) (Q : VK) : XK := fun cls d H' => cls = .ref CB ∧ ∃ (dd : Addr) (z : V), d = some dd ∧ H' dd = some (.xd [("part", z)]) ∧ ∀ H'' t, Same H' H'' → H'' t = some (.tup [.str "part", z]) → Q (.ref t) H''
end
section
variable {CD CB : Addr} {H : Hp} {Q : VK} {t r m z l : V} {x dx : Addr}
theorem up_made {C : Addr} (hx : H x = none) (hd : H dx = none) : Same H (upd (upd H dx (.own x)) x (.ins C dx [])) := fun b o e => by rw [upd_ne (ne_of_none e hx), upd_ne (ne_of_none e hd)]; exact e
theorem down_heard (kt : Kd H t) (kr : Kd H r) (km : Kd H m) (hQ : ∀ H' v, Same H H' → Ans CD (dueD t r m) (fun k => dfs (toI t) (toI r) (toI m) k) H' v → Q v H') (hx : H x = none) (hd : H dx = none) :
    spDown CB CD [.ref x, t, r, m] (upd (upd H dx (.own x)) x (.ins CD dx [])) (fun v H' => v = .non ∧ heardNx Q (.ref x) H') (heardEx CB Q) := by
  have up := up_made (C := CD) hx hd
  refine ⟨x, dx, t, r, m, rfl, upd_same, kt.same up, kr.same up, km.same up, fun z hz d hd2 => ⟨rfl, d, .str z, rfl, upd_same, fun H'' a s at_ => ?_⟩, fun ti ri mi H' e1 e2 e3 hz mv at_ => ⟨rfl, fun H'' a s at2 => ?_⟩⟩
  · exact hQ H'' _ (fun b o e => s b o (by rw [upd_ne (ne_of_none (up b o e) hd2)]; exact up b o e)) (.inl ⟨z, a, hz, rfl, at_⟩)
  · cases e1
    cases e2
    cases e3
    exact hQ H'' _ (fun b o e => s b o (made_same hx hd mv b o e)) (.inr ⟨a, x, dx, _, hz, rfl, at2, s _ _ at_⟩)
theorem down_made (kt : Kd H t) (kr : Kd H r) (km : Kd H m) (none_ : dueD t r m = none) {E : XK} (hx : H x = none) (hd : H dx = none)
    (hQ : ∀ H' k, Same H H' → H' x = some (.ins CD dx (dfs (toI t) (toI r) (toI m) k)) → Q (.ref x) H') :
    spDown CB CD [.ref x, t, r, m] (upd (upd H dx (.own x)) x (.ins CD dx [])) (fun v H' => v = .non ∧ Q (.ref x) H') E := by
  have up := up_made (C := CD) hx hd
  refine ⟨x, dx, t, r, m, rfl, upd_same, kt.same up, kr.same up, km.same up, fun z hz => ?_, fun ti ri mi H' e1 e2 e3 hz mv at_ => ⟨rfl, ?_⟩⟩
  · rw [none_] at hz
    cases hz
  · cases e1
    cases e2
    cases e3
    exact hQ H' _ (made_same hx hd mv) at_
theorem fixed_heard (kz : Kd H z) (kr : Kd H r) (km : Kd H m) (kl : Kd H l) (hQ : ∀ H' v, Same H H' → Ans CD (dueF z r m l) (fun k => ffs (toI z) (toI r) (toI m) (toI l) k) H' v → Q v H') (hx : H x = none) (hd : H dx = none) :
    spFixed CB CD [.ref x, z, r, m, l] (upd (upd H dx (.own x)) x (.ins CD dx [])) (fun v H' => v = .non ∧ heardNx Q (.ref x) H') (heardEx CB Q) := by
  have up := up_made (C := CD) hx hd
  refine ⟨x, dx, z, r, m, l, rfl, upd_same, kz.same up, kr.same up, km.same up, kl.same up, fun y H1 hy mv1 d hd2 => ⟨rfl, d, .str y, rfl, upd_same, fun H'' a s at_ => ?_⟩, fun ti ri mi li H' e1 e2 e3 e4 hz mv at_ => ⟨rfl, fun H'' a s at2 => ?_⟩⟩
  · have s1 := made_same hx hd mv1
    exact hQ H'' _ (fun b o e => s b o (by rw [upd_ne (ne_of_none (s1 b o e) hd2)]; exact s1 b o e)) (.inl ⟨y, a, hy, rfl, at_⟩)
  · cases e1
    cases e2
    cases e3
    cases e4
    exact hQ H'' _ (fun b o e => s b o (made_same hx hd mv b o e)) (.inr ⟨a, x, dx, _, hz, rfl, at2, s _ _ at_⟩)
theorem fixed_made (kz : Kd H z) (kr : Kd H r) (km : Kd H m) (kl : Kd H l) (none_ : dueF z r m l = none) {E : XK} (hx : H x = none) (hd : H dx = none)
    (hQ : ∀ H' k, Same H H' → H' x = some (.ins CD dx (ffs (toI z) (toI r) (toI m) (toI l) k)) → Q (.ref x) H') :
    spFixed CB CD [.ref x, z, r, m, l] (upd (upd H dx (.own x)) x (.ins CD dx [])) (fun v H' => v = .non ∧ Q (.ref x) H') E := by
  have up := up_made (C := CD) hx hd
  refine ⟨x, dx, z, r, m, l, rfl, upd_same, kz.same up, kr.same up, km.same up, kl.same up, fun y H1 hy => ?_, fun ti ri mi li H' e1 e2 e3 e4 hz mv at_ => ⟨rfl, ?_⟩⟩
  · rw [none_] at hy
    cases hy
  · cases e1
    cases e2
    cases e3
    cases e4
    exact hQ H' _ (made_same hx hd mv) at_
theorem dueD_some (h : dueD t r m = some x') : x' = ("to" : Str) ∨ x' = "modulus" ∨ x' = "rest" := by
  unfold dueD at h
  split at h
  · unfold dueR at h
    split at h
    · split at h
      · split at h
        · cases h
        · cases h
          exact .inr (.inr rfl)
      · cases h
    · cases h
      exact .inr (.inl rfl)
  · cases h
    exact .inl rfl
theorem dueF_some {y : Str} (h : dueF z r m l = some y) : y = "size" ∨ y = "leave" ∨ y = "modulus" ∨ y = "rest" := by
  unfold dueF at h
  split at h
  · rename_i e
    cases h
    unfold dueS at e
    split at e
    · split at e
      · cases e
      · cases e
        exact .inr (.inl rfl)
    · cases e
      exact .inl rfl
  · unfold dueR at h
    split at h
    · split at h
      · split at h
        · cases h
        · cases h
          exact .inr (.inr (.inr rfl))
      · cases h
    · cases h
      exact .inr (.inr (.inl rfl))
end
def partNames : List Str := ["to", "size", "leave", "modulus", "rest"]
theorem part_shaped : ∀ z ∈ partNames, SeqAt.shaped (.tuple [.str "part", .str z]) = true := by decide +kernel
end Fz

set_option Elab.async false
set_option linter.all false
set_option maxRecDepth 100000
set_option maxHeartbeats 2000000
/-! Own layer, ninth part: == and != of an instance by its class's own __eq__; str of an instance by its own __str__. -/
namespace Fz
open PySem PySem.Spec PyProof.Rows L2
section
variable {prog : Program} {w : World} {A : Around} {E : Value → Shared → Prop} {s : Shared} {K : PySem.W.Frag} {x C f : Addr} {ox : Obj} {od : Option Obj} {b tb : Value}
theorem bound_ne {M : Model} {args : List Value} {Q : Option Value → Shared → Prop} (X : K.In s.heap) (J : PySem.W.InstAt s.heap x ox C od) (slot : PySem.W.findIn K (.ref C) "__ne__" = some (some (.builtin "object.__ne__")))
    (called : wpAny M A (call (.builtin "object.__ne__") (.ref x :: args)) (fun v => Q (some v)) E s) : wpAny M A (callSpecialIfBound? (.ref x) "__ne__" args) Q E s := by
  simp only [callSpecialIfBound?, bindSpecialIfBound?]
  refine wpAny_holding <| wpAny_bind <| wpAny_bind <| wpAny_bind <| J.type.here <| (PySem.W.looks_findIn X slot).here ?_
  refine wpAny_bind <| wpAny_askSetting <| wpAny_ite ?_
  have end_ : wpAny M A (call (.builtin "object.__ne__") ([.ref x] ++ args) >>= fun v => pure (some v)) Q E s := wpAny_bind (wpAny_mono called (fun _ _ z => wpAny_pure z) fun _ _ z => z)
  split
  · exact wpAny_bind (wpAny_of_eq (F.cmp_object.ne.bind _) <| wpAny_pure (by exact end_))
  · exact wpAny_tryCatch (wpAny_bind (wpAny_of_eq (F.cmp_object.ne.bind _) <| wpAny_pure (by exact end_)))
theorem body_ne {Q : Fin → Shared → Prop} (room : A.units < cLine) (X : K.In s.heap) (J : PySem.W.InstAt s.heap x ox C od) (own : PySem.W.findIn K (.ref C) "__eq__" = some (some (.ref f))) (isF : PySem.W.isFn K (.ref f) = true)
    (called : wpAny (model prog w) A (call (.ref f) [.ref x, b]) (fun v s' => ∃ c, v = .bool c ∧ Q (.done (.ret (.bool (!c)))) s') E s) : wpAny (model prog w) A (Builtin.«object.__ne__» ⟨[.ref x, b], []⟩) Q E s := by
  unfold Builtin.«object.__ne__»
  repeat (first
    | with_reducible refine wpAny_cRoomFor room ?_
    | (refine wpAny_bind (m := callSpecialIfBound? (.ref x) (Str.ofString "__eq__") [b]) (PySem.W.ifBound_K X J own isF (wpAny_mono called (fun r s' z => by
          obtain ⟨c, rfl, q⟩ := z
          repeat (first | exact q | exact wpAny_pure q | exact wpAny_truthy_bool q | (refine wpAny_bind (m := truthy (.bool _)) (wpAny_truthy_bool ?_)) | wp_step)) fun _ _ z => z)))
    | wp_step)
theorem ne_own {Q : Value → Shared → Prop} (room : A.units + 1 < cLine) (X : K.In s.heap) (J : PySem.W.InstAt s.heap x ox C od) (isTb : PySem.W.Looks (model prog w) s.heap (typeOf b) tb) (first_ : PySem.W.notFirst K C tb = true)
    (slot : PySem.W.findIn K (.ref C) "__ne__" = some (some (.builtin "object.__ne__"))) (hm : PySem.W.mroIn K C (.type "object") = some true) (own : PySem.W.findIn K (.ref C) "__eq__" = some (some (.ref f))) (isF : PySem.W.isFn K (.ref f) = true)
    (called : wpAny (model prog w) A.in1 (call (.ref f) [.ref x, b]) (fun v s' => ∃ c, v = .bool c ∧ Q (.bool (!c)) s') E s) : wpAny (model prog w) A (richCompare .NotEq (.ref x) b) Q E s := by
  have one : wpAny (model prog w) A (tryCompare (.ref x) "__ne__" b) (fun r s' => ∃ v, r = some v ∧ Q v s') E s := by
    unfold tryCompare
    refine wpAny_bind <| bound_ne X J slot ?_
    refine wpAny_call <| codeAny_call_builtin F.cmp_object.ne.plain F.cmpEntry_ne <| PySem.W.check_slot F.cmpKind_ne F.cmpSplit_ne (J.type.andThen (PySem.W.looks_mroIn X hm)) (F.cmpArgs_ne _ _) ?_
    refine body_ne (A := A.in1) room X J own isF <| wpAny_mono called (fun v s' z => ?_) fun _ _ z => z
    obtain ⟨c, rfl, q⟩ := z
    exact ⟨c, rfl, wpAny_pure ⟨_, rfl, q⟩⟩
  unfold richCompare
  simp only [oneThing_ref]
  refine wpAny_holding <| wpAny_bind <| wpAny_cRoomFor (Nat.lt_of_succ_lt room) ?_
  rw [cmpInfo_NotEq]
  refine wpAny_bind <| J.type.here <| wpAny_bind <| isTb.here ?_
  split
  · rename_i q
    have below : PySem.W.subIn K tb (.ref C) = some false := by
      rcases Bool.or_eq_true_iff.mp first_ with z | z
      · rw [beq_iff_eq.mp z] at q
        simp at q
      · exact beq_iff_eq.mp z
    refine wpAny_bind <| (PySem.W.looks_subIn X below).here ?_
    simp only [Bool.false_eq_true, if_false]
    refine wpAny_bind <| wpAny_mono one (fun r s' z => ?_) fun _ _ z => z
    obtain ⟨v, rfl, q⟩ := z
    exact wpAny_pure q
  · refine wpAny_bind <| wpAny_pure ?_
    simp only [Bool.false_eq_true, if_false]
    refine wpAny_bind <| wpAny_mono one (fun r s' z => ?_) fun _ _ z => z
    obtain ⟨v, rfl, q⟩ := z
    exact wpAny_pure q
end
section
variable {X : Cx} {C f : Addr} {fd : FuncData} {ps : List Str} {sp : Sp} {k : Nat}
/-- x == y, x an instance of the class at C, whose def at f compares by sp -/
def rEqO (K : PySem.W.Frag) (C : Addr) (sp : Sp) : R2 := fun x y H Q => ∃ (a dx : Addr) (fs : List (Str × V)) (t : Value), x = .ref a ∧ H a = some (.ins C dx fs) ∧ TyX K H y t ∧ PySem.W.notFirst K C t = true ∧ sp [x, y] H Q E0
theorem op_eqO (own : PySem.W.findIn X.K (.ref C) "__eq__" = some (some (.ref f))) (isF : PySem.W.isFn X.K (.ref f) = true) (F : FnOk X.prog X.w X.K X.mg X.base CX0 k f fd ps sp) (binds : L2.Binds X.K fd ps []) (room : Room k X.A) : OpR X (compareOp .Eq) (rEqO X.K C sp) := by
  intro pins s σ H x y v u Q I rx ry h
  obtain ⟨a, dx, fs, t, rfl, ha, ty, nf, q⟩ := h
  cases (show v = Value.ref a from rx)
  obtain ⟨mA, O, _⟩ := ins_get I.hok ha
  obtain ⟨od, J, _⟩ := O.look
  obtain ⟨P, Z, p, _⟩ := kit_of I ry ty
  obtain ⟨m, hF⟩ := I.fr
  show wpAny _ _ (richCompare .Eq (.ref a) u) _ _ _
  refine PySem.W.cmp_K (op := .Eq) (tb := t) room.units0 hF I.ok.mod.kin J (Z.ty _ _ I.kIn p) nf own isF ?_
  refine wpAny_mono (run_fn (us := [.ref a, u]) (vs := [.ref a, y]) F room binds .nil pass0 I (.cons rfl (.cons ry .nil)) q) (fun w s' z => ?_) fun _ _ z => z
  obtain ⟨z', H', I', rz, qz⟩ := z
  exact SlX.cmpback rz ⟨z', H', I', rz, qz⟩
/-- x != y of the same -/
def rNeO (K : PySem.W.Frag) (C : Addr) (sp : Sp) : R2 := fun x y H Q => ∃ (a dx : Addr) (fs : List (Str × V)) (t : Value), x = .ref a ∧ H a = some (.ins C dx fs) ∧ TyX K H y t ∧ PySem.W.notFirst K C t = true ∧ sp [x, y] H (fun z H' => ∃ c, z = .bl c ∧ Q (.bl (!c)) H') E0
theorem op_neO (own : PySem.W.findIn X.K (.ref C) "__eq__" = some (some (.ref f))) (isF : PySem.W.isFn X.K (.ref f) = true) (slot : PySem.W.findIn X.K (.ref C) "__ne__" = some (some (.builtin "object.__ne__"))) (hm : PySem.W.mroIn X.K C (.type "object") = some true)
    (F : FnOk X.prog X.w X.K X.mg X.base CX0 k f fd ps sp) (binds : L2.Binds X.K fd ps []) (room : Room (k + 1) X.A) : OpR X (compareOp .NotEq) (rNeO X.K C sp) := by
  intro pins s σ H x y v u Q I rx ry h
  obtain ⟨a, dx, fs, t, rfl, ha, ty, nf, q⟩ := h
  cases (show v = Value.ref a from rx)
  obtain ⟨mA, O, _⟩ := ins_get I.hok ha
  obtain ⟨od, J, _⟩ := O.look
  obtain ⟨P, Z, p, _⟩ := kit_of I ry ty
  show wpAny _ _ (richCompare .NotEq (.ref a) u) _ _ _
  have r2 : Vals [V.ref a, y] [Value.ref a, u] := .cons rfl (.cons ry .nil)
  have many : ([Value.ref a, u] ++ ([] : List Value)).length = ps.length := r2.length.symm.trans (F.len _ _ _ _ q)
  refine ne_own (tb := t) (by have := room.units; omega) I.kIn J (Z.ty _ _ I.kIn p) nf slot hm own isF ?_
  refine wpAny_call (codeAny_mono (F.run X.A.in1 X.stack s H ⟨[.ref a, u], []⟩ ([.ref a, u] ++ []) [.ref a, y] _ E0 room.in1 I.env0.in1 (binds s [.ref a, u] I.kIn many) r2 q) fun res s' got => ?_)
  match res, got with
  | .error e, got => exact got.elim
  | .ok (.ret z), got =>
    obtain ⟨z', H', I', rz, c, rfl, qz⟩ := I.after got
    cases (show z = Value.bool c from rz)
    exact ⟨c, rfl, .bl (!c), H', I', rfl, qz⟩
  | .ok .next, got => exact got.elim
  | .ok .brk, got => exact got.elim
  | .ok .cont, got => exact got.elim
/-- str(x) of an instance -/
def rStrO (C : Addr) (sp : Sp) : List V → Hp → VK → Prop := fun vs H Q => ∃ (a dx : Addr) (fs : List (Str × V)), vs = [.ref a] ∧ H a = some (.ins C dx fs) ∧ sp [.ref a] H (fun z H' => ∃ t, z = .str t ∧ Q (.str t) H') E0
theorem call_strO (own : PySem.W.findIn X.K (.ref C) "__str__" = some (some (.ref f))) (isF : PySem.W.isFn X.K (.ref f) = true) (F : FnOk X.prog X.w X.K X.mg X.base CX0 k f fd ps sp) (binds : L2.Binds X.K fd ps []) (room : Room (k + 2) X.A) : CallR X (.type "str") (rStrO C sp) := by
  intro pins s σ H vs us Q I rvs h
  obtain ⟨a, dx, fs, rfl, ha, q⟩ := h
  obtain ⟨u, rfl, ru⟩ := vals1 rvs
  cases ru
  obtain ⟨mA, O, _⟩ := ins_get I.hok ha
  obtain ⟨od, J, _⟩ := O.look
  have r2 : Vals [V.ref a] [Value.ref a] := .cons rfl .nil
  have many : ([Value.ref a] ++ ([] : List Value)).length = ps.length := r2.length.symm.trans (F.len _ _ _ _ q)
  have room2 : Room k X.A.in1.in1 := (show Room (k + 1) X.A.in1 from Room.in1 room).in1
  refine PySem.W.kso_call (by have := room2.units; omega) I.kIn J own isF ?_
  refine wpAny_call (codeAny_mono (F.run X.A.in1.in1 X.stack s H ⟨[.ref a], []⟩ ([.ref a] ++ []) [.ref a] _ E0 room2 I.env0.in1.in1 (binds s [.ref a] I.kIn many) r2 q) fun res s' got => ?_)
  match res, got with
  | .error e, got => exact got.elim
  | .ok (.ret z), got =>
    obtain ⟨z', H', I', rz, t, rfl, qz⟩ := I.after got
    obtain ⟨tk, e⟩ := (show ∃ tk, z = Value.str t tk from rz)
    cases e
    exact ⟨.str t, H', I', ⟨tk, rfl⟩, qz⟩
  | .ok .next, got => exact got.elim
  | .ok .brk, got => exact got.elim
  | .ok .cont, got => exact got.elim
end
end Fz

set_option Elab.async false
set_option linter.all false
set_option maxRecDepth 100000
set_option maxHeartbeats 2000000
/-! Own layer, tenth part: rules as data. -/
namespace Fz
open PySem PySem.Spec PyProof.Rows L2
/-- a rule's numbers: size, rest, modulus, leave; or to, rest, modulus -/
inductive RD where
  | fixed (s r m l : Int)
  | down (t r m : Int)
deriving DecidableEq
def RD.isF : RD → Bool
  | .fixed _ _ _ _ => true
  | .down _ _ _ => false
def RD.num : RD → Int
  | .fixed s _ _ _ => s
  | .down t _ _ => t
def RD.rest : RD → Int
  | .fixed _ r _ _ => r
  | .down _ r _ => r
def RD.mod : RD → Int
  | .fixed _ _ m _ => m
  | .down _ _ m => m
def RD.leave : RD → Int
  | .fixed _ _ _ l => l
  | .down _ _ _ => 0
def RD.start : RD → Int
  | .fixed s _ _ l => s + l
  | .down t _ _ => t + 1
def RD.kind (d : RD) : Str := if d.isF = true then "fixed" else "down"
/-- its numbers are those of a rule -/
structure RD.Wf (d : RD) : Prop where
  n0 : (if d.isF = true then 1 else 0) ≤ d.num
  n1 : d.num ≤ 400
  r0 : 0 ≤ d.rest
  r1 : d.rest ≤ d.mod - 1
  m0 : 1 ≤ d.mod
  m1 : d.mod ≤ 6
  l0 : 0 ≤ d.leave
  l1 : d.leave ≤ 400
def RD.rank : RD → Int
  | .fixed s r m l => rankI 0 s m r l
  | .down t r m => rankI 1 t m r 0
def RD.fs : RD → List (Str × V)
  | .fixed s r m l => ffs s r m l (rankI 0 s m r l)
  | .down t r m => dfs t r m (rankI 1 t m r 0)
/-- a law's tuple of it -/
def RD.tup (d : RD) : List V := [.str d.kind, .int d.num, .int d.rest, .int d.mod, .int d.leave]
def RD.cls (CF CD : Addr) (d : RD) : Addr := if d.isF = true then CF else CD
/-- the rule stands at x -/
def RuleAt (CF CD : Addr) (H : Hp) (x : Addr) (d : RD) : Prop := ∃ dx, H x = some (.ins (d.cls CF CD) dx d.fs)
theorem RuleAt.same {CF CD : Addr} {H H' : Hp} {x : Addr} {d : RD} (h : RuleAt CF CD H x d) (s : Same H H') : RuleAt CF CD H' x d := h.imp fun _ z => s _ _ z
theorem RuleAt.mv {CF CD : Addr} {H H' : Hp} {p x : Addr} {d : RD} {n : Nat} {q : Addr} (h : RuleAt CF CD H x d) (pen : PenAt n H p q) (s : Mv p H H') : RuleAt CF CD H' x d := by
  obtain ⟨dx, z⟩ := h
  obtain ⟨xs, hp⟩ := pen.lst
  exact ⟨dx, s _ _ (fun e => by rw [e, hp] at z; cases z) z⟩
theorem RuleAt.ext {CF CD : Addr} {H H' : Hp} {x : Addr} {d : RD} (h : RuleAt CF CD H x d) (s : LamX.ExtN H H') : RuleAt CF CD H' x d := h.imp fun _ z => s _ _ z (fun _ z => nomatch z)
theorem rank_inj {d e : RD} (hd : d.Wf) (he : e.Wf) (same : d.isF = e.isF) (h : d.rank = e.rank) : d = e := by
  cases d with
  | fixed s r m l =>
    cases e with
    | fixed s' r' m' l' =>
      have a := hd.n0; have b := hd.n1; have c := hd.r0; have d1 := hd.r1; have e1 := hd.m0; have f := hd.m1; have g := hd.l0; have i := hd.l1
      have a' := he.n0; have b' := he.n1; have c' := he.r0; have d' := he.r1; have e' := he.m0; have f' := he.m1; have g' := he.l0; have i' := he.l1
      simp only [RD.isF, RD.num, RD.rest, RD.mod, RD.leave, if_true] at a b c d1 e1 f g i a' b' c' d' e' f' g' i'
      have h2 : (((0 * 401 + s) * 401 + m) * 401 + r) * 401 + l = (((0 * 401 + s') * 401 + m') * 401 + r') * 401 + l' := h
      have q1 : s = s' := by omega
      have q2 : m = m' := by omega
      have q3 : r = r' := by omega
      have q4 : l = l' := by omega
      rw [q1, q2, q3, q4]
    | down _ _ _ => cases same
  | down t r m =>
    cases e with
    | fixed _ _ _ _ => cases same
    | down t' r' m' =>
      have a := hd.n0; have b := hd.n1; have c := hd.r0; have d1 := hd.r1; have e1 := hd.m0; have f := hd.m1
      have a' := he.n0; have b' := he.n1; have c' := he.r0; have d' := he.r1; have e' := he.m0; have f' := he.m1
      simp only [RD.isF, RD.num, RD.rest, RD.mod, Bool.false_eq_true, if_false] at a b c d1 e1 f a' b' c' d' e' f'
      have h2 : (((1 * 401 + t) * 401 + m) * 401 + r) * 401 + 0 = (((1 * 401 + t') * 401 + m') * 401 + r') * 401 + 0 := h
      have q1 : t = t' := by omega
      have q2 : m = m' := by omega
      have q3 : r = r' := by omega
      rw [q1, q2, q3]
theorem rank_ne {d e : RD} (hd : d.Wf) (he : e.Wf) : (d.isF = e.isF ∧ d.rank = e.rank) ↔ d = e := ⟨fun h => rank_inj hd he h.1 h.2, fun h => by rw [h]; exact ⟨rfl, rfl⟩⟩
theorem fs_rank (d : RD) : d.fs.lookup ("rank" : Str) = some (V.int d.rank) := by cases d <;> rfl
theorem fs_start (d : RD) : d.fs.lookup ("start" : Str) = some (V.int d.start) := by cases d <;> rfl
theorem fs_rest (d : RD) : d.fs.lookup ("rest" : Str) = some (V.int d.rest) := by cases d <;> rfl
theorem fs_modulus (d : RD) : d.fs.lookup ("modulus" : Str) = some (V.int d.mod) := by cases d <;> rfl
section
variable {CF CD CB : Addr} {H : Hp} {Q : VK} {x dx : Addr} {E : XK}
theorem down_rule {t r m : Int} (wf : (RD.down t r m).Wf) (hx : H x = none) (hd : H dx = none) (hQ : ∀ H', Same H H' → RuleAt CF CD H' x (.down t r m) → Q (.ref x) H') :
    spDown CB CD [.ref x, .int t, .int r, .int m] (upd (upd H dx (.own x)) x (.ins CD dx [])) (fun v H' => v = .non ∧ Q (.ref x) H') E := by
  have a := wf.n0; have b := wf.n1; have c := wf.r0; have d := wf.r1; have e := wf.m0; have f := wf.m1
  have none_ : dueD (.int t) (.int r) (.int m) = none := dueD_of a b c d e f
  refine ⟨x, dx, _, _, _, rfl, upd_same, True.intro, True.intro, True.intro, fun z hz => ?_, fun ti ri mi H' e1 e2 e3 hz mv at_ => ⟨rfl, ?_⟩⟩
  · rw [none_] at hz
    cases hz
  · cases e1
    cases e2
    cases e3
    exact hQ H' (made_same hx hd mv) ⟨dx, at_⟩
theorem fixed_rule {s r m l : Int} (wf : (RD.fixed s r m l).Wf) (hx : H x = none) (hd : H dx = none) (hQ : ∀ H', Same H H' → RuleAt CF CD H' x (.fixed s r m l) → Q (.ref x) H') :
    spFixed CB CF [.ref x, .int s, .int r, .int m, .int l] (upd (upd H dx (.own x)) x (.ins CF dx [])) (fun v H' => v = .non ∧ Q (.ref x) H') E := by
  have a := wf.n0; have b := wf.n1; have c := wf.r0; have d := wf.r1; have e := wf.m0; have f := wf.m1; have g := wf.l0; have i := wf.l1
  have none_ : dueF (.int s) (.int r) (.int m) (.int l) = none := dueF_of a b c d e f g i
  refine ⟨x, dx, _, _, _, _, rfl, upd_same, True.intro, True.intro, True.intro, True.intro, fun z _ hz => ?_, fun si ri mi li H' e1 e2 e3 e4 hz mv at_ => ⟨rfl, ?_⟩⟩
  · rw [none_] at hz
    cases hz
  · cases e1
    cases e2
    cases e3
    cases e4
    exact hQ H' (made_same hx hd mv) ⟨dx, at_⟩
end
theorem isDown_down : decide ((V.str "down") = V.str "down") = true := by decide +kernel
theorem isDown_fixed : decide ((V.str "fixed") = V.str "down") = false := by decide +kernel
theorem isFixed_fixed : decide ((V.str "fixed") = V.str "fixed") = true := by decide +kernel
theorem isFixed_down : decide ((V.str "down") = V.str "fixed") = false := by decide +kernel
/-- == of rules of the class at C -/
def spEqR (K : PySem.W.Frag) (C : Addr) : Sp := fun vs H Q _ => ∃ (a dx : Addr) (fs : List (Str × V)) (k : Int) (y : V), vs = [.ref a, y] ∧ H a = some (.ins C dx fs) ∧ fs.lookup ("rank" : Str) = some (V.int k) ∧
  ((∃ (b dy : Addr) (gs : List (Str × V)) (j : Int), y = .ref b ∧ H b = some (.ins C dy gs) ∧ gs.lookup ("rank" : Str) = some (V.int j) ∧ Q (.bl (decide (k = j))) H) ∨ (∃ t, TyX K H y t ∧ PySem.W.kitOne K t (.ref C) = some false ∧ Q (.bl false) H))
def spParts : Sp := fun vs H Q _ => ∃ (n : Nat) (p q : Addr) (most : Int), vs = [.ref p, .int most] ∧ PenAt n H p q ∧ n < 99000 ∧ 1 ≤ most ∧ most ≤ 400 ∧
  ∀ H' tp d, PenAt (n + 6) H' p q → Mv p H H' → H tp = none → H' tp = some (.tup (RD.tup d)) → d.Wf → (d.isF = true → d.num ≤ most ∧ d.leave ≤ (if most ≤ 2 then 2 else most - 1)) → (d.isF = false → d.num < most) → Q (.ref tp) H'
def spRule (CF CD : Addr) : Sp := fun vs H Q _ => ∃ (tp : Addr) (d : RD), vs = [.ref tp] ∧ H tp = some (.tup d.tup) ∧ d.Wf ∧ ∀ H' x, Same H H' → H x = none → RuleAt CF CD H' x d → Q (.ref x) H'
theorem nf_ty {K : PySem.W.Frag} {C : Addr} {n : String} {l : List Value} (e : fastBuiltinMro n = some l) (h : l.contains (.ref C) = false) : PySem.W.notFirst K C (.type n) = true := by
  have z : PySem.W.subIn K (.type n) (.ref C) = some false := by
    show (fastBuiltinMro n).map (·.contains (.ref C)) = some false
    rw [e]
    exact congrArg some h
  unfold PySem.W.notFirst
  rw [z]
  simp
end Fz

set_option Elab.async false
set_option linter.all false
set_option maxRecDepth 100000
set_option maxHeartbeats 2000000
/-! Own layer, eleventh part: rules compared; methods called by keywords; two rules for one expression. -/
namespace Fz
open PySem PySem.Spec PyProof.Rows L2
section
variable {X : Cx} {e : Expr} {t t' : TE}
def tEither (t t' : TE) : TE := fun σ H Q => t σ H Q ∨ t' σ H Q
theorem pe_or (h : PE X e t) (h' : PE X e t') : PE X e (tEither t t') := ⟨fun pins s σ H Q I z => z.elim (h.run pins s σ H Q I) (h'.run pins s σ H Q I)⟩
def rEither (r r' : R2) : R2 := fun x y H Q => r x y H Q ∨ r' x y H Q
end
section
variable {X : Cx} {CX : CXT} {k : Nat} {C f : Addr} {fd : FuncData} {ps ks : List Str} {sp : Sp} {E : XK} {m : Str} {pos apos : Pos} {o : Expr} {kws : List Keyword} {ta : TE} {tk : TA} {g : List Value → List Value → List Value} {gV : List V → List V → List V}
/-- o.m(k = v, ..) -/
def tMethK (C : Addr) (m : Str) (n : Nat) (sp : Sp) (gV : List V → List V → List V) (E : XK) (ta : TE) (tk : TA) : TE := fun σ H Q => ta σ H fun x H1 => ∃ (a dx : Addr) (fs : List (Str × V)), x = .ref a ∧ H1 a = some (.ins C dx fs) ∧ fs.lookup m = none ∧
  tk σ H1 fun zs H2 => zs.length = n ∧ sp (gV [.ref a] zs) H2 Q E
theorem pe_methK0 {pl : Sem Bool} (he : PE X o ta) (c : Cls X.K C) (hm : Meth X.K C m f) (F : FnOk X.prog X.w X.K X.mg X.base CX k f fd ps sp) (room : Room k X.A) (binds : KBn X.K fd ps 1 ks g gV) (pass : Passes CX X E) (hkw : PK X kws tk)
    (named : (backToKw pos (keywordEach kws X.env)).all (·.1.isSome) = true := by rfl) (names : (backToKw pos (keywordEach kws X.env)).filterMap (·.1) = ks := by rfl)
    (plain : ((backTo pos (starEach [] X.env)).any (·.1) || (backToKw pos (keywordEach kws X.env)).any (·.1.isNone)) = false := by rfl)
    (tree : eval (.Call (.Attribute o m apos) [] kws pos) X.env = (do
      let ov ← eval o X.env
      standAt apos.atName
      let (f, first) ← holding [ov] (getMethod ov m pl)
      callWith pos f first (backTo pos (starEach [] X.env)) (backToKw pos (keywordEach kws X.env))) := by rfl) :
    PE X (.Call (.Attribute o m apos) [] kws pos) (tMethK C m ks.length sp gV E ta tk) := by
  refine ⟨fun pins s σ H Q I h => PySem.W.methodCall_KW (pl := pl) (thn (he.run pins s σ H _ I h) fun u s1 ⟨x, H1, I1, rx, a, dx, fs, ex, ea, l, q⟩ => ?_) tree⟩
  subst ex
  obtain rfl : u = Value.ref a := rx
  refine getmeth_ok I1 ea c hm l ?_
  refine PySem.W.callWith_KW0 (first := [.ref a]) (h₀ := X.base) I1.ok.mod.kin hm.kp named ?_ plain
  refine thn (hkw.run pos pins s1 σ H1 _ I1 q) fun ws s2 ⟨zs, H2, I2, rz, len, q2⟩ => ⟨I2.kIn, ?_⟩
  rw [names]
  refine wpAny_call (codeAny_mono (F.run X.A X.stack s2 H2 ⟨[.ref a], ks.zip ws⟩ (g [.ref a] ws) (gV [.ref a] zs) Q E room I2.env0 (binds.to s2 [.ref a] ws I2.kIn rfl (rz.length.symm.trans len)) (binds.rel (.cons rfl .nil) rz) q2) fun res s' got => ?_)
  match res, got with
  | .error err, got => exact pass pins σ H2 s2 err s' I2 got
  | .ok (.ret u), got => exact I2.after got
  | .ok .next, got => exact got.elim
  | .ok .brk, got => exact got.elim
  | .ok .cont, got => exact got.elim
end
/-- what the comparing of rules asks -/
structure PrgQ (K : PySem.W.Frag) (CF CD : Addr) : Prop where
  icF : InsC K CF
  icD : InsC K CD
  tyF : TyC K CF
  tyD : TyC K CD
  nFD : PySem.W.notFirst K CF (.ref CD) = true
  nDF : PySem.W.notFirst K CD (.ref CF) = true
  kFF : PySem.W.kitOne K (.ref CF) (.ref CF) = some true
  kFD : PySem.W.kitOne K (.ref CF) (.ref CD) = some false
  kDF : PySem.W.kitOne K (.ref CD) (.ref CF) = some false
  kDD : PySem.W.kitOne K (.ref CD) (.ref CD) = some true
  tF : PySem.W.typeIn K (.ref CF) = some (.type "type")
  tD : PySem.W.typeIn K (.ref CD) = some (.type "type")
/-- a value of a built-in type -/
def OtherV (K : PySem.W.Frag) (H : Hp) (y : V) : Prop := ∃ (n : String) (l : List Value), TyX K H y (.type n) ∧ fastBuiltinMro n = some l ∧ ∀ C, l.contains (.ref C) = false
theorem nf_self {K : PySem.W.Frag} {C : Addr} : PySem.W.notFirst K C (.ref C) = true := by
  unfold PySem.W.notFirst
  simp
theorem kit_other {K : PySem.W.Frag} {C : Addr} {n : String} {l : List Value} (hd : PySem.W.hasDictIn K C = true) (tC : PySem.W.typeIn K (.ref C) = some (.type "type")) (e : fastBuiltinMro n = some l) (h : l.contains (.ref C) = false) : PySem.W.kitOne K (.type n) (.ref C) = some false := by
  obtain ⟨cd, hc, _⟩ := PySem.W.any_some hd
  have z : PySem.W.subIn K (.type n) (.ref C) = some false := by
    show (fastBuiltinMro n).map (·.contains (.ref C)) = some false
    rw [e]
    exact congrArg some h
  have ne : (Value.type n == Value.ref C) = false := by simp
  have ok : ((PySem.W.clsIn K C).isSome && PySem.W.typeIn K (.ref C) == some (.type "type")) = true := by rw [hc, tC] <;> rfl
  unfold PySem.W.kitOne
  rw [ne, if_neg Bool.false_ne_true]
  show (if _ then PySem.W.subIn K (.type n) (.ref C) else none) = some false
  rw [if_pos ok]
  exact z
theorem other_non {K : PySem.W.Frag} {H : Hp} : OtherV K H .non := ⟨"NoneType", _, .base .non, rfl, fun C => rfl⟩
theorem other_bl {K : PySem.W.Frag} {H : Hp} (b : Bool) : OtherV K H (.bl b) := ⟨"bool", _, .base (.bl b), rfl, fun C => rfl⟩
theorem other_int {K : PySem.W.Frag} {H : Hp} (i : Int) : OtherV K H (.int i) := ⟨"int", _, .base (.int i), rfl, fun C => rfl⟩
theorem other_str {K : PySem.W.Frag} {H : Hp} (z : Str) : OtherV K H (.str z) := ⟨"str", _, .base (.str z), rfl, fun C => rfl⟩
theorem other_lst {K : PySem.W.Frag} {H : Hp} {a : Addr} {xs : List V} (h : H a = some (.lst xs)) : OtherV K H (.ref a) := ⟨"list", _, .base (.lst h), rfl, fun C => rfl⟩
theorem other_tup {K : PySem.W.Frag} {H : Hp} {a : Addr} {xs : List V} (h : H a = some (.tup xs)) : OtherV K H (.ref a) := ⟨"tuple", _, .base (.tup h), rfl, fun C => rfl⟩
theorem other_dK {K : PySem.W.Frag} {H : Hp} {a : Addr} {kvs : List (Key × V)} (h : H a = some (.dK kvs)) : OtherV K H (.ref a) := ⟨"dict", _, .base (.dK h), rfl, fun C => rfl⟩
theorem OtherV.same {K : PySem.W.Frag} {H H' : Hp} {y : V} (k : Kd H y) (s : Same H H') : OtherV K H' y := by
  cases y with
  | non => exact other_non
  | bl b => exact other_bl b
  | int i => exact other_int i
  | str z => exact other_str z
  | ref a =>
    rcases k with ⟨xs, h⟩ | ⟨xs, h⟩ | ⟨kvs, h⟩
    · exact other_tup (s _ _ h)
    · exact other_lst (s _ _ h)
    · exact other_dK (s _ _ h)
  | flt _ => exact k.elim
  | byt _ => exact k.elim
  | ty _ => exact k.elim
section
variable {K : PySem.W.Frag} {CF CD x y : Addr} {H : Hp} {Q : VK} {d e : RD}
theorem PrgQ.sp_rules (P : PrgQ K CF CD) {C : Addr} {dx dy : Addr} {fs gs : List (Str × V)} {k j : Int} (hx : H x = some (.ins C dx fs)) (rk : fs.lookup ("rank" : Str) = some (V.int k)) (hy : H y = some (.ins C dy gs)) (rj : gs.lookup ("rank" : Str) = some (V.int j)) (fin : Q (.bl (decide (k = j))) H) :
    spEqR K C [.ref x, .ref y] H Q E0 := ⟨x, dx, fs, k, _, rfl, hx, rk, .inl ⟨y, dy, gs, j, rfl, hy, rj, fin⟩⟩
theorem dec_rank (hd : d.Wf) (he : e.Wf) (same : d.isF = e.isF) : decide (d.rank = e.rank) = decide (d = e) := by
  by_cases z : d = e
  · rw [z, decide_eq_true rfl, decide_eq_true rfl]
  · rw [decide_eq_false z, decide_eq_false fun h => z (rank_inj hd he same h)]
theorem eq_rules (P : PrgQ K CF CD) (hx : RuleAt CF CD H x d) (hy : RuleAt CF CD H y e) (wd : d.Wf) (we : e.Wf) (fin : Q (.bl (decide (d = e))) H) : rEither (rEqO K CF (spEqR K CF)) (rEqO K CD (spEqR K CD)) (.ref x) (.ref y) H Q := by
  obtain ⟨dx, ax⟩ := hx
  obtain ⟨dy, ay⟩ := hy
  cases d with
  | fixed s r m l =>
    refine .inl ⟨x, dx, (RD.fixed s r m l).fs, ?_⟩
    cases e with
    | fixed s' r' m' l' =>
      refine ⟨_, rfl, ax, P.tyF.ty P.icF.cl ay, nf_self, P.sp_rules ax (fs_rank (.fixed s r m l)) ay (fs_rank (.fixed s' r' m' l')) ?_⟩
      rw [dec_rank wd we rfl]
      exact fin
    | down t' r' m' =>
      refine ⟨_, rfl, ax, P.tyD.ty P.icD.cl ay, P.nFD, x, dx, _, _, _, rfl, ax, fs_rank (.fixed s r m l), .inr ⟨_, P.tyD.ty P.icD.cl ay, P.kDF, ?_⟩⟩
      rw [decide_eq_false (fun z => nomatch z)] at fin
      exact fin
  | down t r m =>
    refine .inr ⟨x, dx, (RD.down t r m).fs, ?_⟩
    cases e with
    | down t' r' m' =>
      refine ⟨_, rfl, ax, P.tyD.ty P.icD.cl ay, nf_self, P.sp_rules ax (fs_rank (.down t r m)) ay (fs_rank (.down t' r' m')) ?_⟩
      rw [dec_rank wd we rfl]
      exact fin
    | fixed s' r' m' l' =>
      refine ⟨_, rfl, ax, P.tyF.ty P.icF.cl ay, P.nDF, x, dx, _, _, _, rfl, ax, fs_rank (.down t r m), .inr ⟨_, P.tyF.ty P.icF.cl ay, P.kFD, ?_⟩⟩
      rw [decide_eq_false (fun z => nomatch z)] at fin
      exact fin
theorem ne_rules (P : PrgQ K CF CD) (hx : RuleAt CF CD H x d) (hy : RuleAt CF CD H y e) (wd : d.Wf) (we : e.Wf) (fin : Q (.bl (!decide (d = e))) H) : rEither (rNeO K CF (spEqR K CF)) (rNeO K CD (spEqR K CD)) (.ref x) (.ref y) H Q := by
  rcases eq_rules (Q := fun z H' => ∃ c, z = .bl c ∧ Q (.bl (!c)) H') P hx hy wd we ⟨_, rfl, fin⟩ with h | h
  · exact .inl h
  · exact .inr h
theorem eq_other {z : V} (P : PrgQ K CF CD) (hx : RuleAt CF CD H x d) (o : OtherV K H z) (fin : Q (.bl false) H) : rEither (rEqO K CF (spEqR K CF)) (rEqO K CD (spEqR K CD)) (.ref x) z H Q := by
  obtain ⟨dx, ax⟩ := hx
  obtain ⟨n, l, ty, e, no⟩ := o
  cases d with
  | fixed s r m l => exact .inl ⟨x, dx, _, _, rfl, ax, ty, nf_ty e (no CF), x, dx, _, _, _, rfl, ax, fs_rank (.fixed s r m l), .inr ⟨_, ty, kit_other P.icF.cl.hd P.tF e (no CF), fin⟩⟩
  | down t r m => exact .inr ⟨x, dx, _, _, rfl, ax, ty, nf_ty e (no CD), x, dx, _, _, _, rfl, ax, fs_rank (.down t r m), .inr ⟨_, ty, kit_other P.icD.cl.hd P.tD e (no CD), fin⟩⟩
end
section
variable {X : Cx} {CF CD fF fD : Addr} {fdF fdD : FuncData} {ps : List Str}
/-- the == of rules as an operator -/
theorem op_eqR (oF : PySem.W.findIn X.K (.ref CF) "__eq__" = some (some (.ref fF))) (iF : PySem.W.isFn X.K (.ref fF) = true) (F : FnOk X.prog X.w X.K X.mg X.base CX0 1 fF fdF ps (spEqR X.K CF)) (bF : L2.Binds X.K fdF ps [])
    (oD : PySem.W.findIn X.K (.ref CD) "__eq__" = some (some (.ref fD))) (iD : PySem.W.isFn X.K (.ref fD) = true) (D : FnOk X.prog X.w X.K X.mg X.base CX0 1 fD fdD ps (spEqR X.K CD)) (bD : L2.Binds X.K fdD ps []) (room : Room 1 X.A) :
    OpR X (compareOp .Eq) (rEither (rEqO X.K CF (spEqR X.K CF)) (rEqO X.K CD (spEqR X.K CD))) := (op_eqO oF iF F bF room).or (op_eqO oD iD D bD room)
theorem op_neR (oF : PySem.W.findIn X.K (.ref CF) "__eq__" = some (some (.ref fF))) (iF : PySem.W.isFn X.K (.ref fF) = true) (sF : PySem.W.findIn X.K (.ref CF) "__ne__" = some (some (.builtin "object.__ne__"))) (mF : PySem.W.mroIn X.K CF (.type "object") = some true)
    (F : FnOk X.prog X.w X.K X.mg X.base CX0 1 fF fdF ps (spEqR X.K CF)) (bF : L2.Binds X.K fdF ps [])
    (oD : PySem.W.findIn X.K (.ref CD) "__eq__" = some (some (.ref fD))) (iD : PySem.W.isFn X.K (.ref fD) = true) (sD : PySem.W.findIn X.K (.ref CD) "__ne__" = some (some (.builtin "object.__ne__"))) (mD : PySem.W.mroIn X.K CD (.type "object") = some true)
    (D : FnOk X.prog X.w X.K X.mg X.base CX0 1 fD fdD ps (spEqR X.K CD)) (bD : L2.Binds X.K fdD ps []) (room : Room 2 X.A) :
    OpR X (compareOp .NotEq) (rEither (rNeO X.K CF (spEqR X.K CF)) (rNeO X.K CD (spEqR X.K CD))) := (op_neO oF iF sF mF F bF room).or (op_neO oD iD sD mD D bD room)
end
/-! ### the texts of rules -/
def restT (r m : Int) : Str := if m = 1 then "" else (((Str.empty ++ (" rest " : Str)) ++ (toString r : Str)) ++ (" of " : Str)) ++ (toString m : Str)
def leaveT (l : Int) : Str := if l = 0 then "" else (Str.empty ++ (" leave " : Str)) ++ (toString l : Str)
def RD.text : RD → Str
  | .fixed s r m l => (((Str.empty ++ ("fixed " : Str)) ++ (toString s : Str)) ++ restT r m) ++ leaveT l
  | .down t r m => ((Str.empty ++ ("down " : Str)) ++ (toString t : Str)) ++ restT r m
theorem num_short {n : Int} (h0 : 0 ≤ n) (h1 : n ≤ 400) : (toString n : Str).length ≤ 10 := toString_length_le h0 (by decide) (by omega)
theorem restT_short {r m : Int} (r0 : 0 ≤ r) (r1 : r ≤ 400) (m0 : 0 ≤ m) (m1 : m ≤ 400) : (restT r m).length ≤ 40 := by
  unfold restT
  split
  · show (Str.ofString "").length ≤ 40
    decide +kernel
  · have a := num_short r0 r1
    have b := num_short m0 m1
    have c : (Str.empty ++ (" rest " : Str)).length = 6 := by decide +kernel
    have d : (" of " : Str).length = 4 := by decide +kernel
    rw [strLen_append, strLen_append, strLen_append, c, d]
    omega
theorem leaveT_short {l : Int} (l0 : 0 ≤ l) (l1 : l ≤ 400) : (leaveT l).length ≤ 40 := by
  unfold leaveT
  split
  · show (Str.ofString "").length ≤ 40
    decide +kernel
  · have a := num_short l0 l1
    have c : (Str.empty ++ (" leave " : Str)).length = 7 := by decide +kernel
    rw [strLen_append, c]
    omega
theorem num_log {n : Int} (h0 : 0 ≤ n) (h1 : n ≤ 400) : n.natAbs.log2 < 1920 := by
  by_cases e : n.natAbs = 0
  · rw [e]
    decide +kernel
  · exact (Nat.log2_lt e).mpr (Nat.lt_of_le_of_lt (show n.natAbs ≤ 400 by omega) (by decide +kernel))
/-- rest_text(rule), leave_text(rule), str(rule) -/
def spRestT (C : Addr) : Sp := fun vs H Q _ => ∃ (x dx : Addr) (fs : List (Str × V)) (r m : Int), vs = [.ref x] ∧ H x = some (.ins C dx fs) ∧ fs.lookup ("rest" : Str) = some (V.int r) ∧ fs.lookup ("modulus" : Str) = some (V.int m) ∧ 0 ≤ r ∧ r ≤ 400 ∧ 0 ≤ m ∧ m ≤ 400 ∧ Q (.str (restT r m)) H
def spLeaveT (C : Addr) : Sp := fun vs H Q _ => ∃ (x dx : Addr) (fs : List (Str × V)) (l : Int), vs = [.ref x] ∧ H x = some (.ins C dx fs) ∧ fs.lookup ("leave" : Str) = some (V.int l) ∧ 0 ≤ l ∧ l ≤ 400 ∧ Q (.str (leaveT l)) H
def spStrF (CF CD : Addr) : Sp := fun vs H Q _ => ∃ (x : Addr) (s r m l : Int), vs = [.ref x] ∧ RuleAt CF CD H x (.fixed s r m l) ∧ (RD.fixed s r m l).Wf ∧ Q (.str (RD.fixed s r m l).text) H
def spStrD (CF CD : Addr) : Sp := fun vs H Q _ => ∃ (x : Addr) (t r m : Int), vs = [.ref x] ∧ RuleAt CF CD H x (.down t r m) ∧ (RD.down t r m).Wf ∧ Q (.str (RD.down t r m).text) H
/-- rule.leaving(v) -/
def spLeaving (CB CF CD : Addr) : Sp := fun vs H Q E => ∃ (x : Addr) (s r m l : Int) (v : V), vs = [.ref x, v] ∧ RuleAt CF CD H x (.fixed s r m l) ∧ (RD.fixed s r m l).Wf ∧ Kd H v ∧ (∀ z H', dueF (.int s) (.int r) (.int m) v = some z → Same H H' → Bad CB E H' z) ∧
  (∀ H' x', dueF (.int s) (.int r) (.int m) v = none → Same H H' → RuleAt CF CD H' x' (.fixed s r m (toI v)) → Q (.ref x') H')
end Fz

set_option Elab.async false
set_option linter.all false
set_option maxRecDepth 100000
set_option maxHeartbeats 2000000
/-! Own layer, twelfth part: what stays but for the pen and the tables; texts of truths; tuples of rules compared. -/
namespace Fz
open PySem PySem.Spec PyProof.Rows L2
/-- all but the pen at p and the tables of code objects is as it was -/
def MvN (p : Addr) (H H' : Hp) : Prop := ∀ b o, b ≠ p → H b = some o → (∀ ps, o ≠ .tbl ps) → H' b = some o
theorem MvN.refl (p : Addr) (H : Hp) : MvN p H H := fun _ _ _ z _ => z
theorem MvN.trans {p : Addr} {H H1 H2 : Hp} (a : MvN p H H1) (b : MvN p H1 H2) : MvN p H H2 := fun c o n z t => b c o n (a c o n z t) t
theorem Mv.toN {p : Addr} {H H' : Hp} (m : Mv p H H') : MvN p H H' := fun b o n z _ => m b o n z
theorem ext_mvN {p : Addr} {H H' : Hp} (m : LamX.ExtN H H') : MvN p H H' := fun b o _ z t => m b o z t
theorem Same.toN {p : Addr} {H H' : Hp} (m : Same H H') : MvN p H H' := fun b o _ z _ => m b o z
theorem RuleAt.mvN {CF CD : Addr} {H H' : Hp} {p x : Addr} {d : RD} {n : Nat} {q : Addr} (h : RuleAt CF CD H x d) (pen : PenAt n H p q) (s : MvN p H H') : RuleAt CF CD H' x d := by
  obtain ⟨dx, z⟩ := h
  obtain ⟨xs, hp⟩ := pen.lst
  exact ⟨dx, s _ _ (fun e => by rw [e, hp] at z; cases z) z (fun _ z => nomatch z)⟩
theorem tup_mvN {H H' : Hp} {p t : Addr} {xs : List V} {n : Nat} {q : Addr} (h : H t = some (.tup xs)) (pen : PenAt n H p q) (s : MvN p H H') : H' t = some (.tup xs) := by
  obtain ⟨ys, hp⟩ := pen.lst
  exact s _ _ (fun e => by rw [e, hp] at h; cases h) h (fun _ z => nomatch z)
theorem un_mv {H H' : Hp} {p l : Addr} (m : Mv p H H') (n : l ≠ p) (h : H' l = none) : H l = none := by
  cases e : H l with
  | none => rfl
  | some o => rw [m l o n e] at h; cases h
/-! ### truths -/
theorem dp_bools {K : PySem.W.Frag} {H : Hp} : ∀ bs : List Bool, DpAll K H (bs.map V.bl) (bs.map PyData.bool)
  | [] => .nil
  | b :: bs => .cons (.bl b) (dp_bools bs)
theorem shownAll_bools : ∀ bs : List Bool, PyData.shownAll (bs.map PyData.bool) = bs.map fun b => PyData.shown (.bool b)
  | [] => by simp only [List.map_nil, PyData.shownAll]
  | b :: bs => by
    have ih := shownAll_bools bs
    simp only [List.map_cons, PyData.shownAll, ih]
theorem showable_bools : ∀ bs : List Bool, PyData.showableAll (bs.map PyData.bool) = true
  | [] => by simp only [List.map_nil, PyData.showableAll]
  | b :: bs => by
    have ih := showable_bools bs
    simp only [List.map_cons, PyData.showableAll, PyData.showable, ih, Bool.and_self]
theorem noDict_bools : ∀ bs : List Bool, PyData.hasDictAll (bs.map PyData.bool) = false
  | [] => by simp only [List.map_nil, PyData.hasDictAll]
  | b :: bs => by
    have ih := noDict_bools bs
    simp only [List.map_cons, PyData.hasDictAll, PyData.hasDict, ih, Bool.or_self]
theorem depth_bools : ∀ bs : List Bool, PyData.depthAll (bs.map PyData.bool) ≤ 1
  | [] => by simp only [List.map_nil, PyData.depthAll]; omega
  | b :: bs => by
    have ih := depth_bools bs
    simp only [List.map_cons, PyData.depthAll, PyData.depth]
    omega
theorem lay_bools : ∀ bs : List Bool, PyData.canLayAll0 (bs.map PyData.bool) = true
  | [] => by simp only [List.map_nil, PyData.canLayAll0]
  | b :: bs => by
    have ih := lay_bools bs
    simp only [List.map_cons, PyData.canLayAll0, PyData.canLay0, ih, Bool.and_self]
theorem shaped_bools (bs : List Bool) : SeqAt.shaped (.list (bs.map PyData.bool)) = true := by
  have h1 := depth_bools bs
  have h2 : PyData.depth (.list (bs.map PyData.bool)) ≤ 64 := by
    simp only [PyData.depth]
    omega
  show (PyData.canLay0 (.list (bs.map PyData.bool)) && decide (PyData.depth (.list (bs.map PyData.bool)) ≤ 64)) = true
  rw [Bool.and_eq_true]
  exact ⟨by simp only [PyData.canLay0]; exact lay_bools bs, decide_eq_true h2⟩
theorem text_from {ts : List Str} {m : Nat} (h : ∀ t ∈ ts, t.length ≤ m) (few : ts.length * (m + 2) ≤ 1000000) : (listText ts).length ≤ sizeLine := by
  have z := textFrom_most m ts 0 "[" h
  have z1 : (Str.ofString "[").length = 1 := by decide +kernel
  have z2 : (Str.ofString "]").length = 1 := by decide +kernel
  have z3 : (textFrom 0 "[" ts).length ≤ 1 + ts.length * (m + 2) := by
    rw [← z1]
    exact z
  show (textFrom 0 "[" ts ++ Str.ofString "]").length ≤ sizeLine
  rw [strLen_append]
  show _ ≤ 16777216
  omega
theorem rep_bools {K : PySem.W.Frag} {H : Hp} {Q : VK} {l : Addr} {bs : List Bool} (hl : H l = some (.lst (bs.map V.bl))) (few : bs.length ≤ 1000) (fin : Q (.str (PyData.shown (.list (bs.map PyData.bool)))) H) : rRepD K [.ref l] H Q := by
  refine ⟨⟨l, _, rfl, Dp.lst (SqL.of hl) (dp_bools bs), ?_, ?_, ?_, ?_, fin⟩⟩
  · rw [PyData.showable]
    exact showable_bools bs
  · rw [PyData.hasDict]
    exact noDict_bools bs
  · have z := depth_bools bs
    rw [PyData.depth]
    omega
  · rw [PyData.shown, shownAll_bools]
    refine text_from (m := 5) (fun t ht => ?_) (by rw [List.length_map]; omega)
    obtain ⟨b, _, rfl⟩ := List.mem_map.mp ht
    cases b
    · show (Str.ofString "False").length ≤ 5
      decide +kernel
    · show (Str.ofString "True").length ≤ 5
      decide +kernel
/-! ### a law's tuples of rules -/
def RD.dat (d : RD) : PyData := .tuple [.str d.kind, .int d.num, .int d.rest, .int d.mod, .int d.leave]
theorem dp_rd {K : PySem.W.Frag} {H : Hp} {a : Addr} {d : RD} (h : H a = some (.tup d.tup)) : Dp K H (.ref a) d.dat := Dp.tup (SqT.of h) (.cons (.str _) (.cons (.int _) (.cons (.int _) (.cons (.int _) (.cons (.int _) .nil)))))
theorem shaped_rd (d : RD) : SeqAt.shaped d.dat = true := by
  have k : PyData.strOk d.kind = true := by
    cases d
    · show PyData.strOk ("fixed" : Str) = true
      decide +kernel
    · show PyData.strOk ("down" : Str) = true
      decide +kernel
  show (PyData.canLay0 d.dat && decide (PyData.depth d.dat ≤ 64)) = true
  have l : PyData.canLay0 d.dat = true := by
    show PyData.canLay0 (.tuple [.str d.kind, .int d.num, .int d.rest, .int d.mod, .int d.leave]) = true
    simp only [PyData.canLay0, PyData.canLayAll0, k, Bool.and_self]
  have p : PyData.depth d.dat ≤ 64 := by
    show PyData.depth (.tuple [.str d.kind, .int d.num, .int d.rest, .int d.mod, .int d.leave]) ≤ 64
    simp only [PyData.depth, PyData.depthAll]
    decide
  rw [l, decide_eq_true p]
  rfl
theorem eqv_rd (d e : RD) : PyData.eqv d.dat e.dat = decide (d = e) := by
  have key : PyData.eqv d.dat e.dat = ((d.kind == e.kind) && ((d.num == e.num) && ((d.rest == e.rest) && ((d.mod == e.mod) && ((d.leave == e.leave) && true))))) := by
    show PyData.eqv (.tuple [.str d.kind, .int d.num, .int d.rest, .int d.mod, .int d.leave]) (.tuple [.str e.kind, .int e.num, .int e.rest, .int e.mod, .int e.leave]) = _
    simp only [PyData.eqv, PyData.eqvAll]
  rw [key]
  have kf : (("fixed" : Str) == ("down" : Str)) = false := by decide +kernel
  have kf2 : (("down" : Str) == ("fixed" : Str)) = false := by decide +kernel
  cases d with
  | fixed s r m l =>
    cases e with
    | fixed s' r' m' l' =>
      have k : ((RD.fixed s r m l).kind == (RD.fixed s' r' m' l').kind) = true := by
        show (("fixed" : Str) == ("fixed" : Str)) = true
        decide +kernel
      rw [k]
      simp only [RD.num, RD.rest, RD.mod, RD.leave, Bool.true_and, Bool.and_true]
      by_cases h : RD.fixed s r m l = RD.fixed s' r' m' l'
      · cases h
        simp
      · rw [decide_eq_false h]
        refine Bool.eq_false_iff.mpr fun z => h ?_
        simp only [Bool.and_eq_true, beq_iff_eq] at z
        obtain ⟨z1, z2, z3, z4⟩ := z
        rw [z1, z2, z3, z4]
    | down t' r' m' =>
      have k : ((RD.fixed s r m l).kind == (RD.down t' r' m').kind) = false := kf
      rw [k, decide_eq_false (fun z => nomatch z)]
      rfl
  | down t r m =>
    cases e with
    | fixed s' r' m' l' =>
      have k : ((RD.down t r m).kind == (RD.fixed s' r' m' l').kind) = false := kf2
      rw [k, decide_eq_false (fun z => nomatch z)]
      rfl
    | down t' r' m' =>
      have k : ((RD.down t r m).kind == (RD.down t' r' m').kind) = true := by
        show (("down" : Str) == ("down" : Str)) = true
        decide +kernel
      rw [k]
      simp only [RD.num, RD.rest, RD.mod, RD.leave, Bool.true_and, Bool.and_true, beq_self_eq_true]
      by_cases h : RD.down t r m = RD.down t' r' m'
      · cases h
        simp
      · rw [decide_eq_false h]
        refine Bool.eq_false_iff.mpr fun z => h ?_
        simp only [Bool.and_eq_true, beq_iff_eq] at z
        obtain ⟨z1, z2, z3⟩ := z
        rw [z1, z2, z3]
/-- what is heard of rule.leaving(v) -/
theorem leaving_heard {CF CD CB x : Addr} {H : Hp} {Q : VK} {s r m l : Int} {v : V} (hx : RuleAt CF CD H x (.fixed s r m l)) (wf : (RD.fixed s r m l).Wf) (kv : Kd H v)
    (hQ : ∀ H' v', Same H H' → Ans CF (dueF (.int s) (.int r) (.int m) v) (fun _ => (RD.fixed s r m (toI v)).fs) H' v' → Q v' H') : spLeaving CB CF CD [.ref x, v] H (heardNx Q) (heardEx CB Q) :=
  ⟨x, s, r, m, l, v, rfl, hx, wf, kv, fun z H' hz same d hd => ⟨rfl, d, .str z, rfl, upd_same, fun H'' a s2 at_ => hQ H'' _ (fun b o e => s2 b o (by rw [upd_ne (ne_of_none (same b o e) hd)]; exact same b o e)) (.inl ⟨z, a, hz, rfl, at_⟩)⟩,
    fun H' x' hz same hr H'' a s2 at2 => let ⟨dx, at_⟩ := hr; hQ H'' _ (fun b o e => s2 b o (same b o e)) (.inr ⟨a, x', dx, 0, hz, rfl, at2, s2 _ _ at_⟩)⟩
end Fz

set_option Elab.async false
set_option linter.all false
set_option maxRecDepth 100000
set_option maxHeartbeats 2000000
/-! Own layer: numbers as words, the words of rules, the first wrong word (pure). -/
namespace Fz
open PySem PySem.Spec PyProof.Rows L2 TL
/-! ### numbers as words -/
def nT (n : Nat) : Str := (toString ((n : Nat) : Int) : Str)
theorem num_facts : ∀ n : Nat, n < 401 → Txt.isascii (nT n) = true ∧ Txt.isdigit (nT n) = true ∧ (nT n).length = (if n < 10 then 1 else if n < 100 then 2 else 3) := by decide +kernel
theorem nT_reads {n : Nat} (h : n < 401) : PySem.intText? (nT n) = some (n : Int) := PySem.W.KIN.num_reads (by omega) (by omega)
theorem nT_inj {m n : Nat} (h : nT m = nT n) : m = n := by
  have e := congrArg tl h
  unfold nT at e
  rw [tl_num, tl_num] at e
  exact numL_inj e
theorem digit_ascii : ∀ c : Nat, c < 128 → Unicode.isDigit c = true → 48 ≤ c ∧ c ≤ 57 := by decide +kernel
theorem short_val : ∀ cs : List Nat, cs.length ≤ 3 → NumText.AllDigits cs → NumText.digitsVal cs ≤ 999
  | [], _, _ => by decide
  | [a], _, h => by
    have z := h a (by simp)
    show 0 * 10 + (a - 48) ≤ 999
    omega
  | [a, b], _, h => by
    have z := h a (by simp)
    have y := h b (by simp)
    show (0 * 10 + (a - 48)) * 10 + (b - 48) ≤ 999
    omega
  | [a, b, c], _, h => by
    have z := h a (by simp)
    have y := h b (by simp)
    have x := h c (by simp)
    show ((0 * 10 + (a - 48)) * 10 + (b - 48)) * 10 + (c - 48) ≤ 999
    omega
  | _ :: _ :: _ :: _ :: _, l, _ => by simp at l
theorem short_reads {z : Str} (l : z.length ≤ 3) (a : Txt.isascii z = true) (d : Txt.isdigit z = true) : ∃ n : Nat, PySem.intText? z = some (n : Int) ∧ n ≤ 999 := by
  have hl : z.cps.toList.length = z.length := Array.length_toList
  unfold Txt.isdigit at d
  rw [Bool.and_eq_true] at d
  have all : NumText.AllDigits z.cps.toList := fun c hc => by
    have a1 : c < 128 := by
      have q := (Array.all_eq_true_iff_forall_mem.mp a) c (by simpa using hc)
      exact of_decide_eq_true q
    exact digit_ascii c a1 ((Array.all_eq_true_iff_forall_mem.mp d.2) c (by simpa using hc))
  have ne : z.cps.toList ≠ [] := fun e => by
    have q : 0 < z.length := of_decide_eq_true d.1
    rw [e] at hl
    simp at hl
    omega
  exact ⟨_, intText_digits all ne (by omega), short_val _ (by omega) all⟩
/-- the number from lo to hi (at most 400) that a word is -/
def numOf (z : Str) (lo hi : Int) : Option Int := match (List.range 401).find? fun n => decide (nT n = z) with
  | some n => if lo ≤ (n : Int) ∧ (n : Int) ≤ hi then some (n : Int) else none
  | none => none
theorem find_nT {n : Nat} (h : n < 401) : ((List.range 401).find? fun k => decide (nT k = nT n)) = some n := by
  cases e : (List.range 401).find? fun k => decide (nT k = nT n) with
  | none =>
    have q := List.find?_eq_none.mp e n (List.mem_range.mpr h)
    simp at q
  | some m =>
    have q := List.find?_some e
    rw [nT_inj (of_decide_eq_true q)]
theorem numOf_nT {n : Nat} {lo hi : Int} (h : n < 401) : numOf (nT n) lo hi = if lo ≤ (n : Int) ∧ (n : Int) ≤ hi then some (n : Int) else none := by
  unfold numOf
  rw [find_nT h]
theorem numOf_some {z : Str} {lo hi i : Int} (h : numOf z lo hi = some i) : ∃ n : Nat, n < 401 ∧ i = n ∧ z = nT n ∧ lo ≤ i ∧ i ≤ hi := by
  unfold numOf at h
  cases e : (List.range 401).find? fun k => decide (nT k = z) with
  | none => rw [e] at h; cases h
  | some n =>
    rw [e] at h
    dsimp only at h
    have q : nT n = z := of_decide_eq_true (List.find?_some (p := fun k => decide (nT k = z)) e)
    have m := List.mem_range.mp (List.mem_of_find?_eq_some e)
    by_cases c : lo ≤ (n : Int) ∧ (n : Int) ≤ hi
    · rw [if_pos c] at h
      cases h
      exact ⟨n, m, rfl, q.symm, c.1, c.2⟩
    · rw [if_neg c] at h
      cases h
theorem numOf_none {z : Str} {lo hi : Int} (h : ∀ n : Nat, n < 401 → z = nT n → ¬ (lo ≤ (n : Int) ∧ (n : Int) ≤ hi)) : numOf z lo hi = none := by
  cases e : numOf z lo hi with
  | none => rfl
  | some i =>
    obtain ⟨n, hn, rfl, hz, a, b⟩ := numOf_some e
    exact absurd ⟨a, b⟩ (h n hn hz)
def iT (i : Int) : Str := (toString i : Str)
theorem iT_nat (n : Nat) : iT (n : Int) = nT n := rfl
theorem numOf_iT {i lo hi : Int} (h0 : 0 ≤ i) (h1 : i ≤ 400) (a : lo ≤ i) (b : i ≤ hi) : numOf (iT i) lo hi = some i := by
  obtain ⟨n, rfl⟩ := Int.eq_ofNat_of_zero_le h0
  rw [iT_nat, numOf_nT (by omega), if_pos ⟨a, b⟩]
theorem numOf_is {z : Str} {lo hi i : Int} (h : numOf z lo hi = some i) : z = iT i := by
  obtain ⟨n, _, rfl, hz, _⟩ := numOf_some h
  exact hz
/-- the law's look: the word is one of these -/
theorem numOf_mem {z : Str} {lo hi : Int} (h0 : 0 ≤ lo) (h1 : hi ≤ 400) : (numOf z lo hi).isSome = true ↔ ∃ i : Int, lo ≤ i ∧ i ≤ hi ∧ z = iT i := by
  constructor
  · intro h
    obtain ⟨i, e⟩ := Option.isSome_iff_exists.mp h
    obtain ⟨n, _, rfl, hz, a, b⟩ := numOf_some e
    exact ⟨_, a, b, hz⟩
  · rintro ⟨i, a, b, rfl⟩
    rw [numOf_iT (by omega) (by omega) a b]
    rfl
/-! ### words -/
def wFixed : Str := "fixed"
def wDown : Str := "down"
def wRest : Str := "rest"
def wOf : Str := "of"
def wLeave : Str := "leave"
inductive WSlot where
  | one (l : List Str)
  | num (lo hi : Int)
def fitsB (z : Str) : WSlot → Bool
  | .one l => decide (z ∈ l)
  | .num lo hi => (numOf z lo hi).isSome
def goW : List Str → List WSlot → Nat → Option Nat
  | [], [], _ => none
  | [], _ :: _, k => some k
  | _ :: _, [], k => some k
  | z :: zs, s :: sl, k => if fitsB z s = true then goW zs sl (k + 1) else some k
def lowN (z : Str) : Int := if z = wFixed then 1 else 0
/-- the least modulus behind a rest -/
def leastM (ws : List Str) : Int := match ws[3]? with
  | some z => match numOf z 0 5 with
    | some r => if r + 1 > 2 then r + 1 else 2
    | none => 2
  | none => 2
def headIs (ws : List Str) (z : Str) : Bool := decide (ws.take 1 = [z])
def tailSl (fixed : Bool) (t : List Str) : List WSlot := if fixed = true ∧ headIs t wLeave = true then [.one [wLeave], .num 1 400] else []
def slots1 (ws : List Str) : List WSlot := [.one [wFixed, wDown], .num (lowN (ws.headD Str.empty)) 400]
def slots2 (ws : List Str) : List WSlot := if headIs (ws.drop 2) wRest = true then slots1 ws ++ [.one [wRest], .num 0 5, .one [wOf], .num (leastM ws) 6] else slots1 ws
def slotsW (ws : List Str) : List WSlot := slots2 ws ++ tailSl (decide (ws.headD Str.empty = wFixed)) (ws.drop (slots2 ws).length)
def wrongW (ws : List Str) : Option Nat := goW ws (slotsW ws) 0
/-- the law's -/
def tailL (fixed : Bool) (t : List Str) (k : Nat) : Option Nat :=
  if fixed = true ∧ headIs t wLeave = true then (match t[1]? with
    | some z => if (numOf z 1 400).isSome = true then (if t.length > 2 then some (k + 2) else none) else some (k + 1)
    | none => some (k + 1))
  else if t.length > 0 then some k else none
def restL (fixed : Bool) (t : List Str) : Option Nat :=
  match t[1]? with
  | none => some 3
  | some z3 => match numOf z3 0 5 with
    | none => some 3
    | some r => if headIs (t.drop 2) wOf = true then (match t[3]? with
        | none => some 5
        | some z5 => if (numOf z5 (if r + 1 > 2 then r + 1 else 2) 6).isSome = true then tailL fixed (t.drop 4) 6 else some 5)
      else some 4
def wrongL (ws : List Str) : Option Nat :=
  match ws with
  | [] => some 0
  | z0 :: t => if z0 ∈ [wFixed, wDown] then (match t with
      | [] => some 1
      | z1 :: t1 => if (numOf z1 (lowN z0) 400).isSome = true then (if headIs t1 wRest = true then restL (decide (z0 = wFixed)) t1 else tailL (decide (z0 = wFixed)) t1 2) else some 1)
    else some 0
theorem headIs_cons {z y : Str} {t : List Str} : headIs (z :: t) y = decide (z = y) := by
  unfold headIs
  simp
theorem headIs_nil {y : Str} : headIs [] y = false := by
  unfold headIs
  simp
theorem tail_go (fixed : Bool) (t : List Str) (k : Nat) : goW t (tailSl fixed t) k = tailL fixed t k := by
  unfold tailSl tailL
  by_cases h : fixed = true ∧ headIs t wLeave = true
  · rw [if_pos h, if_pos h]
    match t with
    | [] => rw [headIs_nil] at h; exact absurd h.2 (by simp)
    | [z] =>
      rw [headIs_cons] at h
      simp [goW, fitsB, of_decide_eq_true h.2]
    | z :: y :: r =>
      rw [headIs_cons] at h
      have e : fitsB z (.one [wLeave]) = true := by simp [fitsB, of_decide_eq_true h.2]
      simp only [goW, e, if_true, List.getElem?_cons_succ, List.getElem?_cons_zero, List.length_cons]
      by_cases q : (numOf y 1 400).isSome = true
      · rw [if_pos (show fitsB y (.num 1 400) = true from q), if_pos q]
        cases r with
        | nil => rfl
        | cons c r => simp [goW]
      · rw [if_neg (show ¬ fitsB y (.num 1 400) = true from q), if_neg q]
  · rw [if_neg h, if_neg h]
    cases t with
    | nil => rfl
    | cons c r => simp [goW]
theorem wrong_eq {ws : List Str} (ne : ws ≠ []) : wrongW ws = wrongL ws := by
  match ws, ne with
  | [z0], _ =>
    by_cases h : z0 ∈ [wFixed, wDown]
    · simp [wrongW, slotsW, slots2, slots1, tailSl, headIs_nil, goW, fitsB, wrongL, h]
    · have h2 : fitsB z0 (.one [wFixed, wDown]) = false := decide_eq_false h
      have e : ∃ r, slotsW [z0] = .one [wFixed, wDown] :: r := by
        unfold slotsW slots2 slots1
        split <;> exact ⟨_, rfl⟩
      obtain ⟨r, e⟩ := e
      unfold wrongW wrongL
      dsimp only
      rw [e, if_neg h]
      simp [goW, h2]
  | z0 :: z1 :: t1, _ =>
    have low : lowN ((z0 :: z1 :: t1).headD Str.empty) = lowN z0 := rfl
    have hd : (z0 :: z1 :: t1).headD Str.empty = z0 := rfl
    by_cases h : z0 ∈ [wFixed, wDown]
    · have h2 : fitsB z0 (.one [wFixed, wDown]) = true := decide_eq_true h
      by_cases rr : headIs t1 wRest = true
      · have e2 : slots2 (z0 :: z1 :: t1) = [.one [wFixed, wDown], .num (lowN z0) 400, .one [wRest], .num 0 5, .one [wOf], .num (leastM (z0 :: z1 :: t1)) 6] := by
          unfold slots2
          rw [if_pos (show headIs ((z0 :: z1 :: t1).drop 2) wRest = true from rr)]
          rfl
        unfold wrongW slotsW wrongL
        dsimp only
        rw [e2, if_pos h]
        simp only [List.cons_append, List.nil_append, goW, h2, if_true, hd]
        by_cases n1 : (numOf z1 (lowN z0) 400).isSome = true
        · rw [if_pos (show fitsB z1 (.num (lowN z0) 400) = true from n1), if_pos n1, if_pos rr]
          match t1, rr with
          | [], rr => rw [headIs_nil] at rr; cases rr
          | [y2], rr =>
            rw [headIs_cons] at rr
            have e : fitsB y2 (.one [wRest]) = true := by simp [fitsB, of_decide_eq_true rr]
            simp [goW, e, restL]
          | y2 :: y3 :: t3, rr =>
            rw [headIs_cons] at rr
            have e : fitsB y2 (.one [wRest]) = true := by simp [fitsB, of_decide_eq_true rr]
            have lm : leastM (z0 :: z1 :: y2 :: y3 :: t3) = (match numOf y3 0 5 with
              | some r => if r + 1 > 2 then r + 1 else 2
              | none => 2) := rfl
            simp only [goW, e, if_true, restL, List.getElem?_cons_succ, List.getElem?_cons_zero, lm, List.drop_succ_cons, List.drop_zero]
            cases n3 : numOf y3 0 5 with
            | none =>
              have e3 : fitsB y3 (.num 0 5) = false := by show (numOf y3 0 5).isSome = _; rw [n3]; rfl
              simp [e3]
            | some r =>
              have e3 : fitsB y3 (.num 0 5) = true := by show (numOf y3 0 5).isSome = _; rw [n3]; rfl
              simp only [e3, if_true]
              match t3 with
              | [] => simp [goW, headIs_nil]
              | [y4] =>
                by_cases h4 : y4 = wOf
                · have e4 : fitsB y4 (.one [wOf]) = true := by simp [fitsB, h4]
                  simp [goW, e4, headIs_cons, h4, fitsB]
                · have e4 : fitsB y4 (.one [wOf]) = false := by simp [fitsB, h4]
                  simp [goW, e4, headIs_cons, h4, fitsB]
              | y4 :: y5 :: t5 =>
                by_cases h4 : y4 = wOf
                · have e4 : fitsB y4 (.one [wOf]) = true := by simp [fitsB, h4]
                  simp only [goW, e4, if_true, headIs_cons, h4, decide_true, List.getElem?_cons_succ, List.getElem?_cons_zero]
                  cases n5 : (numOf y5 (if r + 1 > 2 then r + 1 else 2) 6).isSome with
                  | false =>
                    have e5 : fitsB y5 (.num (if r + 1 > 2 then r + 1 else 2) 6) = false := n5
                    rw [e5]
                    rfl
                  | true =>
                    have e5 : fitsB y5 (.num (if r + 1 > 2 then r + 1 else 2) 6) = true := n5
                    rw [e5]
                    simp only [if_true]
                    exact tail_go _ _ _
                · have e4 : fitsB y4 (.one [wOf]) = false := by simp [fitsB, h4]
                  simp [goW, e4, headIs_cons, h4, fitsB]
        · rw [if_neg (show ¬ fitsB z1 (.num (lowN z0) 400) = true from n1), if_neg n1]
      · have e2 : slots2 (z0 :: z1 :: t1) = [.one [wFixed, wDown], .num (lowN z0) 400] := by
          unfold slots2
          rw [if_neg (show ¬ headIs ((z0 :: z1 :: t1).drop 2) wRest = true from rr)]
          rfl
        unfold wrongW slotsW wrongL
        dsimp only
        rw [e2, if_pos h]
        simp only [List.cons_append, List.nil_append, goW, h2, if_true, hd]
        by_cases n1 : (numOf z1 (lowN z0) 400).isSome = true
        · rw [if_pos (show fitsB z1 (.num (lowN z0) 400) = true from n1), if_pos n1, if_neg rr]
          exact tail_go _ _ _
        · rw [if_neg (show ¬ fitsB z1 (.num (lowN z0) 400) = true from n1), if_neg n1]
    · have h2 : fitsB z0 (.one [wFixed, wDown]) = false := decide_eq_false h
      have e : ∃ r, slotsW (z0 :: z1 :: t1) = .one [wFixed, wDown] :: r := by
        unfold slotsW slots2 slots1
        split <;> exact ⟨_, rfl⟩
      obtain ⟨r, e⟩ := e
      unfold wrongW wrongL
      dsimp only
      rw [e, if_neg h]
      simp [goW, h2]
/-! ### the words of a rule -/
def restW (r m : Int) : List Str := if m = 1 then [] else [wRest, iT r, wOf, iT m]
def leaveW (l : Int) : List Str := if l = 0 then [] else [wLeave, iT l]
def wordsOf : RD → List Str
  | .fixed s r m l => wFixed :: iT s :: (restW r m ++ leaveW l)
  | .down t r m => wDown :: iT t :: restW r m
theorem low_fixed : lowN wFixed = 1 := rfl
theorem low_down : lowN wDown = 0 := by decide +kernel
theorem fixed_ne : decide (wDown = wFixed) = false := by decide +kernel
theorem leave_rest : decide (wLeave = wRest) = false := by decide +kernel
theorem tail_leave {l : Int} (l0 : 0 ≤ l) (l1 : l ≤ 400) (k : Nat) : tailL true (leaveW l) k = none := by
  unfold leaveW tailL
  by_cases e : l = 0
  · rw [if_pos e, headIs_nil]
    rfl
  · rw [if_neg e, headIs_cons, decide_eq_true rfl]
    simp only [and_self, if_true, List.getElem?_cons_succ, List.getElem?_cons_zero]
    rw [numOf_iT l0 l1 (by omega) l1]
    rfl
theorem tail_down (k : Nat) : tailL false [] k = none := rfl
theorem rest_words {fixed : Bool} {r m : Int} {t : List Str} (r0 : 0 ≤ r) (r1 : r ≤ m - 1) (m0 : 1 ≤ m) (m1 : m ≤ 6) (ne : ¬ m = 1) : restL fixed (wRest :: iT r :: wOf :: iT m :: t) = tailL fixed t 6 := by
  unfold restL
  simp only [List.getElem?_cons_succ, List.getElem?_cons_zero, List.drop_succ_cons, List.drop_zero]
  rw [numOf_iT r0 (by omega) r0 (by omega)]
  simp only [headIs_cons, decide_true, if_true]
  rw [numOf_iT (by omega) (by omega) (by split <;> omega) m1]
  rfl
theorem wrong_words {d : RD} (wf : d.Wf) : wrongL (wordsOf d) = none := by
  have a := wf.n0; have b := wf.n1; have r0 := wf.r0; have r1 := wf.r1; have m0 := wf.m0; have m1 := wf.m1; have l0 := wf.l0; have l1 := wf.l1
  cases d with
  | fixed s r m l =>
    simp only [RD.isF, RD.num, RD.rest, RD.mod, RD.leave, if_true] at a b r0 r1 m0 m1 l0 l1
    unfold wrongL wordsOf
    simp only [List.mem_cons, true_or, if_true, low_fixed, decide_true]
    rw [numOf_iT (by omega) b a b]
    simp only [Option.isSome_some, if_true]
    unfold restW
    by_cases e : m = 1
    · rw [if_pos e, List.nil_append]
      have h : headIs (leaveW l) wRest = false := by
        unfold leaveW
        by_cases z : l = 0
        · rw [if_pos z, headIs_nil]
        · rw [if_neg z, headIs_cons, leave_rest]
      rw [h]
      exact tail_leave l0 l1 2
    · rw [if_neg e]
      simp only [List.cons_append, List.nil_append, headIs_cons, decide_true, if_true]
      rw [rest_words r0 r1 m0 m1 e]
      exact tail_leave l0 l1 6
  | down t r m =>
    simp only [RD.isF, RD.num, RD.rest, RD.mod, RD.leave, Bool.false_eq_true, if_false] at a b r0 r1 m0 m1 l0 l1
    unfold wrongL wordsOf
    simp only [List.mem_cons, true_or, or_true, if_true, low_down, fixed_ne]
    rw [numOf_iT (by omega) b a b]
    simp only [Option.isSome_some, if_true]
    unfold restW
    by_cases e : m = 1
    · rw [if_pos e, headIs_nil]
      rfl
    · rw [if_neg e]
      simp only [headIs_cons, decide_true, if_true]
      rw [rest_words r0 r1 m0 m1 e]
      rfl
theorem some_of {o : Option Int} (h : o.isSome = true) : ∃ i, o = some i := Option.isSome_iff_exists.mp h
/-- what is right is the words of a rule -/
theorem tail_is {fixed : Bool} {t : List Str} {k : Nat} (h : tailL fixed t k = none) : (t = [] ∨ (fixed = true ∧ ∃ l : Int, 1 ≤ l ∧ l ≤ 400 ∧ t = [wLeave, iT l])) := by
  unfold tailL at h
  by_cases c : fixed = true ∧ headIs t wLeave = true
  · rw [if_pos c] at h
    match t, c, h with
    | [], c, _ => rw [headIs_nil] at c; exact absurd c.2 (by simp)
    | [z], _, h => cases h
    | z :: y :: r, c, h =>
      rw [headIs_cons] at c
      simp only [List.getElem?_cons_succ, List.getElem?_cons_zero] at h
      cases e : numOf y 1 400 with
      | none => rw [e] at h; cases h
      | some l =>
        rw [e] at h
        simp only [Option.isSome_some, if_true] at h
        cases r with
        | cons c2 r => simp at h
        | nil =>
          obtain ⟨n, _, _, _, a, b⟩ := numOf_some e
          exact .inr ⟨c.1, l, a, b, by rw [of_decide_eq_true c.2, numOf_is e]⟩
  · rw [if_neg c] at h
    cases t with
    | nil => exact .inl rfl
    | cons z r => simp at h
theorem rest_is {fixed : Bool} {t : List Str} (h : restL fixed t = none) (hd : headIs t wRest = true) : ∃ (r m : Int) (t4 : List Str), 0 ≤ r ∧ r ≤ m - 1 ∧ 2 ≤ m ∧ m ≤ 6 ∧ t = wRest :: iT r :: wOf :: iT m :: t4 ∧ tailL fixed t4 6 = none := by
  unfold restL at h
  match t, hd, h with
  | [], hd, _ => rw [headIs_nil] at hd; cases hd
  | [z], _, h => cases h
  | z2 :: z3 :: t3, hd, h =>
    rw [headIs_cons] at hd
    simp only [List.getElem?_cons_succ, List.getElem?_cons_zero, List.drop_succ_cons, List.drop_zero] at h
    cases e3 : numOf z3 0 5 with
    | none => rw [e3] at h; cases h
    | some r =>
      rw [e3] at h
      simp only at h
      obtain ⟨_, _, _, _, ra, rb⟩ := numOf_some e3
      match t3, h with
      | [], h => rw [headIs_nil] at h; cases h
      | [z4], h =>
        rw [headIs_cons] at h
        by_cases h4 : z4 = wOf
        · rw [decide_eq_true h4] at h; cases h
        · rw [decide_eq_false h4] at h; cases h
      | z4 :: z5 :: t5, h =>
        rw [headIs_cons] at h
        by_cases h4 : z4 = wOf
        · rw [decide_eq_true h4] at h
          simp only [if_true, List.getElem?_cons_succ, List.getElem?_cons_zero] at h
          cases e5 : numOf z5 (if r + 1 > 2 then r + 1 else 2) 6 with
          | none => rw [e5] at h; cases h
          | some m =>
            rw [e5] at h
            simp only [Option.isSome_some, if_true] at h
            obtain ⟨_, _, _, _, ma, mb⟩ := numOf_some e5
            exact ⟨r, m, t5, ra, by split at ma <;> omega, by split at ma <;> omega, mb, by rw [of_decide_eq_true hd, h4, numOf_is e3, numOf_is e5], h⟩
        · rw [decide_eq_false h4] at h; cases h
theorem wrong_is {ws : List Str} (h : wrongL ws = none) : ∃ d : RD, d.Wf ∧ ws = wordsOf d := by
  unfold wrongL at h
  match ws, h with
  | [], h => cases h
  | z0 :: t, h =>
    by_cases h0 : z0 ∈ [wFixed, wDown]
    · simp only [if_pos h0] at h
      match t, h with
      | [], h => cases h
      | z1 :: t1, h =>
        cases e1 : numOf z1 (lowN z0) 400 with
        | none => simp only [e1] at h; cases h
        | some s =>
          simp only [e1, Option.isSome_some, if_true] at h
          obtain ⟨n, _, sn, _, sa, sb⟩ := numOf_some e1
          have s0 : 0 ≤ s := by omega
          rw [List.mem_cons, List.mem_singleton] at h0
          rcases h0 with rfl | rfl
          · rw [low_fixed] at sa
            simp only [decide_true] at h
            by_cases hr : headIs t1 wRest = true
            · rw [if_pos hr] at h
              obtain ⟨r, m, t4, r0, r1, m0, m1, rfl, tl4⟩ := rest_is h hr
              have em : ¬ m = 1 := by omega
              rcases tail_is tl4 with rfl | ⟨_, l, l0, l1, rfl⟩
              · exact ⟨.fixed s r m 0, ⟨sa, sb, r0, r1, by show 1 ≤ m; omega, m1, by show (0 : Int) ≤ 0; decide, by show (0 : Int) ≤ 400; decide⟩, by
                  unfold wordsOf restW leaveW
                  dsimp only
                  rw [if_neg em, if_pos rfl, numOf_is e1]
                  rfl⟩
              · exact ⟨.fixed s r m l, ⟨sa, sb, r0, r1, by show 1 ≤ m; omega, m1, by show 0 ≤ l; omega, l1⟩, by
                  unfold wordsOf restW leaveW
                  dsimp only
                  rw [if_neg em, if_neg (by omega), numOf_is e1]
                  rfl⟩
            · rw [if_neg hr] at h
              rcases tail_is h with rfl | ⟨_, l, l0, l1, rfl⟩
              · exact ⟨.fixed s 0 1 0, ⟨sa, sb, by show (0 : Int) ≤ 0; decide, by show (0 : Int) ≤ 1 - 1; decide, by show (1 : Int) ≤ 1; decide, by show (1 : Int) ≤ 6; decide, by show (0 : Int) ≤ 0; decide, by show (0 : Int) ≤ 400; decide⟩, by
                  unfold wordsOf restW leaveW
                  dsimp only
                  rw [if_pos rfl, if_pos rfl, numOf_is e1]
                  rfl⟩
              · exact ⟨.fixed s 0 1 l, ⟨sa, sb, by show (0 : Int) ≤ 0; decide, by show (0 : Int) ≤ 1 - 1; decide, by show (1 : Int) ≤ 1; decide, by show (1 : Int) ≤ 6; decide, by show 0 ≤ l; omega, l1⟩, by
                  unfold wordsOf restW leaveW
                  dsimp only
                  rw [if_pos rfl, if_neg (by omega), numOf_is e1]
                  rfl⟩
          · rw [low_down] at sa
            rw [fixed_ne] at h
            by_cases hr : headIs t1 wRest = true
            · rw [if_pos hr] at h
              obtain ⟨r, m, t4, r0, r1, m0, m1, rfl, tl4⟩ := rest_is h hr
              have em : ¬ m = 1 := by omega
              rcases tail_is tl4 with rfl | ⟨f, _⟩
              · exact ⟨.down s r m, ⟨sa, sb, r0, r1, by show 1 ≤ m; omega, m1, by show (0 : Int) ≤ 0; decide, by show (0 : Int) ≤ 400; decide⟩, by
                  unfold wordsOf restW
                  dsimp only
                  rw [if_neg em, numOf_is e1]⟩
              · cases f
            · rw [if_neg hr] at h
              rcases tail_is h with rfl | ⟨f, _⟩
              · exact ⟨.down s 0 1, ⟨sa, sb, by show (0 : Int) ≤ 0; decide, by show (0 : Int) ≤ 1 - 1; decide, by show (1 : Int) ≤ 1; decide, by show (1 : Int) ≤ 6; decide, by show (0 : Int) ≤ 0; decide, by show (0 : Int) ≤ 400; decide⟩, by
                  unfold wordsOf restW
                  dsimp only
                  rw [if_pos rfl, numOf_is e1]⟩
              · cases f
    · simp only [if_neg h0] at h
      cases h
/-! ### texts and their words -/
def sp1 : Str := " "
theorem tl_sp : tl sp1 = 32 :: [] := by decide +kernel
theorem sp_small : sp1.cps.all (· < 256) = true := by decide +kernel
theorem iT_tl {i : Int} (h0 : 0 ≤ i) : ∃ n : Nat, tl (iT i) = numL n := by
  obtain ⟨n, rfl⟩ := Int.eq_ofNat_of_zero_le h0
  exact ⟨n, tl_num n⟩
theorem iT_free {i : Int} (h0 : 0 ≤ i) : 32 ∉ tl (iT i) := by
  obtain ⟨n, e⟩ := iT_tl h0
  rw [e]
  exact numL_free (by omega)
theorem words_free {d : RD} (wf : d.Wf) : ∀ p ∈ wordsOf d, 32 ∉ tl p := by
  have a := wf.n0; have r0 := wf.r0; have m0 := wf.m0; have l0 := wf.l0
  have k0 : 32 ∉ tl wFixed := by decide +kernel
  have k1 : 32 ∉ tl wDown := by decide +kernel
  have k2 : 32 ∉ tl wRest := by decide +kernel
  have k3 : 32 ∉ tl wOf := by decide +kernel
  have k4 : 32 ∉ tl wLeave := by decide +kernel
  intro p hp
  cases d with
  | fixed s r m l =>
    simp only [RD.isF, RD.num, RD.rest, RD.mod, RD.leave, if_true] at a r0 m0 l0
    unfold wordsOf restW leaveW at hp
    simp only [List.mem_cons, List.mem_append] at hp
    rcases hp with rfl | rfl | hp | hp
    · exact k0
    · exact iT_free (by omega)
    · split at hp
      · cases hp
      · simp only [List.mem_cons, List.not_mem_nil, or_false] at hp
        rcases hp with rfl | rfl | rfl | rfl
        · exact k2
        · exact iT_free r0
        · exact k3
        · exact iT_free (by omega)
    · split at hp
      · cases hp
      · simp only [List.mem_cons, List.not_mem_nil, or_false] at hp
        rcases hp with rfl | rfl
        · exact k4
        · exact iT_free l0
  | down t r m =>
    simp only [RD.isF, RD.num, RD.rest, RD.mod, RD.leave, Bool.false_eq_true, if_false] at a r0 m0 l0
    unfold wordsOf restW at hp
    simp only [List.mem_cons] at hp
    rcases hp with rfl | rfl | hp
    · exact k1
    · exact iT_free (by omega)
    · split at hp
      · cases hp
      · simp only [List.mem_cons, List.not_mem_nil, or_false] at hp
        rcases hp with rfl | rfl | rfl | rfl
        · exact k2
        · exact iT_free r0
        · exact k3
        · exact iT_free (by omega)
theorem words_ne (d : RD) : wordsOf d ≠ [] := by
  cases d <;> exact List.cons_ne_nil _ _
theorem tl_rest1 : tl (Str.empty ++ (" rest " : Str)) = 32 :: (tl wRest ++ [32]) := by decide +kernel
theorem tl_of1 : tl (" of " : Str) = 32 :: (tl wOf ++ [32]) := by decide +kernel
theorem tl_leave1 : tl (Str.empty ++ (" leave " : Str)) = 32 :: (tl wLeave ++ [32]) := by decide +kernel
theorem tl_fixed1 : tl (Str.empty ++ ("fixed " : Str)) = tl wFixed ++ [32] := by decide +kernel
theorem tl_down1 : tl (Str.empty ++ ("down " : Str)) = tl wDown ++ [32] := by decide +kernel
theorem tl_none : tl ("" : Str) = [] := by decide +kernel
theorem tl_restT (r m : Int) : tl (restT r m) = (restW r m).flatMap fun p => 32 :: tl p := by
  unfold restT restW
  split
  · exact tl_none
  · rw [tl_append, tl_append, tl_append, tl_rest1, tl_of1]
    simp [iT]
theorem tl_leaveT (l : Int) : tl (leaveT l) = (leaveW l).flatMap fun p => 32 :: tl p := by
  unfold leaveT leaveW
  split
  · exact tl_none
  · rw [tl_append, tl_leave1]
    simp [iT]
theorem joinL_cons : ∀ (p : List Nat) (r : List Str), joinL [32] (p :: r.map tl) = p ++ r.flatMap fun q => 32 :: tl q
  | p, [] => by simp [joinL]
  | p, q :: r => by
    show p ++ ([32] ++ joinL [32] (tl q :: r.map tl)) = _
    rw [joinL_cons (tl q) r]
    simp
theorem join_words (d : RD) : Str.join sp1 (wordsOf d) = d.text := by
  apply ext_tl
  rw [tl_join, tl_sp]
  cases d with
  | fixed s r m l =>
    show joinL [32] (tl wFixed :: (iT s :: (restW r m ++ leaveW l)).map tl) = tl ((((Str.empty ++ ("fixed " : Str)) ++ (toString s : Str)) ++ restT r m) ++ leaveT l)
    rw [joinL_cons, tl_append, tl_append, tl_append, tl_fixed1, tl_restT, tl_leaveT]
    simp [iT, List.flatMap_append]
  | down t r m =>
    show joinL [32] (tl wDown :: (iT t :: restW r m).map tl) = tl (((Str.empty ++ ("down " : Str)) ++ (toString t : Str)) ++ restT r m)
    rw [joinL_cons, tl_append, tl_append, tl_down1, tl_restT]
    simp [iT]
theorem split_text {d : RD} (wf : d.Wf) : Txt.split d.text sp1 = wordsOf d := by
  rw [← join_words d, ← join_eq]
  exact split_join tl_sp sp_small (words_ne d) (words_free wf)
theorem text_of_split {z : Str} {d : RD} (h : Txt.split z sp1 = wordsOf d) : z = d.text := by
  rw [← join_words d, ← h]
  exact (StrLaws.join_split z sp1).symm
end Fz

set_option Elab.async false
set_option linter.all false
set_option maxRecDepth 100000
set_option maxHeartbeats 2000000
/-! Own layer, thirteenth part: a value of a built-in type == an instance: its own __eq__ answers. -/
namespace Fz
open PySem PySem.Spec PyProof.Rows L2
open PySem.AutoSeq1 (wpAny_loadPart')
open PySem.MeetsSeq PySem.SeqAt
section
variable {c : Value} {dd : Option Addr} {sl : Array (Option Value)}
theorem dec_bool (b : Bool) (l : Addr) (c : Value) (dd : Option Addr) (sl : Array (Option Value)) :
    Meets (Builtin.«int.__eq__» ⟨[.bool b, .ref l], []⟩) (fun _ R s => s.heap.get? l = some { cls := c, dict := dd, data := .plain, slots := sl } ∧ R (.ok (.ret .notImplemented)) s) := .of_wp fun prog w A R s h => by
  obtain ⟨hp, g, d, tk, os⟩ := s
  obtain ⟨hl, h⟩ := h
  wp_walk using wpAny_loadPart' hl, wpAny_load hl
  exact ⟨_, rfl, h⟩
theorem dec_int (b : Int) (u : Tok) (l : Addr) (c : Value) (dd : Option Addr) (sl : Array (Option Value)) :
    Meets (Builtin.«int.__eq__» ⟨[.int b u, .ref l], []⟩) (fun _ R s => s.heap.get? l = some { cls := c, dict := dd, data := .plain, slots := sl } ∧ R (.ok (.ret .notImplemented)) s) := .of_wp fun prog w A R s h => by
  obtain ⟨hp, g, d, tk, os⟩ := s
  obtain ⟨hl, h⟩ := h
  wp_walk using wpAny_loadPart' hl, wpAny_load hl
  exact ⟨_, rfl, h⟩
theorem dec_str (b : Str) (u : Tok) (l : Addr) (c : Value) (dd : Option Addr) (sl : Array (Option Value)) :
    Meets (Builtin.«str.__eq__» ⟨[.str b u, .ref l], []⟩) (fun _ R s => s.heap.get? l = some { cls := c, dict := dd, data := .plain, slots := sl } ∧ R (.ok (.ret .notImplemented)) s) := .of_wp fun prog w A R s h => by
  obtain ⟨hp, g, d, tk, os⟩ := s
  obtain ⟨hl, h⟩ := h
  wp_walk using wpAny_loadPart' hl, wpAny_load hl
  exact ⟨_, rfl, h⟩
end
section
variable {prog : Program} {w : World} {A : Around} {s : Shared} {K : PySem.W.Frag} {x C l : Addr} {ox : Obj} {od : Option Obj} {R : Result → Shared → Prop}
theorem not_inst {M : Model} {E : Value → Shared → Prop} {T : String} {Q : Bool → Shared → Prop} (X : K.In s.heap) (J : PySem.W.InstAt s.heap x ox C od) (sub : PySem.W.subIn K (.ref C) (.type T) = some false) (h : Q false s) : wpAny M A (isInstance (.ref x) (.type T)) Q E s := by
  unfold isInstance
  exact wpAny_bind (J.type.here ((PySem.W.looks_subIn X sub).here h))
theorem dec_list (X : K.In s.heap) (J : PySem.W.InstAt s.heap x ox C od) (sub : PySem.W.subIn K (.ref C) (.type "list") = some false) {items : Array Value} {n : Nat} (hl : s.heap.get? l = some { cls := .type "list", data := .seq items n }) (h : R (.ok (.ret .notImplemented)) s) :
    wpAny (model prog w) A.in1 (Builtin.«list.__eq__» ⟨[.ref l, .ref x], []⟩) (GQ.FinOf prog w A R) (fun e s' => R (.error e) s') s := by
  have no : ∀ {Q : Bool → Shared → Prop} {E : Value → Shared → Prop}, Q false s → wpAny (model prog w) A.in1 (isInstance (.ref x) (.type "list")) Q E s := fun q => not_inst X J sub q
  obtain ⟨hp, g, d, tk, os⟩ := s
  wp_walk using no
  exact h
theorem dec_tuple (X : K.In s.heap) (J : PySem.W.InstAt s.heap x ox C od) (sub : PySem.W.subIn K (.ref C) (.type "tuple") = some false) (h : R (.ok (.ret .notImplemented)) s) :
    wpAny (model prog w) A.in1 (Builtin.«tuple.__eq__» ⟨[.ref l, .ref x], []⟩) (GQ.FinOf prog w A R) (fun e s' => R (.error e) s') s := by
  have no : ∀ {Q : Bool → Shared → Prop} {E : Value → Shared → Prop}, Q false s → wpAny (model prog w) A.in1 (isInstance (.ref x) (.type "tuple")) Q E s := fun q => not_inst X J sub q
  obtain ⟨hp, g, d, tk, os⟩ := s
  wp_walk using no
  exact h
theorem dec_dict (X : K.In s.heap) (J : PySem.W.InstAt s.heap x ox C od) (sub : PySem.W.subIn K (.ref C) (.type "dict") = some false) (h : R (.ok (.ret .notImplemented)) s) :
    wpAny (model prog w) A.in1 (Builtin.«dict.__eq__» ⟨[.ref l, .ref x], []⟩) (GQ.FinOf prog w A R) (fun e s' => R (.error e) s') s := by
  have no : ∀ {Q : Bool → Shared → Prop} {E : Value → Shared → Prop}, Q false s → wpAny (model prog w) A.in1 (isInstance (.ref x) (.type "dict")) Q E s := fun q => not_inst X J sub q
  obtain ⟨hp, g, d, tk, os⟩ := s
  wp_walk using no
  exact h
end
/-! ### the reflected == -/
section
variable {prog : Program} {w : World} {A : Around} {E : Value → Shared → Prop} {s : Shared} {K : PySem.W.Frag} {x C f : Addr} {ox : Obj} {od : Option Obj} {u : Value} {T id : String}
theorem eq_back {Q : Value → Shared → Prop} (room : A.units < cLine) (X : K.In s.heap) (J : PySem.W.InstAt s.heap x ox C od) (hT : s.TypeIs u T) (sub : PySem.W.subIn K (.ref C) (.type T) = some false) (S : Slot T "__eq__" id)
    (dec : ∀ Q' : Value → Shared → Prop, Q' .notImplemented s → wpAny (model prog w) A (call (.builtin id) [u, .ref x]) Q' E s) (own : PySem.W.findIn K (.ref C) "__eq__" = some (some (.ref f))) (isF : PySem.W.isFn K (.ref f) = true)
    (called : wpAny (model prog w) A (call (.ref f) [.ref x, u]) (PySem.W.CmpBack Q) E s) : wpAny (model prog w) A (richCompare .Eq u (.ref x)) Q E s := by
  have one : wpAny (model prog w) A (tryCompare (.ref x) "__eq__" u) (fun r s' => ∃ v, r = some v ∧ Q v s') E s := by
    unfold tryCompare
    refine wpAny_bind (PySem.W.ifBound_K X J own isF (wpAny_mono called (fun v s' z => ?_) fun _ _ z => z))
    cases v <;> first
      | exact z.elim
      | exact wpAny_pure ⟨_, rfl, z⟩
  simp only [richCompare, cmpInfo_Eq, hT.oneThing_none]
  refine wpAny_holding <| wpAny_bind <| wpAny_cRoomFor room ?_
  refine wpAny_bind <| wpAny_typeOf hT <| wpAny_bind <| J.type.here ?_
  split
  · refine wpAny_bind <| (PySem.W.looks_subIn X sub).here ?_
    simp only [Bool.false_eq_true, if_false, Bool.not_false, if_true]
    refine wpAny_bind (m := tryCompare u _ (.ref x)) <| wpAny_tryCompare_declines hT S <| dec _ ⟨rfl, ?_⟩
    refine wpAny_bind (m := tryCompare (.ref x) _ u) <| wpAny_mono one (fun r s' z => ?_) fun _ _ z => z
    obtain ⟨v, rfl, q⟩ := z
    exact wpAny_pure q
  · rename_i q
    exact absurd (by simp) q
end
/-- the class at C is below no built-in type of these -/
structure NotB (K : PySem.W.Frag) (C : Addr) : Prop where
  non : PySem.W.subIn K (.ref C) (.type "NoneType") = some false
  bl : PySem.W.subIn K (.ref C) (.type "bool") = some false
  int : PySem.W.subIn K (.ref C) (.type "int") = some false
  str : PySem.W.subIn K (.ref C) (.type "str") = some false
  lst : PySem.W.subIn K (.ref C) (.type "list") = some false
  tup : PySem.W.subIn K (.ref C) (.type "tuple") = some false
  dct : PySem.W.subIn K (.ref C) (.type "dict") = some false
section
variable {X : Cx} {C f : Addr} {fd : FuncData} {ps : List Str} {sp : Sp} {k : Nat}
/-- v == x, x an instance of the class at C, v a value of a built-in type -/
def rEqBack (C : Addr) (sp : Sp) : R2 := fun v x H Q => ∃ (a dx : Addr) (fs : List (Str × V)), x = .ref a ∧ H a = some (.ins C dx fs) ∧ Kd H v ∧ sp [x, v] H Q E0
theorem op_eqBack (own : PySem.W.findIn X.K (.ref C) "__eq__" = some (some (.ref f))) (isF : PySem.W.isFn X.K (.ref f) = true) (nb : NotB X.K C) (Fd : FnOk X.prog X.w X.K X.mg X.base CX0 k f fd ps sp) (binds : L2.Binds X.K fd ps []) (room : Room k X.A) : OpR X (compareOp .Eq) (rEqBack C sp) := by
  intro pins s σ H v x uv ux Q I rv rx h
  obtain ⟨a, dx, fs, rfl, ha, kd, q⟩ := h
  cases (show ux = Value.ref a from rx)
  obtain ⟨mA, O, _⟩ := ins_get I.hok ha
  obtain ⟨od, J, _⟩ := O.look
  have plain : s.heap.get? a = some { cls := .ref C, dict := some dx, data := .plain } := O.obj
  show wpAny _ _ (richCompare .Eq uv (.ref a)) _ _ _
  have called : wpAny (model X.prog X.w) X.A (call (.ref f) [.ref a, uv]) (PySem.W.CmpBack (EP X pins σ Q)) X.xe s :=
    wpAny_mono (run_fn (us := [.ref a, uv]) (vs := [.ref a, v]) Fd room binds .nil pass0 I (.cons rfl (.cons rv .nil)) q) (fun w s' ⟨z', H', I', rz, qz⟩ => SlX.cmpback rz ⟨z', H', I', rz, qz⟩) fun _ _ z => z
  cases v with
  | non =>
    cases (show uv = Value.none from rv)
    exact eq_back (T := "NoneType") room.units0 I.kIn J rfl nb.non PySem.F.slot_NoneType_eq (fun Q' q' => call_gives PySem.F.slot_NoneType_eq rfl PySem.F.entry_NoneType_eq (PySem.F.args_NoneType_eq_2 _ _) (NoneType___eq___none_ref_0 a) q') own isF called
  | bl b =>
    cases (show uv = Value.bool b from rv)
    exact eq_back (T := "bool") room.units0 I.kIn J rfl nb.bl PySem.F.slot_bool_eq (fun Q' q' => call_meets PySem.F.slot_bool_eq rfl PySem.F.entry_int_eq (PySem.F.args_int_eq_2 _ _) (dec_bool b a _ _ _) ⟨plain, q'⟩) own isF called
  | int i =>
    obtain ⟨t, e⟩ := (show ∃ t, uv = Value.int i t from rv)
    cases e
    exact eq_back (T := "int") room.units0 I.kIn J (typeIs_int s i t) nb.int PySem.F.slot_int_eq (fun Q' q' => call_meets PySem.F.slot_int_eq (typeIs_int s i t) PySem.F.entry_int_eq (PySem.F.args_int_eq_2 _ _) (dec_int i t a _ _ _) ⟨plain, q'⟩) own isF called
  | str z =>
    obtain ⟨t, e⟩ := (show ∃ t, uv = Value.str z t from rv)
    cases e
    exact eq_back (T := "str") room.units0 I.kIn J (typeIs_str s z t) nb.str PySem.F.slot_str_eq (fun Q' q' => call_meets PySem.F.slot_str_eq (typeIs_str s z t) PySem.F.entry_str_eq (PySem.F.args_str_eq_2 _ _) (dec_str z t a _ _ _) ⟨plain, q'⟩) own isF called
  | ref l =>
    cases (show uv = Value.ref l from rv)
    rcases kd with ⟨xs, h⟩ | ⟨xs, h⟩ | ⟨kvs, h⟩
    · obtain ⟨_, _, _, o, h1, h2, _⟩ := (show ObjOk X.prog X.w H s.heap l (.tup xs) from I.hok l _ h)
      exact eq_back (T := "tuple") room.units0 I.kIn J ⟨o, h1, h2⟩ nb.tup PySem.F.slot_tuple_eq (fun Q' q' => GQ.call_here PySem.F.slot_tuple_eq ⟨o, h1, h2⟩ PySem.F.entry_tuple_eq (PySem.F.args_tuple_eq_2 _ _) (dec_tuple I.kIn J nb.tup q')) own isF called
    · obtain ⟨_, _, n, _, h1⟩ := (show ObjOk X.prog X.w H s.heap l (.lst xs) from I.hok l _ h)
      exact eq_back (T := "list") room.units0 I.kIn J ⟨_, h1, rfl⟩ nb.lst PySem.F.slot_list_eq (fun Q' q' => GQ.call_here PySem.F.slot_list_eq ⟨_, h1, rfl⟩ PySem.F.entry_list_eq (PySem.F.args_list_eq_2 _ _) (dec_list I.kIn J nb.lst h1 q')) own isF called
    · obtain ⟨_, _, vs, _, o, es, ep, h1, h2, _⟩ := (show ObjOk X.prog X.w H s.heap l (.dK kvs) from I.hok l _ h)
      exact eq_back (T := "dict") room.units0 I.kIn J ⟨o, h1, h2.1⟩ nb.dct PySem.F.slot_dict_eq (fun Q' q' => GQ.call_here PySem.F.slot_dict_eq ⟨o, h1, h2.1⟩ PySem.F.entry_dict_eq (PySem.F.args_dict_eq_2 _ _) (dec_dict I.kIn J nb.dct q')) own isF called
  | flt _ => exact kd.elim
  | byt _ => exact kd.elim
  | ty _ => exact kd.elim
end
/-! ### repr of any value of a built-in kind -/
/-- the data of a value: as Dp says, or the empty dict -/
def RepData (K : PySem.W.Frag) (H : Hp) (v : V) (d : PyData) : Prop := (Dp K H v d ∧ d.hasDict = false) ∨ ∃ a, v = .ref a ∧ H a = some (.dK []) ∧ d = .dict []
theorem RepData.same {K : PySem.W.Frag} {H H' : Hp} {v : V} {d : PyData} (h : RepData K H v d) (k : Dp K H v d → Dp K H' v d) (s : Same H H') : RepData K H' v d := by
  rcases h with ⟨h, n⟩ | ⟨a, e, h, z⟩
  · exact .inl ⟨k h, n⟩
  · exact .inr ⟨a, e, s _ _ h, z⟩
structure rRepA (K : PySem.W.Frag) (vs : List V) (H : Hp) (Q : VK) : Prop where
  ex : ∃ (v : V) (d : PyData), vs = [v] ∧ RepData K H v d ∧ d.showable = true ∧ d.depth ≤ 60 ∧ d.shown.length ≤ sizeLine ∧ Q (.str d.shown) H
theorem call_repA {X : Cx} (clear : X.A.guards = some []) (room : X.A.units + 64 < cLine) : CallR X (.builtin "repr") (rRepA X.K) := by
  intro pins s σ H vs us Q I rvs hyp
  obtain ⟨v, d, rfl, data, hshow, hdeep, hfit, fin⟩ := hyp.ex
  obtain ⟨u, rfl, ru⟩ := vals1 rvs
  rcases data with ⟨dp, no⟩ | ⟨a, rfl, ha, rfl⟩
  · cases dp with
    | non =>
      cases (show u = Value.none from ru)
      rw [PyData.shown] at fin
      exact PySem.P.repr_of_none ⟨.str _, H, I.tok _, ⟨_, rfl⟩, fin⟩
    | bl b =>
      cases (show u = Value.bool b from ru)
      rw [PyData.shown] at fin
      exact PySem.P.repr_of_bool ⟨.str _, H, I.tok _, ⟨_, by cases b <;> rfl⟩, fin⟩
    | int i =>
      obtain ⟨t, e⟩ := (show ∃ t, u = Value.int i t from ru)
      cases e
      rw [PyData.shown] at fin
      rw [PyData.showable] at hshow
      exact PySem.P.repr_of_int (of_decide_eq_true hshow) ⟨.str _, H, I.tok _, ⟨_, rfl⟩, fin⟩
    | str z =>
      obtain ⟨t, e⟩ := (show ∃ t, u = Value.str z t from ru)
      cases e
      rw [PyData.shown] at fin hfit
      exact PySem.P.repr_of_str ⟨.str _, H, I.tok _, ⟨_, rfl⟩, fin⟩ hfit
    | @lst a xs ds hs hall => exact call_repD clear room pins s σ H [.ref a] [u] Q I (.cons ru .nil) ⟨⟨a, _, rfl, Dp.lst hs hall, hshow, no, hdeep, hfit, fin⟩⟩
    | @tup a xs ds hs hall => exact call_repD clear room pins s σ H [.ref a] [u] Q I (.cons ru .nil) ⟨⟨a, _, rfl, Dp.tup hs hall, hshow, no, hdeep, hfit, fin⟩⟩
  · cases (show u = Value.ref a from ru)
    obtain ⟨_, sys, vs', kv, o, es, ep, h1, h2, h3, _, pairs, _⟩ := (show ObjOk X.prog X.w H s.heap a (.dK []) from I.hok a _ ha)
    cases kv
    have none_ : es.toList = [] := by cases h : es.toList with
      | nil => rfl
      | cons e r => rw [h] at pairs; cases pairs
    have reads : Reads s.heap (.ref a) (.dict []) (a :: [] ++ []) := Reads.dict h1 h2.1 h3 (by rw [none_]; exact .nil) (by rw [none_]; exact .nil)
    refine repr_of_reads' reads hshow (fun _ => ?_) clear (by omega) (fun _ _ same => same) (fun heap' tok toks kept => ⟨.str _, H, I.kept kept, ⟨_, rfl⟩, fin⟩) hfit
    intro m
    simp at m
    rw [← m] at sys
    simp at sys
end Fz

set_option Elab.async false
set_option linter.all false
set_option maxRecDepth 100000
set_option maxHeartbeats 2000000
/-! Own layer, fourteenth part: where rules stand; errors of one field; what is heard of a rule asked at a heap. -/
namespace Fz
open PySem PySem.Spec PyProof.Rows L2
/-! ### errors of one field -/
def spErrI (C : Addr) (f : Str) : Sp := fun vs H Q _ => ∃ (a : Addr) (v : V), vs = [.ref a, v] ∧ H a = some (exo a C none) ∧ ∀ d, H d = none → d ≠ a → Q .non (upd (upd H d (exd d [(f, v)])) a (exo a C (some d)))
def BadE (C : Addr) (f : Str) (v : V) (E : XK) (H : Hp) : Prop := ∀ d, H d = none → E (.ref C) (some d) (upd H d (.xd [(f, v)]))
theorem bade_made {C : Addr} {f : Str} {v : V} {E : XK} {W : WX} {σ : L2.St} {i : Nat} {H : Hp} (at_ : σ[i]? = some (some v)) (h : BadE C f v E H) (hW : ∀ cls d H', E cls d H' → W cls d σ H') : tMkO C (spErrI C f) [] (tCons (tVar i) tNil) σ H (fun cls d H' => W cls d σ H') := by
  refine ⟨v, at_, (show 1 ≤ 1000 by decide), fun a ha => ⟨a, v, rfl, upd_same, fun d hd ne => ⟨rfl, d, _, upd_same, by rw [upd_ne ne, upd_same], by rw [upd_ne ne] at hd; exact hd, ?_⟩⟩⟩
  have hd0 : H d = none := by rw [upd_ne ne] at hd; exact hd
  have e : upd (del (upd (upd (upd H a (exo a C none)) d (exd d [(f, v)])) a (exo a C (some d))) a) d (.xd [(f, v)]) = upd H d (.xd [(f, v)]) := by
    funext b
    by_cases hb : b = d
    · subst hb
      rw [upd_same, upd_same]
    · rw [upd_ne hb, upd_ne hb]
      by_cases hba : b = a
      · subst hba
        rw [del_same, ha]
      · rw [del_ne hba, upd_ne hba, upd_ne hb, upd_ne hba]
  show W (.ref C) (some d) σ (upd (del (upd (upd (upd H a (exo a C none)) d (exd d [(f, v)])) a (exo a C (some d))) a) d (.xd [(f, v)]))
  rw [e]
  exact hW _ _ _ (h d hd0)
/-- an error class of one field -/
structure PrgF (K : PySem.W.Frag) (mg : Str → Option Value) (x f : Str) (C g : Addr) : Prop where
  g_ : mg x = some (.ref C)
  oB : OexC K C
  nF : PySem.W.findIn K (.ref C) f = some none
  iB : PySem.W.findIn K (.ref C) "__init__" = some (some (.ref g))
  tB : PySem.W.typeIn K (.ref g) = some (.type "function")
/-! ### values and heaps -/
def great : Int := 1000000000000000000000000000000
/-- a value of a built-in kind, or a rule -/
def AnyV (CF CD : Addr) (H : Hp) (v : V) : Prop := Kd H v ∨ ∃ x d, v = .ref x ∧ RuleAt CF CD H x d
theorem AnyV.same {CF CD : Addr} {H H' : Hp} {v : V} (h : AnyV CF CD H v) (s : Same H H') : AnyV CF CD H' v := h.imp (fun k => k.same s) fun ⟨x, d, e, r⟩ => ⟨x, d, e, r.same s⟩
theorem AnyV.ext {CF CD : Addr} {H H' : Hp} {v : V} (h : AnyV CF CD H v) (s : LamX.ExtN H H') : AnyV CF CD H' v := h.imp (fun k => k.ext s) fun ⟨x, d, e, r⟩ => ⟨x, d, e, r.ext s⟩
/-- neither class of rules is below int or bool -/
structure NoInt (K : PySem.W.Frag) (CF CD : Addr) : Prop where
  fi : PySem.W.kitOne K (.ref CF) (.type "int") = some false
  fb : PySem.W.kitOne K (.ref CF) (.type "bool") = some false
  di : PySem.W.kitOne K (.ref CD) (.type "int") = some false
  db : PySem.W.kitOne K (.ref CD) (.type "bool") = some false
def IntTy (K : PySem.W.Frag) (H : Hp) (x : V) : Prop := ∃ t, TyX K H x t ∧ PySem.W.kitOne K t (.type "int") = some (isIntV x) ∧ PySem.W.kitOne K t (.type "bool") = some (isBlV x)
theorem AnyV.int {K : PySem.W.Frag} {CF CD : Addr} {H : Hp} {v : V} (P : PrgQ K CF CD) (N : NoInt K CF CD) (h : AnyV CF CD H v) : IntTy K H v := by
  rcases h with k | ⟨x, d, rfl, dx, r⟩
  · exact k.isInt
  · cases d with
    | fixed _ _ _ _ => exact ⟨_, P.tyF.ty P.icF.cl r, N.fi, N.fb⟩
    | down _ _ _ => exact ⟨_, P.tyD.ty P.icD.cl r, N.di, N.db⟩
def spNumX (K : PySem.W.Frag) : Sp := fun vs H Q _ => ∃ (x : V) (lo hi : Int), vs = [x, .int lo, .int hi] ∧ IntTy K H x ∧ Q (.bl (numV lo hi x)) H
def standsB (d : RD) (n : Int) : Bool := decide (d.start ≤ n) && decide (n % d.mod = d.rest)
def leftI : RD → Int → Int
  | .fixed s _ _ _, n => n - s
  | .down t _ _, _ => t
def takenI : RD → Int → Int
  | .fixed s _ _ _, _ => s
  | .down t _ _, n => n - t
/-- what a rule answers: a refusal of the heap, of the take, or a value -/
inductive Out where
  | size (v : V)
  | take (v : V)
  | val (u : V)
def Out.Then (CZ CN : Addr) (E : XK) (Q : VK) (H : Hp) : Out → Prop
  | .size v => BadE CZ "value" v E H
  | .take v => BadE CN "number" v E H
  | .val u => Q u H
def outSize (v : V) : Out := if numV 0 great v = true then .val .non else .size v
def outStands (d : RD) (v : V) : Out := match v with
  | .int n => if numV 0 great v = true then .val (.bl (standsB d n)) else .size v
  | v => .size v
def outIf (f : Int → Int) (d : RD) (v : V) : Out := match v with
  | .int n => if numV 0 great v = true then (if standsB d n = true then .val (.int (f n)) else .take v) else .size v
  | v => .size v
def outCheck (d : RD) (v : V) : Out := match v with
  | .int n => if numV 0 great v = true then (if standsB d n = true then .val .non else .take v) else .size v
  | v => .size v
def outLeft (d : RD) : V → Out := outIf (leftI d) d
def outTaken (d : RD) : V → Out := outIf (takenI d) d
def spAt (CZ CN CF CD : Addr) (b : Bool) (g : RD → V → Out) : Sp := fun vs H Q E => ∃ (x : Addr) (d : RD) (v : V), vs = [.ref x, v] ∧ RuleAt CF CD H x d ∧ d.Wf ∧ d.isF = b ∧ AnyV CF CD H v ∧ (g d v).Then CZ CN E Q H
def spSize (CZ CN CF CD : Addr) : Sp := fun vs H Q E => ∃ v : V, vs = [v] ∧ AnyV CF CD H v ∧ (outSize v).Then CZ CN E Q H
def spStands (CF CD : Addr) : Sp := fun vs H Q _ => ∃ (x : Addr) (d : RD) (n : Int), vs = [.ref x, .int n] ∧ RuleAt CF CD H x d ∧ d.Wf ∧ Q (.bl (standsB d n)) H
def spCheck (CZ CN CF CD : Addr) : Sp := fun vs H Q E => ∃ (x : Addr) (d : RD) (v : V), vs = [.ref x, v] ∧ RuleAt CF CD H x d ∧ d.Wf ∧ AnyV CF CD H v ∧ (outCheck d v).Then CZ CN E Q H
def spLeftFrom (CF CD : Addr) : Sp := fun vs H Q _ => ∃ (x : Addr) (s r m l n : Int), vs = [.ref x, .int n] ∧ RuleAt CF CD H x (.fixed s r m l) ∧ Q (.int (n - s)) H
/-! ### what is heard -/
abbrev heardEx2 (CZ CN : Addr) (Q : VK) : XK := fun cls d H' => (cls = .ref CZ ∧ ∃ (dd : Addr) (v : V), d = some dd ∧ H' dd = some (.xd [("value", v)]) ∧ ∀ H'' t, Same H' H'' → H'' t = some (.tup [.str "size", v]) → Q (.ref t) H'') ∨
  (cls = .ref CN ∧ ∃ (dd : Addr) (v : V), d = some dd ∧ H' dd = some (.xd [("number", v)]) ∧ ∀ H'' t, Same H' H'' → H'' t = some (.tup [.str "take", v]) → Q (.ref t) H'')
def TTs (CZ CN : Addr) : (XK → Hp → VK → Prop) → Hp → VK → Prop := fun tl H Q => ∀ H1, Same H H1 → tl (heardEx2 CZ CN Q) H1 (heardNx Q)
def Out.Ans (H : Hp) (y : V) : Out → Prop
  | .size v => ∃ a, y = .ref a ∧ H a = some (.tup [.str "size", v])
  | .take v => ∃ a, y = .ref a ∧ H a = some (.tup [.str "take", v])
  | .val u => ∃ a, y = .ref a ∧ H a = some (.lst [u])
theorem Out.Ans.ext {H H' : Hp} {y : V} {o : Out} (h : o.Ans H y) (s : LamX.ExtN H H') : o.Ans H' y := by
  cases o with
  | size v => exact h.imp fun _ ⟨e, z⟩ => ⟨e, s _ _ z (fun _ z => nomatch z)⟩
  | take v => exact h.imp fun _ ⟨e, z⟩ => ⟨e, s _ _ z (fun _ z => nomatch z)⟩
  | val v => exact h.imp fun _ ⟨e, z⟩ => ⟨e, s _ _ z (fun _ z => nomatch z)⟩
theorem heard_out {CZ CN : Addr} {H : Hp} {Q : VK} (o : Out) (hQ : ∀ H' y, Same H H' → o.Ans H' y → Q y H') : o.Then CZ CN (heardEx2 CZ CN Q) (heardNx Q) H := by
  have kept : ∀ {d : Addr} {u : HO} {H'' : Hp}, H d = none → Same (upd H d u) H'' → Same H H'' := fun hd s b o e => s b o (by rw [upd_ne (ne_of_none e hd)]; exact e)
  cases o with
  | size v => exact fun d hd => .inl ⟨rfl, d, v, rfl, upd_same, fun H'' t s at_ => hQ H'' _ (kept hd s) ⟨t, rfl, at_⟩⟩
  | take v => exact fun d hd => .inr ⟨rfl, d, v, rfl, upd_same, fun H'' t s at_ => hQ H'' _ (kept hd s) ⟨t, rfl, at_⟩⟩
  | val u => exact fun H'' l s at_ => hQ H'' _ s ⟨l, rfl, at_⟩
end Fz

set_option Elab.async false
set_option linter.all false
set_option maxRecDepth 100000
set_option maxHeartbeats 2000000
/-! Own layer, fifteenth part: short data and its text; a rule's methods of one heap, of either class. -/
namespace Fz
open PySem PySem.Spec PyProof.Rows L2
/-! ### short data -/
structure Small (d : PyData) : Prop where
  sh : d.showable = true
  nd : d.hasDict = false
  dp : d.depth ≤ 5
  ln : d.shown.length ≤ 1000
theorem great_log {n : Int} (h0 : 0 ≤ n) (h1 : n ≤ great) : n.natAbs.log2 < 1920 := by
  by_cases e : n.natAbs = 0
  · rw [e]
    decide +kernel
  · exact (Nat.log2_lt e).mpr (Nat.lt_of_le_of_lt (show n.natAbs ≤ 1000000000000000000000000000000 by unfold great at h1; omega) (by decide +kernel))
theorem great_len {n : Int} (h0 : 0 ≤ n) (h1 : n ≤ great) : (toString n : Str).length ≤ 31 := toString_length_le h0 (by decide) (show n < 10 ^ 31 by unfold great at h1; omega)
theorem small_int {n : Int} (h0 : 0 ≤ n) (h1 : n ≤ great) : Small (.int n) where
  sh := by rw [PyData.showable]; exact decide_eq_true (great_log h0 h1)
  nd := by rw [PyData.hasDict]
  dp := by rw [PyData.depth]; omega
  ln := by
    rw [PyData.shown]
    exact Nat.le_trans (great_len h0 h1) (by decide)
theorem small_len {d : PyData} (h : d.leavesShort 100 = true) (b : d.bulk ≤ 8) : d.shown.length ≤ 1000 := by
  have z := PyData.shown_le_bulk 100 (by decide) d h
  have z2 : 102 * d.bulk ≤ 102 * 8 := Nat.mul_le_mul_left _ b
  omega
theorem short_int {n : Int} (h0 : 0 ≤ n) (h1 : n ≤ great) : PyData.leavesShort 100 (.int n) = true := by
  rw [PyData.leavesShort]
  refine decide_eq_true ?_
  rw [PyData.shown]
  exact Nat.le_trans (great_len h0 h1) (by decide)
theorem small_one {n : Int} (h0 : 0 ≤ n) (h1 : n ≤ great) : Small (.list [.int n]) where
  sh := by simp only [PyData.showable, PyData.showableAll, decide_eq_true (great_log h0 h1), Bool.and_self]
  nd := by simp only [PyData.hasDict, PyData.hasDictAll, Bool.or_self]
  dp := by simp only [PyData.depth, PyData.depthAll]; decide
  ln := small_len (by simp only [PyData.leavesShort, PyData.leavesShortAll]; have z := short_int h0 h1; rw [PyData.leavesShort] at z; rw [z]; rfl) (by simp only [PyData.bulk, PyData.bulkAll]; decide)
theorem small_take {n : Int} (h0 : 0 ≤ n) (h1 : n ≤ great) : Small (.tuple [.str "take", .int n]) where
  sh := by simp only [PyData.showable, PyData.showableAll, decide_eq_true (great_log h0 h1), Bool.and_self]
  nd := by simp only [PyData.hasDict, PyData.hasDictAll, Bool.or_self]
  dp := by simp only [PyData.depth, PyData.depthAll]; decide
  ln := small_len (by
    have z := short_int h0 h1
    have y : PyData.leavesShort 100 (.str "take") = true := by decide +kernel
    simp only [PyData.leavesShort] at z y
    simp only [PyData.leavesShort, PyData.leavesShortAll]
    rw [z, y]
    rfl) (by simp only [PyData.bulk, PyData.bulkAll]; decide +kernel)
theorem smalls {ds : List PyData} (h : ∀ d ∈ ds, Small d) : PyData.showableAll ds = true ∧ PyData.hasDictAll ds = false ∧ PyData.depthAll ds ≤ 6 ∧ ∀ t ∈ PyData.shownAll ds, t.length ≤ 1000 := by
  induction ds with
  | nil =>
    simp only [PyData.showableAll, PyData.hasDictAll, PyData.depthAll, PyData.shownAll]
    exact ⟨trivial, trivial, by omega, fun t ht => nomatch ht⟩
  | cons d ds ih =>
    obtain ⟨a, b, c, e⟩ := ih fun x hx => h x (List.mem_cons_of_mem _ hx)
    have k := h d List.mem_cons_self
    have k3 := k.dp
    simp only [PyData.showableAll, PyData.hasDictAll, PyData.depthAll, PyData.shownAll, a, b, k.sh, k.nd, Bool.and_self, Bool.or_self]
    refine ⟨trivial, trivial, by omega, fun t ht => ?_⟩
    rcases List.mem_cons.mp ht with rfl | ht
    · exact k.ln
    · exact e t ht
theorem shownAll_len : ∀ ds : List PyData, (PyData.shownAll ds).length = ds.length
  | [] => by simp only [PyData.shownAll, List.length_nil]
  | d :: ds => by
    have ih := shownAll_len ds
    simp only [PyData.shownAll, List.length_cons, ih]
theorem rep_small {K : PySem.W.Frag} {H : Hp} {Q : VK} {l : Addr} {xs : List V} {ds : List PyData} (hl : H l = some (.lst xs)) (dp : DpAll K H xs ds) (h : ∀ d ∈ ds, Small d) (few : ds.length ≤ 900) (fin : Q (.str (PyData.shown (.list ds))) H) : rRepD K [.ref l] H Q := by
  obtain ⟨a, b, c, e⟩ := smalls h
  refine ⟨⟨l, _, rfl, Dp.lst (SqL.of hl) dp, ?_, ?_, ?_, ?_, fin⟩⟩
  · rw [PyData.showable]
    exact a
  · rw [PyData.hasDict]
    exact b
  · rw [PyData.depth]
    omega
  · rw [PyData.shown]
    refine text_from (m := 1000) e ?_
    rw [shownAll_len]
    omega
/-! ### a method of one heap -/
section
variable {P : Program} {w : World} {K : PySem.W.Frag} {mg : Str → Option Value} {base : Heap}
structure AtM (P : Program) (w : World) (K : PySem.W.Frag) (mg : Str → Option Value) (base : Heap) (CZ CN CF CD C : Addr) (b : Bool) (m : Str) (k : Nat) (g : RD → V → Out) (f : Addr) (fd : FuncData) : Prop where
  M : Meth K C m f
  G : FnOk P w K mg base (L2.CX P w) k f fd ["self", "n"] (spAt CZ CN CF CD b g)
  B : L2.Binds K fd ["self", "n"] []
  BK : KBn K fd ["self", "n"] 1 ["n"] (fun us ws => us ++ ws) (fun vs zs => vs ++ zs)
end
def tAt (CZ CN CF CD : Addr) (m : Str) (g : RD → V → Out) (i j : Nat) (E : XK) : TE := tEither (tMeth CF m (spAt CZ CN CF CD true g) [] E (tVar i) (tCons (tVar j) tNil)) (tMeth CD m (spAt CZ CN CF CD false g) [] E (tVar i) (tCons (tVar j) tNil))
def tAtK (CZ CN CF CD : Addr) (m : Str) (g : RD → V → Out) (i j : Nat) (E : XK) : TE := tEither (tMethK CF m (["n"] : List Str).length (spAt CZ CN CF CD true g) (fun vs zs => vs ++ zs) E (tVar i) (tCons (tVar j) tNil)) (tMethK CD m (["n"] : List Str).length (spAt CZ CN CF CD false g) (fun vs zs => vs ++ zs) E (tVar i) (tCons (tVar j) tNil))
section
variable {CZ CN CF CD x : Addr} {m : Str} {g : RD → V → Out} {i j : Nat} {E : XK} {σ : L2.St} {H : Hp} {Q : VK} {d : RD} {v : V} {TL : List (Addr × Str)}
theorem at_ok (no : ∀ d : RD, d.fs.lookup m = none) (vi : σ[i]? = some (some (.ref x))) (vj : σ[j]? = some (some v)) (hx : RuleAt CF CD H x d) (wf : d.Wf) (any : AnyV CF CD H v) (fin : (g d v).Then CZ CN E Q H) : tAt CZ CN CF CD m g i j E σ H Q := by
  obtain ⟨dx, ax⟩ := id hx
  have n := no d
  cases d with
  | fixed z r m l => exact .inl ⟨_, vi, x, dx, _, rfl, ax, n, _, vj, x, _, v, rfl, hx, wf, rfl, any, fin⟩
  | down t r m => exact .inr ⟨_, vi, x, dx, _, rfl, ax, n, _, vj, x, _, v, rfl, hx, wf, rfl, any, fin⟩
theorem atK_ok (no : ∀ d : RD, d.fs.lookup m = none) (vi : σ[i]? = some (some (.ref x))) (vj : σ[j]? = some (some v)) (hx : RuleAt CF CD H x d) (wf : d.Wf) (any : AnyV CF CD H v) (fin : (g d v).Then CZ CN E Q H) : tAtK CZ CN CF CD m g i j E σ H Q := by
  obtain ⟨dx, ax⟩ := id hx
  have n := no d
  cases d with
  | fixed z r m l => exact .inl ⟨_, vi, x, dx, _, rfl, ax, n, _, vj, rfl, x, _, v, rfl, hx, wf, rfl, any, fin⟩
  | down t r m => exact .inr ⟨_, vi, x, dx, _, rfl, ax, n, _, vj, rfl, x, _, v, rfl, hx, wf, rfl, any, fin⟩
theorem heard_at (no : ∀ d : RD, d.fs.lookup m = none) (tabs : LamX.Tabs TL H) (vi : σ[i]? = some (some (.ref x))) (vj : σ[j]? = some (some v)) (hx : RuleAt CF CD H x d) (wf : d.Wf) (any : AnyV CF CD H v) (hQ : ∀ H' y, LamX.ExtN H H' → LamX.Tabs TL H' → (g d v).Ans H' y → Q y H') : Box (LamX.tLam TL (TTs CZ CN) (tAt CZ CN CF CD m g i j)) σ H Q := by
  refine ⟨tabs, fun H3 e3 tabs3 H4 s4 => ?_⟩
  have ext4 := extN_same e3 s4
  exact at_ok no vi vj (hx.ext ext4) wf (any.ext ext4) (heard_out _ fun H5 y s5 ans => hQ H5 y (extN_same ext4 s5) (tabs3.ext fun b o e => s5 b o (s4 b o e)) ans)
theorem heard_atK (no : ∀ d : RD, d.fs.lookup m = none) (tabs : LamX.Tabs TL H) (vi : σ[i]? = some (some (.ref x))) (vj : σ[j]? = some (some v)) (hx : RuleAt CF CD H x d) (wf : d.Wf) (any : AnyV CF CD H v) (hQ : ∀ H' y, LamX.ExtN H H' → LamX.Tabs TL H' → (g d v).Ans H' y → Q y H') : Box (LamX.tLam TL (TTs CZ CN) (tAtK CZ CN CF CD m g i j)) σ H Q := by
  refine ⟨tabs, fun H3 e3 tabs3 H4 s4 => ?_⟩
  have ext4 := extN_same e3 s4
  exact atK_ok no vi vj (hx.ext ext4) wf (any.ext ext4) (heard_out _ fun H5 y s5 ans => hQ H5 y (extN_same ext4 s5) (tabs3.ext fun b o e => s5 b o (s4 b o e)) ans)
end
theorem noStandsAt (d : RD) : d.fs.lookup ("stands_at" : Str) = none := by cases d <;> rfl
theorem noLeftAt (d : RD) : d.fs.lookup ("left_at" : Str) = none := by cases d <;> rfl
theorem noTakenAt (d : RD) : d.fs.lookup ("taken_at" : Str) = none := by cases d <;> rfl
/-! ### answers gathered in a list -/
def Out.dat : Out → PyData
  | .take (.int n) => .tuple [.str "take", .int n]
  | .val (.int k) => .list [.int k]
  | _ => .none
def Out.Num : Out → Prop
  | .take (.int n) => 0 ≤ n ∧ n ≤ great
  | .val (.int k) => 0 ≤ k ∧ k ≤ great
  | _ => False
theorem Out.Num.small {o : Out} (h : o.Num) : Small o.dat := by
  cases o with
  | size v => exact h.elim
  | take v => cases v <;> first | exact h.elim | exact small_take h.1 h.2
  | val v => cases v <;> first | exact h.elim | exact small_one h.1 h.2
theorem Out.Num.dp {o : Out} (h : o.Num) {K : PySem.W.Frag} {H : Hp} {y : V} (a : o.Ans H y) : Dp K H y o.dat := by
  cases o with
  | size v => exact h.elim
  | take v =>
    obtain ⟨a, rfl, z⟩ := a
    cases v <;> first | exact h.elim | exact Dp.tup (SqT.of z) (.cons (.str _) (.cons (.int _) .nil))
  | val v =>
    obtain ⟨a, rfl, z⟩ := a
    cases v <;> first | exact h.elim | exact Dp.lst (SqL.of z) (.cons (.int _) .nil)
theorem Out.Ans.ref {H : Hp} {y : V} {o : Out} (h : o.Ans H y) : ∃ a, y = .ref a := by
  cases o <;> exact h.imp fun _ z => z.1
theorem Out.Ans.put {H : Hp} {y : V} {o : Out} (h : o.Ans H y) (n : ∀ u, o = .val u → ∀ b, u ≠ .ref b) {t b : Addr} {xs : List V} {u : HO} (ht : H t = some (.lst (.ref b :: xs))) : o.Ans (upd H t u) y := by
  cases o with
  | size v => exact h.imp fun a ⟨e, z⟩ => ⟨e, by rw [upd_ne (fun q => by rw [q, ht] at z; cases z)]; exact z⟩
  | take v => exact h.imp fun a ⟨e, z⟩ => ⟨e, by rw [upd_ne (fun q => by rw [q, ht] at z; cases z)]; exact z⟩
  | val v => exact h.imp fun a ⟨e, z⟩ => ⟨e, by
      rw [upd_ne (fun q => by
        rw [q, ht] at z
        exact n v rfl b (List.cons.inj (HO.lst.inj (Option.some.inj z))).1.symm)]
      exact z⟩
def Out.Plain (o : Out) : Prop := ∀ u, o = .val u → ∀ b, u ≠ .ref b
theorem Out.Num.plain {o : Out} (h : o.Num) : o.Plain := fun u e b q => by
  rw [e, q] at h
  exact h
inductive AnsAll (H : Hp) : List V → List Out → Prop
  | nil : AnsAll H [] []
  | cons {y ys o os} : o.Ans H y → AnsAll H ys os → AnsAll H (y :: ys) (o :: os)
theorem AnsAll.ext {H H' : Hp} {ys : List V} {os : List Out} (h : AnsAll H ys os) (s : LamX.ExtN H H') : AnsAll H' ys os := by
  induction h with
  | nil => exact .nil
  | cons a _ ih => exact .cons (a.ext s) ih
theorem AnsAll.put {H : Hp} {ys : List V} {os : List Out} (h : AnsAll H ys os) (n : ∀ o ∈ os, ∀ u, o = .val u → ∀ b, u ≠ .ref b) {t b : Addr} {xs : List V} {u : HO} (ht : H t = some (.lst (.ref b :: xs))) : AnsAll (upd H t u) ys os := by
  induction h with
  | nil => exact .nil
  | cons a _ ih => exact .cons (a.put (n _ List.mem_cons_self) ht) (ih fun o ho => n o (List.mem_cons_of_mem _ ho))
theorem AnsAll.app {H : Hp} {ys : List V} {os : List Out} {y : V} {o : Out} (h : AnsAll H ys os) (a : o.Ans H y) : AnsAll H (ys ++ [y]) (os ++ [o]) := by
  induction h with
  | nil => exact .cons a .nil
  | cons b _ ih => exact .cons b ih
theorem AnsAll.len {H : Hp} {ys : List V} {os : List Out} (h : AnsAll H ys os) : ys.length = os.length := by
  induction h with
  | nil => rfl
  | cons _ _ ih => exact congrArg Nat.succ ih
theorem AnsAll.dp {K : PySem.W.Frag} {H : Hp} {ys : List V} {os : List Out} (h : AnsAll H ys os) (n : ∀ o ∈ os, o.Num) : DpAll K H ys (os.map Out.dat) := by
  induction h with
  | nil => exact .nil
  | cons a _ ih => exact .cons ((n _ List.mem_cons_self).dp a) (ih fun o ho => n o (List.mem_cons_of_mem _ ho))
theorem AnsAll.all {H : Hp} {ys : List V} {os : List Out} {o : Out} (h : AnsAll H ys os) (n : ∀ u ∈ os, u = o) {y : V} (hy : y ∈ ys) : o.Ans H y := by
  induction h with
  | nil => cases hy
  | cons a _ ih =>
    rcases List.mem_cons.mp hy with rfl | hy
    · rw [n _ List.mem_cons_self] at a
      exact a
    · exact ih (fun u hu => n u (List.mem_cons_of_mem _ hu)) hy
/-- a list of answers at td, made behind H0 -/
structure ToldAt (TL : List (Addr × Str)) (H0 : Hp) (td : Addr) (os : List Out) (H : Hp) : Prop where
  ext : LamX.ExtN H0 H
  tabs : LamX.Tabs TL H
  new : ∀ b o, H0 b = some o → (∀ ps, o ≠ .tbl ps) → b ≠ td
  ys : ∃ (a : Addr) (ys : List V), H td = some (.lst (.ref a :: ys)) ∧ AnsAll H (.ref a :: ys) os
theorem ToldAt.first {TL : List (Addr × Str)} {H0 H : Hp} {td : Addr} {o : Out} {y : V} (e : LamX.ExtN H0 H) (t : LamX.Tabs TL H) (a : o.Ans H y) (un : H td = none) : ToldAt TL H0 td [o] (upd H td (.lst [y])) := by
  obtain ⟨b, rfl⟩ := a.ref
  have s := Same.new (o := .lst [V.ref b]) un
  exact ⟨extN_same e s, t.ext s, fun c o h n => ne_of_none (e c o h n) un, b, [], upd_same, .cons (a.ext (.of s)) .nil⟩
theorem ToldAt.app {TL : List (Addr × Str)} {H0 H H' : Hp} {td : Addr} {os : List Out} {o : Out} {y : V} (h : ToldAt TL H0 td os H) (n : ∀ o ∈ os, o.Plain) (k : o.Plain) (e : LamX.ExtN H H') (t : LamX.Tabs TL H') (a : o.Ans H' y) :
    ∃ ys, H' td = some (.lst ys) ∧ ys.length = os.length ∧ ToldAt TL H0 td (os ++ [o]) (upd H' td (.lst (ys ++ [y]))) := by
  obtain ⟨b, ys, ht, all⟩ := h.ys
  have ht' := e _ _ ht (fun _ z => nomatch z)
  have all' := all.ext e
  refine ⟨_, ht', all'.len, fun c u hc nt => ?_, tabs_mv ht' Mv.here t, h.new, b, ys ++ [y], upd_same, ?_⟩
  · rw [upd_ne (h.new c u hc nt)]
    exact e _ _ (h.ext _ _ hc nt) nt
  · exact (all'.put n ht').app (a.put k ht')
/-! ### values that are no heaps -/
def OddV (x : Addr) (H : Hp) (v : V) : Prop := v = .non ∨ v = .bl true ∨ v = .bl false ∨ v = .int (-1) ∨ v = .int (10 ^ 30 + 1) ∨ v = .int (10 ^ 39) ∨ v = .str "1" ∨ (∃ a, v = .ref a ∧ H a = some (.tup [.int 1])) ∨ (∃ a, v = .ref a ∧ H a = some (.lst [.int 0])) ∨ (∃ a, v = .ref a ∧ H a = some (.dK [])) ∨ v = .ref x
section
variable {K : PySem.W.Frag} {CF CD x : Addr} {H H' : Hp} {v : V} {d : RD}
theorem OddV.ext (h : OddV x H v) (s : LamX.ExtN H H') : OddV x H' v := by
  rcases h with h | h | h | h | h | h | h | ⟨a, e, z⟩ | ⟨a, e, z⟩ | ⟨a, e, z⟩ | h
  · exact .inl h
  · exact .inr (.inl h)
  · exact .inr (.inr (.inl h))
  · exact .inr (.inr (.inr (.inl h)))
  · exact .inr (.inr (.inr (.inr (.inl h))))
  · exact .inr (.inr (.inr (.inr (.inr (.inl h)))))
  · exact .inr (.inr (.inr (.inr (.inr (.inr (.inl h))))))
  · exact .inr (.inr (.inr (.inr (.inr (.inr (.inr (.inl ⟨a, e, s _ _ z (fun _ z => nomatch z)⟩)))))))
  · exact .inr (.inr (.inr (.inr (.inr (.inr (.inr (.inr (.inl ⟨a, e, s _ _ z (fun _ z => nomatch z)⟩))))))))
  · exact .inr (.inr (.inr (.inr (.inr (.inr (.inr (.inr (.inr (.inl ⟨a, e, s _ _ z (fun _ z => nomatch z)⟩)))))))))
  · exact .inr (.inr (.inr (.inr (.inr (.inr (.inr (.inr (.inr (.inr h)))))))))
/-- it is the rule itself, or a value of a built-in kind with a short text -/
theorem OddV.how (h : OddV x H v) : v = .ref x ∨ (Kd H v ∧ ∃ dat, RepData K H v dat ∧ dat.showable = true ∧ dat.depth ≤ 60 ∧ dat.shown.length ≤ sizeLine) := by
  rcases h with rfl | rfl | rfl | rfl | rfl | rfl | rfl | ⟨a, rfl, z⟩ | ⟨a, rfl, z⟩ | ⟨a, rfl, z⟩ | rfl
  · exact .inr ⟨True.intro, .none, .inl ⟨.non, by decide +kernel⟩, by decide +kernel, by decide +kernel, by decide +kernel⟩
  · exact .inr ⟨True.intro, .bool true, .inl ⟨.bl _, by decide +kernel⟩, by decide +kernel, by decide +kernel, by decide +kernel⟩
  · exact .inr ⟨True.intro, .bool false, .inl ⟨.bl _, by decide +kernel⟩, by decide +kernel, by decide +kernel, by decide +kernel⟩
  · exact .inr ⟨True.intro, .int (-1), .inl ⟨.int _, by decide +kernel⟩, by decide +kernel, by decide +kernel, by decide +kernel⟩
  · exact .inr ⟨True.intro, .int (10 ^ 30 + 1), .inl ⟨.int _, by decide +kernel⟩, by decide +kernel, by decide +kernel, by decide +kernel⟩
  · exact .inr ⟨True.intro, .int (10 ^ 39), .inl ⟨.int _, by decide +kernel⟩, by decide +kernel, by decide +kernel, by decide +kernel⟩
  · exact .inr ⟨True.intro, .str "1", .inl ⟨.str _, by decide +kernel⟩, by decide +kernel, by decide +kernel, by decide +kernel⟩
  · exact .inr ⟨.inl ⟨_, z⟩, .tuple [.int 1], .inl ⟨Dp.tup (SqT.of z) (.cons (.int _) .nil), by decide +kernel⟩, by decide +kernel, by decide +kernel, by decide +kernel⟩
  · exact .inr ⟨.inr (.inl ⟨_, z⟩), .list [.int 0], .inl ⟨Dp.lst (SqL.of z) (.cons (.int _) .nil), by decide +kernel⟩, by decide +kernel, by decide +kernel, by decide +kernel⟩
  · exact .inr ⟨.inr (.inr ⟨_, z⟩), .dict [], .inr ⟨a, rfl, z, rfl⟩, by decide +kernel, by decide +kernel, by decide +kernel⟩
  · exact .inl rfl
theorem OddV.any (h : OddV x H v) (hx : RuleAt CF CD H x d) : AnyV CF CD H v := by
  rcases h with rfl | rfl | rfl | rfl | rfl | rfl | rfl | ⟨a, rfl, z⟩ | ⟨a, rfl, z⟩ | ⟨a, rfl, z⟩ | rfl
  · exact .inl True.intro
  · exact .inl True.intro
  · exact .inl True.intro
  · exact .inl True.intro
  · exact .inl True.intro
  · exact .inl True.intro
  · exact .inl True.intro
  · exact .inl (.inl ⟨_, z⟩)
  · exact .inl (.inr (.inl ⟨_, z⟩))
  · exact .inl (.inr (.inr ⟨_, z⟩))
  · exact .inr ⟨_, d, rfl, hx⟩
theorem OddV.out (h : OddV x H v) (d : RD) : outStands d v = .size v ∧ outLeft d v = .size v ∧ outTaken d v = .size v := by
  rcases h with rfl | rfl | rfl | rfl | rfl | rfl | rfl | ⟨a, rfl, z⟩ | ⟨a, rfl, z⟩ | ⟨a, rfl, z⟩ | rfl <;> exact ⟨rfl, rfl, rfl⟩
theorem eqb_other {Q : VK} (P : PrgQ K CF CD) (hx : RuleAt CF CD H x d) (kd : Kd H v) (fin : Q (.bl false) H) : rEither (rEqBack CF (spEqR K CF)) (rEqBack CD (spEqR K CD)) v (.ref x) H Q := by
  obtain ⟨dx, ax⟩ := hx
  obtain ⟨n, l, ty, e, no⟩ := OtherV.same (K := K) kd (fun _ _ z => z)
  cases d with
  | fixed s r m l => exact .inl ⟨x, dx, _, rfl, ax, kd, x, dx, _, _, _, rfl, ax, fs_rank (.fixed s r m l), .inr ⟨_, ty, kit_other P.icF.cl.hd P.tF e (no CF), fin⟩⟩
  | down t r m => exact .inr ⟨x, dx, _, rfl, ax, kd, x, dx, _, _, _, rfl, ax, fs_rank (.down t r m), .inr ⟨_, ty, kit_other P.icD.cl.hd P.tD e (no CD), fin⟩⟩
end
/-! ### a test that is a conditional expression -/
section
variable {X : Cx} {a b c : Expr} {tA tB tC : L2.TT} {pos : Pos}
def tIfT (tA tB tC : L2.TT) : L2.TT := fun σ H Q => tA σ H fun d H1 => if d = true then tB σ H1 Q else tC σ H1 Q
theorem pt_ifT (hc : PT X c tA) (ha : PT X a tB) (hb : PT X b tC) : PT X (.IfExp c a b pos) (tIfT tA tB tC) := by
  refine ⟨fun pins s σ H Q I h => isTrue_IfExp (wpAny_mono (hc.run pins s σ H _ I h) (fun d s1 z => ?_) fun _ _ z => z)⟩
  obtain ⟨H1, I1, q1⟩ := z
  cases d with
  | true => exact ha.run pins s1 σ H1 Q I1 q1
  | false => exact hb.run pins s1 σ H1 Q I1 q1
end
end Fz

set_option Elab.async false
set_option linter.all false
set_option maxRecDepth 100000
set_option maxHeartbeats 2000000
/-! Own layer: a classmethod called by keywords; texts and their parts; an error of two fields; what reading promises. -/
namespace Fz
open PySem PySem.Spec PyProof.Rows L2 TL
section
variable {X : Cx} {CX : CXT} {k : Nat} {C p g : Addr} {mc : Value} {fd : FuncData} {ps ks : List Str} {sp : Sp} {E : XK} {o : Expr} {kws : List Keyword} {m : Str} {pos apos : Pos} {ta : TE} {tk : TA} {gg : List Value → List Value → List Value} {gV : List V → List V → List V}
/-- C.m(k = v, ..), m a classmethod -/
def tCMethK (C : Addr) (n : Nat) (sp : Sp) (gV : List V → List V → List V) (E : XK) (ta : TE) (tk : TA) : TE := fun σ H Q => ta σ H fun x H1 => x = .ref C ∧ tk σ H1 fun zs H2 => zs.length = n ∧ sp (gV [.ref C] zs) H2 Q E
theorem pe_cmethK0 {pl : Sem Bool} (he : PE X o ta) (r : ClX.CRead X.K C mc) (c : ClX.CMet X.K C mc m p g) (F : FnOk X.prog X.w X.K X.mg X.base CX k g fd ps sp) (room : Room k X.A) (binds : KBn X.K fd ps 1 ks gg gV) (pass : Passes CX X E) (hkw : PK X kws tk)
    (named : (backToKw pos (keywordEach kws X.env)).all (·.1.isSome) = true := by rfl) (names : (backToKw pos (keywordEach kws X.env)).filterMap (·.1) = ks := by rfl)
    (plain : ((backTo pos (starEach [] X.env)).any (·.1) || (backToKw pos (keywordEach kws X.env)).any (·.1.isNone)) = false := by rfl)
    (tree : eval (.Call (.Attribute o m apos) [] kws pos) X.env = (do
      let ov ← eval o X.env
      standAt apos.atName
      let (f, first) ← holding [ov] (getMethod ov m pl)
      callWith pos f first (backTo pos (starEach [] X.env)) (backToKw pos (keywordEach kws X.env))) := by rfl) :
    PE X (.Call (.Attribute o m apos) [] kws pos) (tCMethK C ks.length sp gV E ta tk) := by
  refine ⟨fun pins s σ H Q I h => PySem.W.methodCall_KW (pl := pl) (thn (he.run pins s σ H _ I h) fun u s1 ⟨x, H1, I1, rx, ex, q⟩ => ?_) tree⟩
  subst ex
  obtain rfl : u = Value.ref C := rx
  refine ClX.getmethcm_ok I1 r c fun s2 I2 => ?_
  refine PySem.W.callWith_of (P := PySem.W.MethP X.K s1.heap.objs.size g (.ref C)) plain (PySem.W.keeps_M c.fi) (evalArgs_kw2_nil named ?_)
  refine thn (hkw.run pos _ s2 σ H1 _ I2 q) fun ws s3 ⟨zs, H2, I3, rz, len, q2⟩ => ⟨⟨ClX.pin_at I3, I3.kIn⟩, ?_⟩
  rw [names]
  have z : wpAny (model X.prog X.w) X.A (call (.ref s1.heap.objs.size) ([] ++ []) (ks.zip ws)) (EP X ((s1.heap.objs.size, PySem.W.methodObj (.ref g) (.ref C)) :: pins) σ Q) X.xe s3 := by
    refine wpAny_call (PySem.W.method_call (ClX.pin_at I3) ?_)
    refine codeAny_mono (F.run X.A X.stack s3 H2 ⟨[.ref C], ks.zip ws⟩ (gg [.ref C] ws) (gV [.ref C] zs) Q E room I3.env0 (binds.to s3 [.ref C] ws I3.kIn rfl (rz.length.symm.trans len)) (binds.rel (.cons rfl .nil) rz) q2) fun res s' got => ?_
    match res, got with
    | .error err, got => exact pass _ σ H2 s3 err s' I3 got
    | .ok (.ret u), got => exact I3.after got
    | .ok .next, got => exact got.elim
    | .ok .brk, got => exact got.elim
    | .ok .cont, got => exact got.elim
  exact thn z fun _ _ y => ClX.unpinE y
end
/-! ### texts and their parts -/
theorem spl_ne (S : List Nat) : ∀ (l acc : List Nat) (k : Nat), spl S k acc l ≠ []
  | [], acc, k => by rw [spl_nil]; simp
  | c :: r, acc, 0 => by
    show (if pre S (c :: r) = true then acc :: spl S (S.length - 1) [] r else spl S 0 (acc ++ [c]) r) ≠ []
    split
    · simp
    · exact spl_ne S r _ 0
  | c :: r, acc, k + 1 => spl_ne S r acc k
theorem split_ne (z : Str) : Txt.split z sp1 ≠ [] := fun e => by
  have q := split_spl z sp1 (by rw [tl_sp]; simp) (kind_ok sp_small)
  rw [e] at q
  exact spl_ne _ _ _ _ q.symm
theorem joinL_mem (S : List Nat) : ∀ (ps : List (List Nat)), (∀ p ∈ ps, p.length ≤ (joinL S ps).length ∧ ∀ c ∈ p, c ∈ joinL S ps)
  | [], p, h => by cases h
  | [q], p, h => by
    rw [List.mem_singleton.mp h]
    exact ⟨Nat.le_refl _, fun _ z => z⟩
  | q :: r :: t, p, h => by
    show p.length ≤ (q ++ (S ++ joinL S (r :: t))).length ∧ ∀ c ∈ p, c ∈ q ++ (S ++ joinL S (r :: t))
    rw [List.length_append, List.length_append]
    rcases List.mem_cons.mp h with rfl | h
    · exact ⟨by omega, fun c hc => List.mem_append_left _ hc⟩
    · obtain ⟨a, b⟩ := joinL_mem S (r :: t) p h
      exact ⟨by omega, fun c hc => List.mem_append_right _ (List.mem_append_right _ (b c hc))⟩
/-- a short text of plain signs -/
structure Plain (n : Nat) (z : Str) : Prop where
  len : z.length ≤ n
  asc : ∀ c ∈ tl z, c < 128
theorem Plain.ok {n : Nat} {z : Str} (h : Plain n z) : PySem.PyData.strOk z = true := by
  unfold PySem.PyData.strOk
  rw [← Array.all_toList, List.all_eq_true]
  intro c hc
  have q := h.asc c hc
  exact decide_eq_true (by omega)
theorem Plain.part {n : Nat} {z : Str} (h : Plain n z) {p : Str} (hp : p ∈ Txt.split z sp1) : Plain n p := by
  have j := StrLaws.join_split z sp1
  have e := tl_join sp1 (Txt.split z sp1)
  rw [j] at e
  obtain ⟨a, b⟩ := joinL_mem (tl sp1) ((Txt.split z sp1).map tl) (tl p) (List.mem_map_of_mem hp)
  rw [← e] at a b
  have l1 := len_tl p
  have l2 := len_tl z
  exact ⟨by have := h.len; omega, fun c hc => h.asc c (b c hc)⟩
theorem Plain.parts {n : Nat} {z : Str} (h : Plain n z) : (Txt.split z sp1).length ≤ n + 2 := by
  have a := PyProof.Rows.split_le z sp1
  have b := h.len
  omega
/-- words of a list: each short and plain, not too many -/
structure WsOk (ws : List Str) : Prop where
  each : ∀ z ∈ ws, Plain 5000 z
  few : ws.length ≤ 6000
theorem Plain.ws {z : Str} (h : Plain 5000 z) : WsOk (Txt.split z sp1) := ⟨fun _ hp => h.part hp, by have := h.parts; omega⟩
/-- what the joined words are -/
theorem joinL_len (S : List Nat) (m : Nat) : ∀ (ps : List (List Nat)), (∀ p ∈ ps, p.length ≤ m) → (joinL S ps).length ≤ ps.length * (m + S.length)
  | [], _ => by simp [joinL]
  | [q], h => by
    have a := h q (by simp)
    show q.length ≤ 1 * (m + S.length)
    omega
  | q :: r :: t, h => by
    have a := h q (by simp)
    have b := joinL_len S m (r :: t) fun p hp => h p (List.mem_cons_of_mem _ hp)
    show (q ++ (S ++ joinL S (r :: t))).length ≤ (t.length + 1 + 1) * (m + S.length)
    rw [List.length_append, List.length_append]
    rw [List.length_cons] at b
    rw [Nat.add_mul (t.length + 1) 1]
    omega
theorem joinL_in (S : List Nat) : ∀ (ps : List (List Nat)) (c : Nat), c ∈ joinL S ps → c ∈ S ∨ ∃ p ∈ ps, c ∈ p
  | [], c, h => by cases h
  | [q], c, h => .inr ⟨q, by simp, h⟩
  | q :: r :: t, c, h => by
    rcases List.mem_append.mp (show c ∈ q ++ (S ++ joinL S (r :: t)) from h) with h | h
    · exact .inr ⟨q, by simp, h⟩
    · rcases List.mem_append.mp h with h | h
      · exact .inl h
      · rcases joinL_in S (r :: t) c h with h | ⟨p, hp, h⟩
        · exact .inl h
        · exact .inr ⟨p, List.mem_cons_of_mem _ hp, h⟩
theorem plain_join {ws : List Str} {n m : Nat} (h : ∀ z ∈ ws, Plain n z) (few : ws.length ≤ m) : Plain (m * (n + 1)) (Str.join sp1 ws) := by
  have e := tl_join sp1 ws
  have l := len_tl (Str.join sp1 ws)
  rw [tl_sp] at e
  refine ⟨?_, fun c hc => ?_⟩
  · have a := joinL_len [32] n (ws.map tl) fun p hp => by
      obtain ⟨z, hz, rfl⟩ := List.mem_map.mp hp
      have l1 := len_tl z
      have l2 := (h z hz).len
      omega
    rw [← e, List.length_map] at a
    have b : ws.length * (n + [32].length) ≤ m * (n + 1) := Nat.mul_le_mul_right _ few
    omega
  · rw [e] at hc
    rcases joinL_in _ _ _ hc with hc | ⟨p, hp, hc⟩
    · rw [List.mem_singleton.mp hc]
      decide
    · obtain ⟨z, hz, rfl⟩ := List.mem_map.mp hp
      exact (h z hz).asc c hc
/-! ### words in a heap -/
def WordsAt (H : Hp) (p : Addr) (ws : List Str) : Prop := H p = some (.lst (ws.map V.str))
theorem WordsAt.same {H H' : Hp} {p : Addr} {ws : List Str} (h : WordsAt H p ws) (s : Same H H') : WordsAt H' p ws := s _ _ h
def optI : Option Int → V
  | some i => .int i
  | none => .non
def optN : Option Nat → V
  | some i => .int (i : Int)
  | none => .non
theorem at_str {ws : List Str} {i : Nat} {z : Str} (h : ws[i]? = some z) : atI (ws.map V.str) (i : Int) = some (.str z) := by
  have l : i < ws.length := by
    rcases Nat.lt_or_ge i ws.length with q | q
    · exact q
    · rw [List.getElem?_eq_none q] at h
      cases h
  unfold atI ixN
  rw [if_pos (by omega), if_pos (by rw [List.length_map]; omega)]
  show (ws.map V.str)[(i : Int).toNat]? = _
  rw [Int.toNat_natCast, List.getElem?_map, h]
  rfl
/-- x[a:b] of a list of words -/
theorem cut_strs (ws : List Str) (a b : Nat) : cutV (ws.map V.str) (some (a : Int)) (some (b : Int)) = ((ws.drop a).take (b - a)).map V.str := by
  unfold cutV
  rw [HT.sIx_nat, HT.sIx_nat, List.length_map, ← List.map_drop, ← List.map_take]
  congr 1
  rcases Nat.le_total a ws.length with h | h
  · rw [Nat.min_eq_left h]
    rcases Nat.le_total b ws.length with h2 | h2
    · rw [Nat.min_eq_left h2]
    · rw [Nat.min_eq_right h2, List.take_of_length_le (by rw [List.length_drop]; omega), List.take_of_length_le (by rw [List.length_drop]; omega)]
  · rw [Nat.min_eq_right h, List.drop_length, List.drop_eq_nil_of_le h]
    simp
theorem dp_strs {K : PySem.W.Frag} {H : Hp} : ∀ ws : List Str, DpAll K H (ws.map V.str) (ws.map PyData.str)
  | [] => .nil
  | z :: r => .cons (.str z) (dp_strs r)
theorem lay_strs : ∀ {ws : List Str}, (∀ z ∈ ws, PySem.PyData.strOk z = true) → PyData.canLayAll0 (ws.map PyData.str) = true
  | [], _ => rfl
  | z :: r, h => by
    show (PyData.canLay0 (.str z) && PyData.canLayAll0 (r.map PyData.str)) = true
    rw [lay_strs fun y hy => h y (List.mem_cons_of_mem _ hy), Bool.and_true]
    show PySem.PyData.strOk z = true
    exact h z (List.mem_cons_self ..)
theorem depth_strs : ∀ ws : List Str, PyData.depthAll (ws.map PyData.str) ≤ 1
  | [] => by decide
  | z :: r => by
    have q := depth_strs r
    show max (PyData.depth (.str z)) (PyData.depthAll (r.map PyData.str)) ≤ 1
    have e : PyData.depth (.str z) ≤ 1 := by simp [PyData.depth]
    omega
theorem shaped_strs {ws : List Str} (h : ∀ z ∈ ws, PySem.PyData.strOk z = true) : SeqAt.shaped (.list (ws.map PyData.str)) = true := by
  unfold SeqAt.shaped
  rw [show PyData.canLay0 (.list (ws.map PyData.str)) = PyData.canLayAll0 (ws.map PyData.str) from by simp [PyData.canLay0], lay_strs h, Bool.true_and]
  refine decide_eq_true ?_
  have q := depth_strs ws
  simp only [PyData.depth]
  omega
theorem eqv_strs : ∀ xs ys : List Str, PyData.eqvAll (xs.map PyData.str) (ys.map PyData.str) = decide (xs = ys)
  | [], [] => by simp [PyData.eqvAll]
  | [], y :: ys => by simp [PyData.eqvAll]
  | x :: xs, [] => by simp [PyData.eqvAll]
  | x :: xs, y :: ys => by
    show (PyData.eqv (.str x) (.str y) && PyData.eqvAll (xs.map PyData.str) (ys.map PyData.str)) = _
    rw [eqv_strs xs ys]
    by_cases h : x = y <;> simp [PyData.eqv, h]
/-- words[a:b] == [..] -/
theorem eq_words {K : PySem.W.Frag} {H : Hp} {Q : VK} {a b : Addr} {xs ys : List Str} (ha : H a = some (.lst (xs.map V.str))) (hb : H b = some (.lst (ys.map V.str))) (ox : ∀ z ∈ xs, PySem.PyData.strOk z = true) (oy : ∀ z ∈ ys, PySem.PyData.strOk z = true) (fin : Q (.bl (decide (xs = ys))) H) : rEqD K (.ref a) (.ref b) H Q := by
  refine ⟨.list (xs.map PyData.str), .list (ys.map PyData.str), Dp.lst (SqL.of ha) (dp_strs xs), Dp.lst (SqL.of hb) (dp_strs ys), shaped_strs ox, shaped_strs oy, ?_⟩
  rw [show PyData.eqv (.list (xs.map PyData.str)) (.list (ys.map PyData.str)) = PyData.eqvAll (xs.map PyData.str) (ys.map PyData.str) from by simp [PyData.eqv], eqv_strs]
  exact fin
theorem inV_strs (z : Str) (ws : List Str) : inV (.str z) (ws.map V.str) = decide (z ∈ ws) := by
  unfold inV
  induction ws with
  | nil => simp
  | cons y r ih =>
    rw [List.map_cons, List.any_cons, ih]
    have e : eqV (.str y) (.str z) = decide (z = y) := by
      by_cases h : z = y
      · subst h
        simp [eqV]
      · simp [eqV, h, Ne.symm h]
    rw [e]
    by_cases h : z = y <;> simp [h]
theorem flat_strs (ws : List Str) : (ws.map V.str).all flatV = true := by
  rw [List.all_map, List.all_eq_true]
  intro z _
  rfl
/-! ### slots in a heap -/
def SlotAt (H : Hp) (t : Addr) : WSlot → Prop
  | .one l => l ≠ [] ∧ H t = some (.tup (l.map V.str))
  | .num lo hi => 0 ≤ lo ∧ lo ≤ 400 ∧ 0 ≤ hi ∧ hi ≤ 400 ∧ H t = some (.tup [.int lo, .int hi])
theorem SlotAt.same {H H' : Hp} {t : Addr} {s : WSlot} (h : SlotAt H t s) (m : Same H H') : SlotAt H' t s := by
  cases s with
  | one l => exact ⟨h.1, m _ _ h.2⟩
  | num lo hi => exact ⟨h.1, h.2.1, h.2.2.1, h.2.2.2.1, m _ _ h.2.2.2.2⟩
inductive SlotsL (H : Hp) : List V → List WSlot → Prop
  | nil : SlotsL H [] []
  | cons {t : Addr} {s : WSlot} {xs : List V} {sl : List WSlot} : SlotAt H t s → SlotsL H xs sl → SlotsL H (.ref t :: xs) (s :: sl)
theorem SlotsL.same {H H' : Hp} {xs : List V} {sl : List WSlot} (h : SlotsL H xs sl) (m : Same H H') : SlotsL H' xs sl := by
  induction h with
  | nil => exact .nil
  | cons a _ ih => exact .cons (a.same m) ih
theorem SlotsL.len {H : Hp} {xs : List V} {sl : List WSlot} (h : SlotsL H xs sl) : xs.length = sl.length := by
  induction h with
  | nil => rfl
  | cons _ _ ih => rw [List.length_cons, List.length_cons, ih]
theorem SlotsL.app {H : Hp} {xs ys : List V} {sl tl : List WSlot} (h : SlotsL H xs sl) (g : SlotsL H ys tl) : SlotsL H (xs ++ ys) (sl ++ tl) := by
  induction h with
  | nil => exact g
  | cons a _ ih => exact .cons a ih
theorem SlotsL.at_ {H : Hp} {xs : List V} {sl : List WSlot} (h : SlotsL H xs sl) {i : Nat} {s : WSlot} (e : sl[i]? = some s) : ∃ t, xs[i]? = some (.ref t) ∧ SlotAt H t s := by
  induction h generalizing i with
  | nil => simp at e
  | cons a _ ih =>
    cases i with
    | zero =>
      cases e
      exact ⟨_, rfl, a⟩
    | succ i => exact ih (by simpa using e)
/-! ### an error of two fields -/
def spBadT (C : Addr) : Sp := fun vs H Q _ => ∃ (a : Addr) (x y : V), vs = [.ref a, x, y] ∧ H a = some (exo a C none) ∧ ∀ d, H d = none → d ≠ a → Q .non (upd (upd (upd H d (exd d [("line", x)])) a (exo a C (some d))) d (exd d [("word", y), ("line", x)]))
def BadT (C : Addr) (x y : V) (E : XK) (H : Hp) : Prop := ∀ d, H d = none → E (.ref C) (some d) (upd H d (.xd [("word", y), ("line", x)]))
theorem badt_made {C : Addr} {x y : V} {E : XK} {W : WX} {σ : L2.St} {H : Hp} {ta : TA} (args : ∀ Q : List V → Hp → Prop, Q [x, y] H → ta σ H Q) (h : BadT C x y E H) (hW : ∀ cls d H', E cls d H' → W cls d σ H') : tMkO C (spBadT C) [] ta σ H (fun cls d H' => W cls d σ H') := by
  refine args _ ⟨(show 2 ≤ 1000 by decide), fun a ha => ⟨a, x, y, rfl, upd_same, fun d hd ne => ⟨rfl, d, _, by rw [upd_ne (Ne.symm ne), upd_same], upd_same, by rw [upd_ne ne] at hd; exact hd, ?_⟩⟩⟩
  have hd0 : H d = none := by rw [upd_ne ne] at hd; exact hd
  have e : upd (del (upd (upd (upd (upd H a (exo a C none)) d (exd d [("line", x)])) a (exo a C (some d))) d (exd d [("word", y), ("line", x)])) a) d (.xd [("word", y), ("line", x)]) = upd H d (.xd [("word", y), ("line", x)]) := by
    funext b
    by_cases hb : b = d
    · subst hb
      rw [upd_same, upd_same]
    · rw [upd_ne hb, upd_ne hb]
      by_cases hba : b = a
      · subst hba
        rw [del_same, ha]
      · rw [del_ne hba, upd_ne hb, upd_ne hba, upd_ne hb, upd_ne hba]
  show W (.ref C) (some d) σ (upd (del (upd (upd (upd (upd H a (exo a C none)) d (exd d [("line", x)])) a (exo a C (some d))) d (exd d [("word", y), ("line", x)])) a) d (.xd [("word", y), ("line", x)]))
  rw [e]
  exact hW _ _ _ (h d hd0)
/-- an error class of two fields -/
structure PrgT (K : PySem.W.Frag) (mg : Str → Option Value) (C g : Addr) : Prop where
  g_ : mg "BadText" = some (.ref C)
  oB : OexC K C
  nL : PySem.W.findIn K (.ref C) "line" = some none
  nW : PySem.W.findIn K (.ref C) "word" = some none
  iB : PySem.W.findIn K (.ref C) "__init__" = some (some (.ref g))
  tB : PySem.W.typeIn K (.ref g) = some (.type "function")
/-! ### what reading promises -/
def spNumOf : Sp := fun vs H Q _ => ∃ (z : Str) (lo hi : Int), vs = [.str z, .int lo, .int hi] ∧ 0 ≤ lo ∧ lo ≤ 400 ∧ 0 ≤ hi ∧ hi ≤ 400 ∧ z.length ≤ 5000 ∧ Q (optI (numOf z lo hi)) H
def spLeastM : Sp := fun vs H Q _ => ∃ (p : Addr) (ws : List Str), vs = [.ref p] ∧ WordsAt H p ws ∧ WsOk ws ∧ Q (.int (leastM ws)) H
def spSlots : Sp := fun vs H Q _ => ∃ (p : Addr) (ws : List Str), vs = [.ref p] ∧ WordsAt H p ws ∧ ws ≠ [] ∧ WsOk ws ∧ ∀ H' l xs, Same H H' → H' l = some (.lst xs) → SlotsL H' xs (slotsW ws) → Q (.ref l) H'
def spFits : Sp := fun vs H Q _ => ∃ (z : Str) (t : Addr) (s : WSlot), vs = [.str z, .ref t] ∧ z.length ≤ 5000 ∧ SlotAt H t s ∧ Q (.bl (fitsB z s)) H
def spWrong : Sp := fun vs H Q _ => ∃ (p : Addr) (ws : List Str), vs = [.ref p] ∧ WordsAt H p ws ∧ ws ≠ [] ∧ WsOk ws ∧ ∀ H', Same H H' → Q (optN (wrongL ws)) H'
def spRuleOf (CF CD : Addr) : Sp := fun vs H Q _ => ∃ (p : Addr) (d : RD), vs = [.ref p] ∧ WordsAt H p (wordsOf d) ∧ d.Wf ∧ ∀ H' x, Same H H' → RuleAt CF CD H' x d → Q (.ref x) H'
/-- a value that is no text -/
def NoText (CF CD : Addr) (H : Hp) (v : V) : Prop := v = .non ∨ (∃ b, v = .bl b) ∨ (∃ i, v = .int i) ∨ (∃ a xs, v = .ref a ∧ H a = some (.lst xs)) ∨ (∃ a xs, v = .ref a ∧ H a = some (.tup xs)) ∨ (∃ a, v = .ref a ∧ H a = some (.dK [])) ∨ ∃ x d, v = .ref x ∧ RuleAt CF CD H x d
/-- what Rule.read does with the value v: the rule read is data -/
def ReadV (CT CF CD : Addr) (H : Hp) (Q : VK) (E : XK) (v : V) : Prop :=
  (NoText CF CD H v ∧ ∀ H', Same H H' → BadT CT (.int 0) (.int 0) E H') ∨
  ∃ z, v = .str z ∧ Plain 5000 z ∧ (∀ k : Nat, wrongL (Txt.split z sp1) = some k → ∀ H', Same H H' → BadT CT (.int 0) (.int k) E H') ∧
    ∀ d : RD, d.Wf → z = d.text → wrongL (Txt.split z sp1) = none → ∀ H' x, Same H H' → RuleAt CF CD H' x d → Q (.ref x) H'
def spRead (CT CF CD : Addr) : Sp := fun vs H Q E => ∃ (C : Addr) (v : V), vs = [.ref C, v] ∧ ReadV CT CF CD H Q E v
end Fz

set_option Elab.async false
set_option linter.all false
set_option maxRecDepth 100000
set_option maxHeartbeats 2000000
/-! Own layer: rows of worths that come again, their least form (pure). -/
namespace Fz
open PySem PySem.Spec PyProof.Rows L2
/-- the worth of the heap h: a ahead, n that come again -/
def atW (row : List Int) (a n h : Nat) : Int := row.getD (if h < a then h else a + (h - a) % n) 0
structure Told (row : List Int) (a n : Nat) : Prop where
  len : row.length = a + n
  n1 : 1 ≤ n
  fit : ∀ x ∈ row, 0 ≤ x ∧ x ≤ 400
theorem atW_low {row : List Int} {a n h : Nat} (l : h < a + n) : atW row a n h = row.getD h 0 := by
  unfold atW
  by_cases c : h < a
  · rw [if_pos c]
  · rw [if_neg c, Nat.mod_eq_of_lt (by omega)]
    congr 1
    omega
theorem atW_high {row : List Int} {a n h : Nat} (l : a ≤ h) : atW row a n h = row.getD (a + (h - a) % n) 0 := by
  unfold atW
  rw [if_neg (by omega)]
theorem atW_per {row : List Int} {a n i : Nat} (l : a ≤ i) (k : Nat) : atW row a n (i + n * k) = atW row a n i := by
  rw [atW_high l, atW_high (by omega), show i + n * k - a = (i - a) + n * k by omega, Nat.add_mul_mod_self_left]
theorem atW_per1 {row : List Int} {a n i : Nat} (l : a ≤ i) : atW row a n (i + n) = atW row a n i := by
  have q := atW_per (row := row) (n := n) l 1
  rw [Nat.mul_one] at q
  exact q
/-- the least form of a row that goes on without end -/
structure Form (W : Nat → Int) (b p : Nat) : Prop where
  p1 : 1 ≤ p
  per : ∀ i, b ≤ i → W (i + p) = W i
  min : ∀ s c, 1 ≤ s → (∀ i, c ≤ i → W (i + s) = W i) → p ≤ s
  low : b = 0 ∨ W (b - 1 + p) ≠ W (b - 1)
theorem Form.uniq {W : Nat → Int} {b p b' p' : Nat} (f : Form W b p) (g : Form W b' p') : b = b' ∧ p = p' := by
  have e : p = p' := Nat.le_antisymm (f.min p' b' g.p1 g.per) (g.min p b f.p1 f.per)
  subst e
  refine ⟨?_, rfl⟩
  rcases Nat.lt_trichotomy b b' with h | h | h
  · rcases g.low with z | z
    · omega
    · exact absurd (f.per (b' - 1) (by omega)) z
  · exact h
  · rcases f.low with z | z
    · omega
    · exact absurd (g.per (b - 1) (by omega)) z
/-- of what comes again from some heap on, all from a on comes again so -/
theorem good_of {row : List Int} {a n s c : Nat} (n1 : 1 ≤ n) (h : ∀ i, c ≤ i → atW row a n (i + s) = atW row a n i) : ∀ i, a ≤ i → atW row a n (i + s) = atW row a n i := fun i hi => by
  have e1 := atW_per (row := row) (n := n) hi c
  have e2 := atW_per (row := row) (n := n) (show a ≤ i + s by omega) c
  have m : c ≤ n * c := Nat.le_mul_of_pos_left c n1
  have e3 := h (i + n * c) (by omega)
  rw [show i + n * c + s = i + s + n * c by omega, e2, e1] at e3
  exact e3
/-! ### the period that is found by repeating -/
def Rep (r : List Int) (p : Nat) : Prop := (List.replicate (r.length / p) (r.take p)).flatten = r
theorem rep_get (l : List Int) : ∀ (k i : Nat), i < k * l.length → (List.replicate k l).flatten.getD i 0 = l.getD (i % l.length) 0
  | 0, i, h => by simp at h
  | k + 1, i, h => by
    rw [List.replicate_succ, List.flatten_cons]
    by_cases c : i < l.length
    · rw [Nat.mod_eq_of_lt c, List.getD_eq_getElem?_getD, List.getElem?_append_left c, ← List.getD_eq_getElem?_getD]
    · have c2 : l.length ≤ i := by omega
      rw [List.getD_eq_getElem?_getD, List.getElem?_append_right c2, ← List.getD_eq_getElem?_getD, rep_get l k (i - l.length) (by rw [Nat.add_mul] at h; omega)]
      congr 1
      exact (Nat.mod_eq_sub_mod c2).symm
theorem flat_len (l : List Int) : ∀ k : Nat, (List.replicate k l).flatten.length = k * l.length
  | 0 => by simp
  | k + 1 => by
    rw [List.replicate_succ, List.flatten_cons, List.length_append, flat_len l k, Nat.add_mul]
    omega
theorem ext_getD {xs ys : List Int} (l : xs.length = ys.length) (h : ∀ i, i < xs.length → xs.getD i 0 = ys.getD i 0) : xs = ys := by
  refine List.ext_getElem l fun i h1 h2 => ?_
  have q := h i h1
  rw [List.getD_eq_getElem?_getD, List.getD_eq_getElem?_getD, List.getElem?_eq_getElem h1, List.getElem?_eq_getElem h2] at q
  exact q
theorem rep_iff {r : List Int} {p : Nat} (p1 : 1 ≤ p) (p2 : p ≤ r.length) : Rep r p ↔ p ∣ r.length ∧ ∀ i, i < r.length → r.getD i 0 = r.getD (i % p) 0 := by
  have tl : (r.take p).length = p := by rw [List.length_take]; omega
  have fl := flat_len (r.take p) (r.length / p)
  rw [tl] at fl
  have get : ∀ i, i < r.length / p * p → (List.replicate (r.length / p) (r.take p)).flatten.getD i 0 = r.getD (i % p) 0 := fun i hi => by
    rw [rep_get _ _ _ (by rw [tl]; exact hi), tl, List.getD_eq_getElem?_getD, List.getElem?_take_of_lt (Nat.mod_lt _ (by omega)), ← List.getD_eq_getElem?_getD]
  constructor
  · intro h
    have e : r.length / p * p = r.length := by rw [← fl, h]
    refine ⟨Nat.dvd_of_mul_dvd_mul_right (k := 1) (by decide) (by rw [Nat.mul_one, Nat.mul_one]; exact ⟨r.length / p, by rw [Nat.mul_comm, e]⟩), fun i hi => ?_⟩
    have q := get i (by omega)
    rw [h] at q
    exact q
  · rintro ⟨d, h⟩
    have e : r.length / p * p = r.length := Nat.div_mul_cancel d
    exact ext_getD (by rw [fl, e]) fun i hi => by
      rw [fl] at hi
      rw [get i hi, ← h i (by omega)]
theorem rep_self {r : List Int} (h : 1 ≤ r.length) : Rep r r.length := (rep_iff h (Nat.le_refl _)).mpr ⟨Nat.dvd_refl _, fun i hi => by rw [Nat.mod_eq_of_lt hi]⟩
/-- what the program finds -/
structure LeastRep (r : List Int) (p : Nat) : Prop where
  p1 : 1 ≤ p
  p2 : p ≤ r.length
  rep : Rep r p
  min : ∀ q, 1 ≤ q → q < p → ¬ Rep r q
structure Back (row : List Int) (a p b : Nat) : Prop where
  le : b ≤ a
  same : ∀ i, b ≤ i → i < a → row.getD i 0 = row.getD (i + p) 0
  low : b = 0 ∨ row.getD (b - 1) 0 ≠ row.getD (b - 1 + p) 0
section
variable {row : List Int} {a n p b : Nat}
theorem drop_get (row : List Int) (a i : Nat) : (row.drop a).getD i 0 = row.getD (a + i) 0 := by
  rw [List.getD_eq_getElem?_getD, List.getElem?_drop, ← List.getD_eq_getElem?_getD]
theorem prog_form (t : Told row a n) (l : LeastRep (row.drop a) p) (k : Back row a p b) : Form (atW row a n) b p := by
  have ln : (row.drop a).length = n := by rw [List.length_drop, t.len]; omega
  have n1 := t.n1
  have p2 := l.p2
  rw [ln] at p2
  have p1 := l.p1
  obtain ⟨d, per⟩ := (rep_iff l.p1 l.p2).mp l.rep
  rw [ln] at d per
  have high : ∀ i, a ≤ i → atW row a n (i + p) = atW row a n i := fun i hi => by
    have e : ∀ j, a ≤ j → atW row a n j = row.getD (a + (j - a) % p) 0 := fun j hj => by
      have m := Nat.mod_lt (j - a) (show n > 0 by omega)
      have q := per ((j - a) % n) m
      rw [drop_get, drop_get, Nat.mod_mod_of_dvd _ d] at q
      rw [atW_high hj, q]
    rw [e i hi, e (i + p) (by omega), show i + p - a = (i - a) + p by omega, Nat.add_mod_right]
  refine ⟨p1, fun i hi => ?_, fun s c s1 h => ?_, ?_⟩
  · by_cases c : a ≤ i
    · exact high i c
    · have q := k.same i hi (by omega)
      rw [atW_low (by omega), atW_low (by omega), q]
  · have good := good_of n1 h
    clear h
    induction s using Nat.strongRecOn with
    | _ s ih =>
      by_cases big : n < s
      · omega
      · have many : ∀ (q i : Nat), a ≤ i → atW row a n (i + s * q) = atW row a n i := fun q => by
          induction q with
          | zero => intro i _; rw [Nat.mul_zero, Nat.add_zero]
          | succ q ih2 =>
            intro i hi
            rw [Nat.mul_succ, ← Nat.add_assoc, good (i + s * q) (by omega), ih2 i hi]
        by_cases z : n % s = 0
        · refine Nat.le_of_not_lt fun lt => l.min s s1 lt ((rep_iff s1 (by rw [ln]; omega)).mpr ⟨by rw [ln]; exact Nat.dvd_of_mod_eq_zero z, fun i hi => ?_⟩)
          rw [ln] at hi
          rw [drop_get, drop_get]
          have e := Nat.div_add_mod i s
          have q := many (i / s) (a + i % s) (by omega)
          have le := Nat.mod_le i s
          rw [show a + i % s + s * (i / s) = a + i by omega, atW_low (by omega), atW_low (by omega)] at q
          exact q
        · have r := Nat.mod_lt n (show s > 0 by omega)
          have w := ih (n % s) r (by omega) fun i hi => by
            have e := Nat.div_add_mod n s
            have q := many (n / s) (i + n % s) (by omega)
            rw [show i + n % s + s * (n / s) = i + n by omega, atW_per1 hi] at q
            exact q.symm
          omega
  · rcases k.low with z | z
    · exact .inl z
    · by_cases z0 : b = 0
      · exact .inl z0
      have le := k.le
      refine .inr fun e => z ?_
      rw [atW_low (by omega), atW_low (by omega)] at e
      exact e.symm
/-- what the law finds -/
structure LawForm (W : Nat → Int) (a n start size : Nat) : Prop where
  s1 : 1 ≤ size
  s2 : size ≤ n
  le : start ≤ a
  same : ∀ i, start ≤ i → i + size < a + 3 * n → W i = W (i + size)
  low : start = 0 ∨ W (start - 1) ≠ W (start - 1 + size)
  min : ∀ s, 1 ≤ s → s < size → ∃ i, a ≤ i ∧ i + s < a + 3 * n ∧ W i ≠ W (i + s)
theorem law_form (t : Told row a n) {start size : Nat} (l : LawForm (atW row a n) a n start size) : Form (atW row a n) start size := by
  have n1 := t.n1
  have s2 := l.s2
  refine ⟨l.s1, fun i hi => ?_, fun s c s1 h => ?_, ?_⟩
  · by_cases c : i + size < a + 3 * n
    · exact (l.same i hi c).symm
    · have ai : a ≤ i := by omega
      have m := Nat.mod_lt (i - a) (show n > 0 by omega)
      have e := Nat.div_add_mod (i - a) n
      have q := l.same (a + (i - a) % n) (by have := l.le; omega) (by omega)
      have w1 := atW_per (row := row) (n := n) (show a ≤ a + (i - a) % n by omega) ((i - a) / n)
      have w2 := atW_per (row := row) (n := n) (show a ≤ a + (i - a) % n + size by omega) ((i - a) / n)
      rw [show a + (i - a) % n + n * ((i - a) / n) = i by omega] at w1
      rw [show a + (i - a) % n + size + n * ((i - a) / n) = i + size by omega] at w2
      rw [w1, w2]
      exact q.symm
  · refine Nat.le_of_not_lt fun lt => ?_
    obtain ⟨i, hi, _, ne⟩ := l.min s s1 lt
    exact ne (good_of n1 h i hi).symm
  · rcases l.low with z | z
    · exact .inl z
    · exact .inr fun e => z e.symm
def nums (W : Nat → Int) (k : Nat) : List Int := (List.range k).map W
theorem nums_len (W : Nat → Int) (k : Nat) : (nums W k).length = k := by unfold nums; rw [List.length_map, List.length_range]
theorem nums_succ (W : Nat → Int) (k : Nat) : nums W (k + 1) = nums W k ++ [W k] := by
  unfold nums
  rw [List.range_succ, List.map_append]
  rfl
theorem nums_get {W : Nat → Int} {k i : Nat} (h : i < k) : (nums W k).getD i 0 = W i := by
  unfold nums
  rw [List.getD_eq_getElem?_getD, List.getElem?_map, List.getElem?_range h]
  rfl
theorem take_nums (t : Told row a n) {k : Nat} (h : k ≤ a + n) : row.take k = nums (atW row a n) k := by
  refine ext_getD (by rw [List.length_take, t.len, nums_len]; omega) fun i hi => ?_
  rw [List.length_take, t.len] at hi
  rw [nums_get (by omega), atW_low (by omega), List.getD_eq_getElem?_getD, List.getElem?_take_of_lt (by omega), ← List.getD_eq_getElem?_getD]
theorem nums_take {W : Nat → Int} {k m : Nat} (h : k ≤ m) : (nums W m).take k = nums W k := by
  unfold nums
  rw [← List.map_take, List.take_range, Nat.min_eq_left h]
/-- told in longer form: the same row -/
theorem longer_told (t : Told row a n) (m k : Nat) (k1 : 1 ≤ k) : Told (nums (atW row a n) (a + m + n * k)) (a + m) (n * k) := by
  have n1 := t.n1
  refine ⟨nums_len _ _, Nat.le_trans n1 (Nat.le_mul_of_pos_right n k1), fun x hx => ?_⟩
  unfold nums at hx
  obtain ⟨i, _, rfl⟩ := List.mem_map.mp hx
  have bound : ∀ j, j < a + n → 0 ≤ row.getD j 0 ∧ row.getD j 0 ≤ 400 := fun j hj => by
    rw [List.getD_eq_getElem?_getD, List.getElem?_eq_getElem (by rw [t.len]; exact hj)]
    exact t.fit _ (List.getElem_mem _)
  unfold atW
  split
  · exact bound i (by omega)
  · have q := Nat.mod_lt (i - a) (show n > 0 by omega)
    exact bound _ (by omega)
theorem longer_at (t : Told row a n) (m k : Nat) (k1 : 1 ≤ k) (h : Nat) : atW (nums (atW row a n) (a + m + n * k)) (a + m) (n * k) h = atW row a n h := by
  have n1 := t.n1
  have nk : n ≤ n * k := Nat.le_mul_of_pos_right n k1
  by_cases c : h < a + m + n * k
  · rw [atW_low c, nums_get c]
  · have c1 : a + m ≤ h := by omega
    have q := Nat.mod_lt (h - (a + m)) (show n * k > 0 by omega)
    rw [atW_high c1, nums_get (by omega)]
    have e := Nat.div_add_mod (h - (a + m)) (n * k)
    have w := atW_per (row := row) (n := n) (show a ≤ a + m + (h - (a + m)) % (n * k) by omega) (k * ((h - (a + m)) / (n * k)))
    rw [← Nat.mul_assoc, show a + m + (h - (a + m)) % (n * k) + n * k * ((h - (a + m)) / (n * k)) = h by omega] at w
    exact w.symm
end
end Fz

set_option Elab.async false
set_option linter.all false
set_option maxRecDepth 100000
set_option maxHeartbeats 2000000
/-! Own layer: tables of worths as objects; walks over a list or a tuple; tests that may be asked for less. -/
namespace Fz
open PySem PySem.Spec PyProof.Rows L2
section
variable {X : Cx} {tg e : Expr} {te : TE}
/-- a test may be asked for less -/
def tWeakT (t : L2.TT) : L2.TT := fun σ H Q => ∃ Q' : Bool → Hp → Prop, t σ H Q' ∧ ∀ b H', Q' b H' → Q b H'
theorem pt_weak {t : L2.TT} (h : PT X e t) : PT X e (tWeakT t) := ⟨fun pins s σ H Q I ⟨Q', h', w⟩ => thn (h.run pins s σ H Q' I h') fun b s1 ⟨H1, I1, q⟩ => ⟨H1, I1, w _ _ q⟩⟩
theorem weakT_mono {t : L2.TT} : ∀ (σ : L2.St) (H : Hp) (Q Q' : Bool → Hp → Prop), (∀ b H1, Q b H1 → Q' b H1) → tWeakT t σ H Q → tWeakT t σ H Q' := fun σ H Q Q' h ⟨q, a, b⟩ => ⟨q, a, fun c H1 z => h _ _ (b c H1 z)⟩
theorem weakT_of {t : L2.TT} {σ : L2.St} {H : Hp} {Q : Bool → Hp → Prop} (h : t σ H Q) : tWeakT t σ H Q := ⟨Q, h, fun _ _ z => z⟩
theorem at_nat' {xs : List V} {i : Nat} {v : V} (h : xs[i]? = some v) : atI xs (i : Int) = some v := by
  have l : i < xs.length := by
    rcases Nat.lt_or_ge i xs.length with q | q
    · exact q
    · rw [List.getElem?_eq_none q] at h
      cases h
  unfold atI ixN
  rw [if_pos (by omega), if_pos (by omega)]
  show xs[(i : Int).toNat]? = _
  rw [Int.toNat_natCast, h]
theorem at_last {ys : List V} {b : V} : atI (ys ++ [b]) (-1) = some b := by
  have l : (ys ++ [b]).length = ys.length + 1 := by rw [List.length_append] <;> rfl
  unfold atI ixN
  rw [if_neg (by decide), if_pos (by omega), l]
  show (ys ++ [b])[((-1 : Int) + ((ys.length + 1 : Nat) : Int)).toNat]? = _
  rw [show ((-1 : Int) + ((ys.length + 1 : Nat) : Int)).toNat = ys.length by omega, List.getElem?_append_right (by omega), show ys.length - ys.length = 0 by omega]
  rfl
theorem cutV_take (xs : List V) (k : Nat) : cutV xs none (some (k : Int)) = xs.take k := by
  unfold cutV
  rw [HT.sIx_nat, HT.sIx_none, List.drop_zero, Nat.sub_zero]
  rcases Nat.le_total k xs.length with h | h
  · rw [Nat.min_eq_left h]
  · rw [Nat.min_eq_right h, List.take_length, List.take_of_length_le h]
theorem cutV_drop (xs : List V) (k : Nat) : cutV xs (some (k : Int)) none = xs.drop k := by
  unfold cutV
  rw [HT.sIx_nat, HT.sIx_none]
  rcases Nat.le_total k xs.length with h | h
  · rw [Nat.min_eq_left h, List.take_of_length_le (by rw [List.length_drop]; omega)]
  · rw [Nat.min_eq_right h, List.drop_length, List.drop_eq_nil_of_le h]
    simp
theorem eqv_ints : ∀ xs ys : List Int, PyData.eqvAll (xs.map PyData.int) (ys.map PyData.int) = decide (xs = ys)
  | [], [] => by simp [PyData.eqvAll]
  | [], y :: ys => by simp [PyData.eqvAll]
  | x :: xs, [] => by simp [PyData.eqvAll]
  | x :: xs, y :: ys => by
    show (PyData.eqv (.int x) (.int y) && PyData.eqvAll (xs.map PyData.int) (ys.map PyData.int)) = _
    rw [eqv_ints xs ys]
    by_cases h : x = y <;> simp [PyData.eqv, h]
theorem eqv_lists (xs ys : List Int) : PyData.eqv (.list (xs.map PyData.int)) (.list (ys.map PyData.int)) = decide (xs = ys) := by
  rw [show PyData.eqv (.list (xs.map PyData.int)) (.list (ys.map PyData.int)) = PyData.eqvAll (xs.map PyData.int) (ys.map PyData.int) from by simp [PyData.eqv], eqv_ints]
theorem eqv_tups (xs ys : List Int) : PyData.eqv (.tuple (xs.map PyData.int)) (.tuple (ys.map PyData.int)) = decide (xs = ys) := by
  rw [show PyData.eqv (.tuple (xs.map PyData.int)) (.tuple (ys.map PyData.int)) = PyData.eqvAll (xs.map PyData.int) (ys.map PyData.int) from by simp [PyData.eqv], eqv_ints]
theorem shaped_tints (ns : List Int) : SeqAt.shaped (.tuple (ns.map PyData.int)) = true := by
  have q := depth_ints ns
  unfold SeqAt.shaped
  rw [show PyData.canLay0 (.tuple (ns.map PyData.int)) = PyData.canLayAll0 (ns.map PyData.int) from by simp [PyData.canLay0], lay_ints, Bool.true_and]
  refine decide_eq_true ?_
  simp only [PyData.depth]
  omega
theorem ne_ints {K : PySem.W.Frag} {H : Hp} {Q : VK} {a b : Addr} {xs ys : List Int} (ha : H a = some (.lst (xs.map V.int))) (hb : H b = some (.lst (ys.map V.int))) (fin : Q (.bl (!decide (xs = ys))) H) : rNeD K (.ref a) (.ref b) H Q := by
  refine ⟨.list (xs.map PyData.int), .list (ys.map PyData.int), Dp.lst (SqL.of ha) (dp_ints xs), Dp.lst (SqL.of hb) (dp_ints ys), shaped_ints xs, shaped_ints ys, ?_⟩
  rw [eqv_lists]
  exact fin
theorem eq_tups {K : PySem.W.Frag} {H : Hp} {Q : VK} {a b : Addr} {xs ys : List Int} (ha : H a = some (.tup (xs.map V.int))) (hb : H b = some (.tup (ys.map V.int))) (fin : Q (.bl (decide (xs = ys))) H) : rEqD K (.ref a) (.ref b) H Q := by
  refine ⟨.tuple (xs.map PyData.int), .tuple (ys.map PyData.int), Dp.tup (SqT.of ha) (dp_ints xs), Dp.tup (SqT.of hb) (dp_ints ys), shaped_tints xs, shaped_tints ys, ?_⟩
  rw [eqv_tups]
  exact fin
theorem rep_map (ns : List Int) : ∀ k : Nat, (List.replicate k (ns.map V.int)).flatten = ((List.replicate k ns).flatten).map V.int
  | 0 => by simp
  | k + 1 => by rw [List.replicate_succ, List.replicate_succ, List.flatten_cons, List.flatten_cons, rep_map ns k, List.map_append]
/-- a walk over a list or a tuple -/
def iSeq (K : PySem.W.Frag) (te : TE) : TI := fun σ H R => iList K te σ H R ∨ iTup K te σ H R
theorem pi_seq (h : PE X e te) : PI X tg e (iSeq X.K te) := ⟨fun pins s σ H R I z => z.elim ((pi_list (tg := tg) h).run pins s σ H R I) ((pi_tup (tg := tg) h).run pins s σ H R I)⟩
end
/-- at l: a list or a tuple of these -/
def SeqAt2 (H : Hp) (l : Addr) (xs : List V) : Prop := H l = some (.lst xs) ∨ H l = some (.tup xs)
theorem SeqAt2.same {H H' : Hp} {l : Addr} {xs : List V} (h : SeqAt2 H l xs) (s : Same H H') : SeqAt2 H' l xs := h.imp (fun z => s _ _ z) fun z => s _ _ z
theorem SeqAt2.of {K : PySem.W.Frag} {H : Hp} {l : Addr} {xs : List V} (h : SeqAt2 H l xs) : SqL K H l xs ∨ SqT K H l xs := h.imp (fun z => SqL.of z) fun z => SqT.of z
theorem SeqAt2.len {K : PySem.W.Frag} {H : Hp} {l : Addr} {xs : List V} (h : SeqAt2 H l xs) : LenV K (.ref l) H xs.length := h.imp (fun z => ⟨xs, SqL.of z, rfl⟩) fun z => ⟨xs, SqT.of z, rfl⟩
theorem SeqAt2.ix {K : PySem.W.Frag} {H : Hp} {Q : VK} {l : Addr} {xs : List V} {i : Int} {v : V} (h : SeqAt2 H l xs) (e : atI xs i = some v) (q : Q v H) : rIx K (.ref l) (.int i) H Q := by
  rcases h with z | z
  · exact .inl ⟨l, xs, i, v, rfl, rfl, SqL.of z, e, q⟩
  · exact .inr (.inl ⟨l, xs, i, v, rfl, rfl, SqT.of z, e, q⟩)
/-- the argument is a list or a tuple of these, or no list and no tuple -/
def SeqOf (H : Hp) (v : V) : Option (List V) → Prop
  | some xs => ∃ l, v = .ref l ∧ SeqAt2 H l xs
  | none => Kd H v ∧ ∀ l, v = .ref l → ∃ kvs, H l = some (.dK kvs)
theorem SeqOf.same {H H' : Hp} {v : V} {o : Option (List V)} (h : SeqOf H v o) (s : Same H H') : SeqOf H' v o := by
  cases o with
  | some xs => exact h.imp fun l z => ⟨z.1, z.2.same s⟩
  | none => exact ⟨h.1.same s, fun l e => (h.2 l e).imp fun k z => s _ _ z⟩
theorem seq_kit {K : PySem.W.Frag} {H : Hp} {v : V} {o : Option (List V)} (h : SeqOf H v o) : ∃ t, TyX K H v t ∧ PySem.W.kitAny K t [.type "list", .type "tuple"] = some o.isSome := by
  have no : ∀ n : String, kitB n "list" = some false → kitB n "tuple" = some false → PySem.W.kitAny K (.type n) [.type "list", .type "tuple"] = some false := fun n a b =>
    kitAny_cons (kit_ty a) (fun _ => kitAny_cons (kit_ty b) (fun _ => kitAny_nil) fun z => nomatch z) fun z => nomatch z
  cases o with
  | some xs =>
    obtain ⟨l, rfl, h⟩ := h
    rcases h with h | h
    · exact ⟨_, .base (.lst h), kitAny_cons (b := true) (kit_ty (show kitB "list" "list" = some true by decide +kernel)) (fun z => nomatch z) fun _ => rfl⟩
    · exact ⟨_, .base (.tup h), kitAny_cons (b := false) (kit_ty (show kitB "tuple" "list" = some false by decide +kernel)) (fun _ => kitAny_cons (b := true) (kit_ty (show kitB "tuple" "tuple" = some true by decide +kernel)) (fun z => nomatch z) fun _ => rfl) fun z => nomatch z⟩
  | none =>
    obtain ⟨kd, h⟩ := h
    cases v with
    | non => exact ⟨_, .base .non, no _ (by decide +kernel) (by decide +kernel)⟩
    | bl b => exact ⟨_, .base (.bl b), no _ (by decide +kernel) (by decide +kernel)⟩
    | int i => exact ⟨_, .base (.int i), no _ (by decide +kernel) (by decide +kernel)⟩
    | str z => exact ⟨_, .base (.str z), no _ (by decide +kernel) (by decide +kernel)⟩
    | ref a =>
      obtain ⟨kvs, e⟩ := h a rfl
      exact ⟨_, .base (.dK e), no _ (by decide +kernel) (by decide +kernel)⟩
    | byt _ => exact kd.elim
    | flt _ => exact kd.elim
    | ty _ => exact kd.elim
theorem baded {C : Addr} {f : Str} {v : V} {E : XK} {W : WX} {σ : L2.St} {H : Hp} (h : BadE C f v E H) (hW : ∀ cls d H', E cls d H' → W cls d σ H') : tMkO C (spErrI C f) [] (tCons (tC v) tNil) σ H (fun cls d H' => W cls d σ H') := by
  refine ⟨(show 1 ≤ 1000 by decide), fun a ha => ⟨a, v, rfl, upd_same, fun d hd ne => ⟨rfl, d, _, upd_same, by rw [upd_ne ne, upd_same], by rw [upd_ne ne] at hd; exact hd, ?_⟩⟩⟩
  have hd0 : H d = none := by rw [upd_ne ne] at hd; exact hd
  have e : upd (del (upd (upd (upd H a (exo a C none)) d (exd d [(f, v)])) a (exo a C (some d))) a) d (.xd [(f, v)]) = upd H d (.xd [(f, v)]) := by
    funext b
    by_cases hb : b = d
    · subst hb
      rw [upd_same, upd_same]
    · rw [upd_ne hb, upd_ne hb]
      by_cases hba : b = a
      · subst hba
        rw [del_same, ha]
      · rw [del_ne hba, upd_ne hba, upd_ne hb, upd_ne hba]
  show W (.ref C) (some d) σ (upd (del (upd (upd (upd H a (exo a C none)) d (exd d [(f, v)])) a (exo a C (some d))) a) d (.xd [(f, v)]))
  rw [e]
  exact hW _ _ _ (h d hd0)
/-! ### the parts of a table -/
/-- the items are worths, the first is 0 -/
def worthsOk (xs : List V) : Bool := xs.all (numV 0 400) && decide (xs[0]? = some (.int 0))
def toN : V → Nat
  | .int i => i.toNat
  | _ => 0
/-- the wrong one of the parts -/
def dueT (b p : V) (o : Option (List V)) : Option Str := if numV 0 1000 b = true then (if numV 1 1000 p = true then (match o with
  | some xs => if xs.length = toN b + toN p then (if worthsOk xs = true then none else some "numbers") else some "numbers"
  | none => some "numbers") else some "period") else some "begin"
theorem all_ints {xs : List V} {lo hi : Int} (h : xs.all (numV lo hi) = true) : ∃ ns : List Int, xs = ns.map V.int ∧ ∀ n ∈ ns, lo ≤ n ∧ n ≤ hi := by
  induction xs with
  | nil => exact ⟨[], rfl, fun _ z => by cases z⟩
  | cons x r ih =>
    rw [List.all_cons, Bool.and_eq_true] at h
    obtain ⟨i, rfl, a, b⟩ := numV_is h.1
    obtain ⟨ns, rfl, q⟩ := ih h.2
    refine ⟨i :: ns, rfl, fun n hn => ?_⟩
    rcases List.mem_cons.mp hn with rfl | hn
    · exact ⟨a, b⟩
    · exact q n hn
theorem dueT_none {b p : V} {o : Option (List V)} (h : dueT b p o = none) : ∃ (bn pn : Nat) (ns : List Int), b = .int bn ∧ p = .int pn ∧ o = some (ns.map V.int) ∧ bn ≤ 1000 ∧ 1 ≤ pn ∧ pn ≤ 1000 ∧ Told ns bn pn ∧ ns[0]? = some 0 := by
  unfold dueT at h
  cases e1 : numV 0 1000 b with
  | false => rw [e1] at h; cases h
  | true =>
    rw [e1, if_pos rfl] at h
    cases e2 : numV 1 1000 p with
    | false => rw [e2] at h; cases h
    | true =>
      rw [e2, if_pos rfl] at h
      cases o with
      | none => cases h
      | some xs =>
        dsimp only at h
        by_cases l : xs.length = toN b + toN p
        · rw [if_pos l] at h
          cases w : worthsOk xs with
          | false => rw [w] at h; cases h
          | true =>
            unfold worthsOk at w
            rw [Bool.and_eq_true] at w
            obtain ⟨ns, rfl, q⟩ := all_ints w.1
            obtain ⟨bi, rfl, b0, b1⟩ := numV_is e1
            obtain ⟨pi, rfl, p0, p1⟩ := numV_is e2
            obtain ⟨bn, rfl⟩ := Int.eq_ofNat_of_zero_le b0
            obtain ⟨pn, rfl⟩ := Int.eq_ofNat_of_zero_le (show 0 ≤ pi by omega)
            have f := of_decide_eq_true w.2
            rw [List.getElem?_map] at f
            refine ⟨bn, pn, ns, rfl, rfl, rfl, by omega, by omega, by omega, ⟨by rw [List.length_map] at l; exact l, by omega, q⟩, ?_⟩
            cases z : ns[0]? with
            | none => rw [z] at f; cases f
            | some v =>
              rw [z] at f
              have f2 : V.int v = .int 0 := Option.some.inj f
              rw [V.int.inj f2]
        · rw [if_neg l] at h; cases h
theorem dueT_of {bn pn : Nat} {ns : List Int} (b1 : bn ≤ 1000) (p1 : pn ≤ 1000) (t : Told ns bn pn) (z : ns[0]? = some 0) : dueT (.int bn) (.int pn) (some (ns.map V.int)) = none := by
  unfold dueT
  have e1 : numV 0 1000 (.int bn) = true := by unfold numV; simp; omega
  have e2 : numV 1 1000 (.int pn) = true := by have := t.n1; unfold numV; simp; omega
  rw [if_pos e1, if_pos e2]
  dsimp only
  have l : (ns.map V.int).length = toN (.int bn) + toN (.int pn) := by
    rw [List.length_map, t.len]
    rfl
  rw [if_pos l]
  have w : worthsOk (ns.map V.int) = true := by
    unfold worthsOk
    rw [Bool.and_eq_true]
    refine ⟨?_, decide_eq_true (by rw [List.getElem?_map, z]; rfl)⟩
    rw [List.all_map, List.all_eq_true]
    intro n hn
    have q := t.fit n hn
    show numV 0 400 (.int n) = true
    unfold numV
    simp
    omega
  rw [if_pos w]
/-! ### tables -/
structure TabC (K : PySem.W.Frag) (C : Addr) : Prop where
  cl : Cls K C
  nBegin : PySem.W.findIn K (.ref C) "begin" = some none
  nPeriod : PySem.W.findIn K (.ref C) "period" = some none
  nNumbers : PySem.W.findIn K (.ref C) "numbers" = some none
def tfs (b p : Int) (t : Addr) : List (Str × V) := putF "numbers" (.ref t) (putF "period" (.int p) (putF "begin" (.int b) []))
def TabAt (CT : Addr) (H : Hp) (x : Addr) (b p : Nat) (ns : List Int) : Prop := ∃ dx t, H x = some (.ins CT dx (tfs b p t)) ∧ H t = some (.tup (ns.map V.int))
theorem TabAt.same {CT : Addr} {H H' : Hp} {x : Addr} {b p : Nat} {ns : List Int} (h : TabAt CT H x b p ns) (s : Same H H') : TabAt CT H' x b p ns := let ⟨dx, t, a, c⟩ := h; ⟨dx, t, s _ _ a, s _ _ c⟩
theorem TabAt.ext {CT : Addr} {H H' : Hp} {x : Addr} {b p : Nat} {ns : List Int} (h : TabAt CT H x b p ns) (s : LamX.ExtN H H') : TabAt CT H' x b p ns := let ⟨dx, t, a, c⟩ := h; ⟨dx, t, s _ _ a (fun _ z => nomatch z), s _ _ c (fun _ z => nomatch z)⟩
theorem TabAt.mv {CT : Addr} {H H' : Hp} {x p q : Addr} {n b pe : Nat} {ns : List Int} (h : TabAt CT H x b pe ns) (pen : PenAt n H p q) (m : Mv p H H') : TabAt CT H' x b pe ns := by
  obtain ⟨dx, t, a, c⟩ := h
  obtain ⟨xs, hp⟩ := pen.lst
  exact ⟨dx, t, m _ _ (fun z => by rw [z, hp] at a; cases a) a, m _ _ (fun z => by rw [z, hp] at c; cases c) c⟩
/-- Table.__init__ -/
def spTable (CB CT : Addr) : Sp := fun vs H Q E => ∃ (x dx : Addr) (b p v : V) (o : Option (List V)), vs = [.ref x, b, p, v] ∧ H x = some (.ins CT dx []) ∧ Kd H b ∧ Kd H p ∧ SeqOf H v o ∧ (∀ xs, o = some xs → xs.length ≤ 3000 ∧ ∀ y ∈ xs, Kd H y) ∧
  (∀ z H', dueT b p o = some z → Mv x H H' → BadE CB "part" (.str z) E H') ∧
  (dueT b p o = none → ∀ (bn pn : Nat) (ns : List Int), b = .int bn → p = .int pn → o = some (ns.map V.int) → Told ns bn pn → ∀ H' b' p', Form (atW ns bn pn) b' p' → b' + p' ≤ bn + pn → Mv x H H' → (∃ t, H' x = some (.ins CT dx (tfs b' p' t)) ∧ H' t = some (.tup ((nums (atW ns bn pn) (b' + p')).map V.int))) → Q .non H')
def spCheckP (CB : Addr) : Sp := fun vs H Q E => ∃ (b p v : V) (o : Option (List V)), vs = [b, p, v] ∧ Kd H b ∧ Kd H p ∧ SeqOf H v o ∧ (∀ xs, o = some xs → xs.length ≤ 3000 ∧ ∀ y ∈ xs, Kd H y) ∧ (∀ z H', dueT b p o = some z → Same H H' → BadE CB "part" (.str z) E H') ∧ (dueT b p o = none → ∀ H', Same H H' → Q .non H')
def spLeastP : Sp := fun vs H Q _ => ∃ (l : Addr) (ns : List Int), vs = [.ref l] ∧ H l = some (.lst (ns.map V.int)) ∧ 1 ≤ ns.length ∧ ns.length ≤ 3000 ∧ ∀ H' p, Same H H' → LeastRep ns p → Q (.int (p : Nat)) H'
/-- Table(a, n, row) that may not fail -/
theorem table_made {CB CT x dx l : Addr} {H : Hp} {a n : Nat} {row : List Int} (hl : SeqAt2 H l (row.map V.int)) (t : Told row a n) (z : row[0]? = some 0) (a1 : a ≤ 1000) (n1 : n ≤ 1000) (hx : H x = none) (hd : H dx = none) {E : XK} {G : Hp → Prop}
    (hG : ∀ H' b p, Same H H' → Form (atW row a n) b p → b + p ≤ a + n → TabAt CT H' x b p (nums (atW row a n) (b + p)) → G H') : spTable CB CT [.ref x, .int a, .int n, .ref l] (upd (upd H dx (.own x)) x (.ins CT dx [])) (fun v H' => v = .non ∧ G H') E := by
  have up := up_made (C := CT) hx hd
  have due := dueT_of a1 n1 t z
  refine ⟨x, dx, .int a, .int n, .ref l, some (row.map V.int), rfl, upd_same, True.intro, True.intro, ⟨l, rfl, hl.same up⟩, fun xs e => ?_, fun z H' e _ => ?_, fun _ bn pn ns e1 e2 e3 told H' b p f le mv at_ => ⟨rfl, ?_⟩⟩
  · cases e
    refine ⟨by rw [List.length_map, t.len]; omega, fun y hy => ?_⟩
    obtain ⟨i, _, rfl⟩ := List.mem_map.mp hy
    exact True.intro
  · rw [due] at e
    cases e
  · have q1 : bn = a := by have := V.int.inj e1; omega
    have q2 : pn = n := by have := V.int.inj e2; omega
    have q3 : ns = row := ((List.map_inj_right fun _ _ h => V.int.inj h).mp (Option.some.inj e3)).symm
    subst q1 q2 q3
    obtain ⟨t', h1, h2⟩ := at_
    exact hG H' b p (made_same hx hd mv) f le ⟨dx, t', h1, h2⟩
end Fz

set_option Elab.async false
set_option linter.all false
set_option maxRecDepth 100000
set_option maxHeartbeats 2000000
/-! Own layer: an error of an own class made as a value; what class it is of; its fields. -/
namespace Fz
open PySem PySem.Spec PyProof.Rows L2
/-- at a: an error of the class C, its fields fs in the dict at d -/
structure ErrV (C : Addr) (H : Hp) (a d : Addr) (fs : List (Str × V)) : Prop where
  at_ : H a = some (exo a C (some d))
  dict : H d = some (exd d fs)
theorem ErrV.same {C : Addr} {H H' : Hp} {a d : Addr} {fs : List (Str × V)} (h : ErrV C H a d fs) (s : Same H H') : ErrV C H' a d fs := ⟨s _ _ h.at_, s _ _ h.dict⟩
/-- C(..), C an own error class: the promise of __init__ at the new error -/
def tMkV (C : Addr) (sp : Sp) (dvs : List V) (ta : TA) : TE := fun σ H Q => ta σ H fun vs H1 => vs.length ≤ 1000 ∧ ∀ a, H1 a = none → sp (.ref a :: (vs ++ dvs)) (upd H1 a (exo a C none)) (fun v H2 => v = .non ∧ Q (.ref a) H2) (fun _ _ _ => False)
section
variable {X : Cx} {e : Expr} {es : List Expr} {ta : TA} {p pos : Pos}
theorem pe_mkV {CX : CXT} {x : Str} {C fI : Addr} {k : Nat} {fd : FuncData} {ps : List Str} {sp : Sp} {ds : List Value} {dvs : List V} (T : OexC X.K C) (iC : PySem.W.findIn X.K (.ref C) "__init__" = some (some (.ref fI))) (tI : PySem.W.typeIn X.K (.ref fI) = some (.type "function"))
    (F1 : FnOk X.prog X.w X.K X.mg X.base CX k fI fd ps sp) (room : Room (k + 1) X.A) (binds : L2.Binds X.K fd ps ds) (rd : Vals dvs ds) (never : Passes CX X (fun _ _ _ => False)) (gl : Gl X x) (at_ : X.mg x = some (.ref C)) (ha : PA X (e :: es) ta)
    (hdb : (x == ("__debug__" : Str)) = false := by decide) (he : starEach (e :: es) X.env = (false, eval e X.env) :: starEach es X.env := by rfl) (hpl : (backTo pos (starEach es X.env)).any (·.1) = false := by rfl) :
    PE X (.Call (.Name x p) (e :: es) [] pos) (tMkV C sp dvs ta) := by
  refine ⟨fun pins s σ H Q I h => ?_⟩
  obtain ⟨nm, q, N, bs, bm, sn, sub, ab, col, dd, k0, k1, k2, k3, k5, hC, hbm⟩ := T.cls
  refine wpAny_Call_Name_kw (ld_glob I gl at_ ?_ hdb)
  refine PySem.W.callWith_K (h₀ := X.base) I.ok.mod.kin T.kC (thn (ha.run pos pins s σ H _ I h) fun us s1 ⟨vs, H1, I1, r1, few, q1⟩ => ⟨I1.kIn, ?_⟩) he hpl
  show wpAny _ _ (call (.ref C) us) _ _ _
  obtain ⟨hp, g, dr, tk, os⟩ := s1
  have le : hp.objs.size ≤ hp.objs.size + 1 := Nat.le_succ _
  have hn : H1 (hp.objs.size + 1) = none := I1.hok.fresh le
  have hq := q1 (hp.objs.size + 1) hn
  have kept : ∀ b o, hp.get? b = some o → ((hp.push (PySem.W.kdv_tup us)).push (PySem.HandSPX.excO C hp.objs.size)).get? b = some o := fun b o z => Heap.get?_push_of_some _ (Heap.get?_push_of_some _ z)
  have here : ((hp.push (PySem.W.kdv_tup us)).push (PySem.HandSPX.excO C hp.objs.size)).get? (hp.objs.size + 1) = some (PySem.HandSPX.excO C hp.objs.size) := by heap_get
  have I2 : Inv X pins σ (upd H1 (hp.objs.size + 1) (exo (hp.objs.size + 1) C none)) ⟨(hp.push (PySem.W.kdv_tup us)).push (PySem.HandSPX.excO C hp.objs.size), g, dr, tk, os⟩ :=
    I1.laid (t' := tk) (a := hp.objs.size + 1) (o := exo (hp.objs.size + 1) C none) (h' := (hp.push (PySem.W.kdv_tup us)).push (PySem.HandSPX.excO C hp.objs.size)) kept le (exo_ok here)
  have r2 : Vals (V.ref (hp.objs.size + 1) :: (vs ++ dvs)) (Value.ref (hp.objs.size + 1) :: (us ++ ds)) := .cons rfl (r1.append rd)
  have many : (Value.ref (hp.objs.size + 1) :: us ++ ds).length = ps.length := r2.length.symm.trans (F1.len _ _ _ _ hq)
  have fits : us.length ≤ sizeLine := by
    rw [← Paired.length r1, sizeLine_eq]
    omega
  refine wpAny_call (PySem.HandSPX.call_own F.excBase_ValueError (fun Y => PySem.HandSPX.refsVE_contains Y bm hbm) (I1.kIn _ _ hC) (PySem.W.looks_findIn I1.kIn iC) (fun self => PySem.W.bind_fn I1.kIn self tI) fits
    (codeAny_mono (F1.run _ X.stack _ _ ⟨Value.ref (hp.objs.size + 1) :: us, []⟩ (Value.ref (hp.objs.size + 1) :: (us ++ ds)) _ _ (fun _ _ _ => False) (room.make C us []) (I2.env0.make C us []) (binds _ (Value.ref (hp.objs.size + 1) :: us) I2.kIn many) r2 hq) fun r s' got => ?_))
  match r, got with
  | .error er, got => exact never pins σ _ _ er s' I2 got
  | .ok (.ret u), got =>
    obtain ⟨v, H2, I3, rv, ev, q2⟩ := I2.after got
    subst ev
    exact ⟨rv, ⟨V.ref (hp.objs.size + 1), H2, I3, rfl, q2⟩⟩
  | .ok .next, got => exact got.elim
  | .ok .brk, got => exact got.elim
  | .ok .cont, got => exact got.elim

/-- where such an error stands, as the library's rules take it -/
theorem inst_errV {pins : List (Addr × Obj)} {σ : L2.St} {H : Hp} {s : Shared} {a C : Addr} {d : Option Addr} (I : Inv X pins σ H s) (here : H a = some (exo a C d)) (dict : ∀ dd, d = some dd → ∃ fs, H dd = some (exd dd fs)) : ∃ (ob : Obj) (own : Option Obj), PySem.W.InstAt s.heap a ob C own := by
  obtain ⟨t1, get⟩ := exo_at I.hok here
  match d, get, dict with
  | none, get, _ => exact ⟨_, none, get, rfl, rfl, trivial⟩
  | some dd, get, dict =>
    obtain ⟨fs, q⟩ := dict dd rfl
    obtain ⟨mA, names, _⟩ := exd_at I.hok q
    obtain ⟨od, getD, _⟩ := lookIn_ns names
    exact ⟨_, some od, get, rfl, rfl, getD⟩
/-- isinstance(e, c) of such an error -/
def rIsV (K : PySem.W.Frag) : List V → Hp → VK → Prop := fun vs H Q => ∃ (a C : Addr) (d : Option Addr) (c : V) (cv : Value) (b : Bool), vs = [.ref a, c] ∧ H a = some (exo a C d) ∧ (∀ dd, d = some dd → ∃ fs, H dd = some (exd dd fs)) ∧ ExcC K C ∧ ClsV c cv ∧
  PySem.W.kitOne K (.ref C) cv = some b ∧ Q (.bl b) H
theorem call_isV : CallR X (.builtin "isinstance") (rIsV X.K) := by
  intro pins s σ H vs us Q I rvs hyp
  obtain ⟨a, C, d, c, cv, b, rfl, here, dict, E, isC, ans, fin⟩ := hyp
  obtain ⟨u1, u2, rfl, r1, r2⟩ := vals2 rvs
  cases r1
  cases isC.eq r2
  obtain ⟨ob, own, J⟩ := inst_errV I here dict
  exact PySem.W.kia_one (kit_err E) I.kIn J ans (fun z => nomatch z) fun tk => ⟨.bl b, H, I.tok tk, rfl, fin⟩
/-- e.f of such an error -/
def tErrFV (K : PySem.W.Frag) (f : Str) (te : TE) : TE := fun σ H Q => te σ H fun x H1 => ∃ (a C d : Addr) (fs : List (Str × V)) (v : V), x = .ref a ∧ ErrV C H1 a d fs ∧ XfC K C ∧ PySem.W.findIn K (.ref C) f = some none ∧ fs.lookup f = some v ∧ Q v H1
theorem pe_errFV {e : Expr} {te : TE} {f : Str} {pos : Pos} (he : PE X e te) (base : attributeBase e f X.env (eval e X.env) = eval e X.env := by rfl) : PE X (.Attribute e f pos) (tErrFV X.K f te) := by
  refine ⟨fun pins s σ H Q I hyp => attr_of base (thn (he.run pins s σ H _ I hyp) fun u s1 ⟨x, H1, I1, rx, a, C, d, fs, v, ex, ⟨here, dict⟩, T, none_, look, fin⟩ => ?_)⟩
  subst ex
  obtain rfl : u = Value.ref a := rx
  obtain ⟨t1, get⟩ := exo_at I1.hok here
  obtain ⟨mA, names, rel⟩ := exd_at I1.hok dict
  obtain ⟨u', atf, ru⟩ := RelO.some_of (v := v) (o := mA f) (by rw [← look]; exact rel f)
  obtain ⟨od, getD, lookD⟩ := lookIn_ns names
  have J : PySem.W.InstAt s1.heap a _ C (some od) := ⟨get, rfl, rfl, getD⟩
  exact HandSPX.exc_get I1.kIn J T.ga T.gg T.exC (PySem.W.findObj_own T.hdC none_ rfl (by rw [lookD, atf])) (handed_of ru) ⟨v, H1, I1.tok _, ru, fin⟩
end
end Fz

set_option Elab.async false
set_option linter.all false
set_option maxRecDepth 100000
set_option maxHeartbeats 2000000
namespace Fz
open PySem PySem.Spec PySem.HandSPX
section
variable {M : Model} {A : Around} {E : Value → Shared → Prop} {h : Heap} {g : Array GenState} {d : Drawn} {t : Nat} {os : OsState}
variable {nm q : Str} {C N : Addr} {bs bm bmB : List Value} {hdct : Bool} {sn : List Str} {sub : List Value} {ab : Bool} {col : Option Bool} {dd : Option Addr} {k0 k1 k2 k3 k5 : Option Value} {B newId initId : String}
theorem kw_check (F : ExcBaseFacts B newId initId bmB) (hT : ∀ X : String, bm.contains (.type X) = bmB.contains (.type X)) {kw : List (Str × Value)} {Q : Unit → Shared → Prop}
    (hC : h.get? C = some (excClassObj nm q C N bs bm hdct sn sub ab col dd k0 k1 k2 k3 k5 newId)) (hq : Q () ⟨h, g, d, t, os⟩) : wpAny M A (checkBuiltinCall newId ⟨[.ref C], kw⟩) Q E ⟨h, g, d, t, os⟩ := by
  have has : (Value.ref C :: bm).contains (.type B) = true := by rw [List.contains_cons, hT, F.hasB, Bool.or_true]
  have star := F.noStar
  simp only [checkBuiltinCall, F.newKind, F.newSplit, F.newRow]
  repeat (first | refine wpAny_loadPart_at hC ?_ | (refine wpAny_isSubtype_exc hC ?_; rw [has]) | refine wpAny_staticBase_exc hC ?_ | refine wpAny_madeBy_exc hC ?_ | simp only [bne_self_eq_false, Bool.false_eq_true, if_false] | wp_step)
  exact hq
end
section
variable {prog : Program} {w : World} {A : Around} {E : Value → Shared → Prop} {R : Result → Shared → Prop} {h : Heap} {g : Array GenState} {d : Drawn} {t : Nat} {os : OsState}
variable {nm q : Str} {C N : Addr} {bs bm bmB : List Value} {hdct : Bool} {sn : List Str} {sub : List Value} {ab : Bool} {col : Option Bool} {dd : Option Addr} {k0 k1 k2 k3 k5 : Option Value} {B newId initId : String} {kw : List (Str × Value)}
theorem kw_new (F : ExcBaseFacts B newId initId bmB) (hT : ∀ X : String, bm.contains (.type X) = bmB.contains (.type X))
    (hC : h.get? C = some (excClassObj nm q C N bs bm hdct sn sub ab col dd k0 k1 k2 k3 k5 newId))
    (hq : R (.ok (.ret (.ref (h.objs.size + 1)))) ⟨(h.push (PySem.W.kdv_tup [])).push (excO C h.objs.size), g, d, t, os⟩) :
    codeAny (model prog w) A (.builtin newId ⟨[.ref C], kw⟩) R ⟨h, g, d, t, os⟩ := by
  have ends := F.ends
  have isB : (Value.ref C :: bm).contains (.type B) = true := by rw [List.contains_cons, hT, F.hasB, Bool.or_true]
  have noA : (Value.ref C :: bm).contains (.type "AttributeError") = false := by rw [List.contains_cons, hT, F.noAttr]; rfl
  have noN : (Value.ref C :: bm).contains (.type "NameError") = false := by rw [List.contains_cons, hT, F.noName]; rfl
  refine codeAny_builtinAt F.entry ?_
  unfold Builtin.«BaseException.__new__»
  refine wpAt_bind ?_
  show wpAt _ _ _ (stack >>= _) _ _ _
  refine wpAt_bind (wpAt_stack fun p below => wpAt_of_wpAny ?_)
  wp_walk
  refine wpAt_of_wpAny ?_
  rw [F.owner]
  repeat (first | with_reducible refine wpAny_madeHere_exc F.canon hC ?_ | with_reducible refine wpAny_loadPart_at hC ?_ | (with_reducible refine wpAny_isSubtype_exc hC ?_; first | rw [isB] | rw [noA] | rw [noN]) | wp_step)
  show R _ _
  rw [Heap.size_push]
  exact hq
theorem kw_type (F : ExcBaseFacts B newId initId bmB) (hT : ∀ X : String, bm.contains (.type X) = bmB.contains (.type X)) {fI : Addr} {Q : Fin → Shared → Prop}
    (hC : h.get? C = some (excClassObj nm q C N bs bm hdct sn sub ab col dd k0 k1 k2 k3 k5 newId))
    (hi : PySem.W.Looks (model prog w) h (typeLookup (.ref C) "__init__") (some (.ref fI))) (hb : ∀ self, PySem.W.Looks (model prog w) h (bindSpecial (.ref fI) self) (.ref fI, [self]))
    (hq : codeAny (model prog w) A (.call (.ref fI) ⟨[.ref (h.objs.size + 1)], kw⟩)
      (fun r s' => match r with | .ok (.ret v) => v = .none ∧ Q (.done (.ret (.ref (h.objs.size + 1)))) s' | .ok _ => False | .error e => E e s')
      ⟨(h.push (PySem.W.kdv_tup [])).push (excO C h.objs.size), g, d, t, os⟩) :
    wpAny (model prog w) A (Builtin.«type.__call__» ⟨[.ref C], kw⟩) Q E ⟨h, g, d, t, os⟩ := by
  repeat (first | with_reducible refine wpAny_loadPart_at hC ?_ | with_reducible refine wpAny_madeBy_exc hC ?_ | wp_step)
  refine codeAny_call_builtin_code (Code.quiet_builtin _ F.quiet) (kw_check F hT hC ?_)
  refine kw_new F hT hC ?_
  show wpAny _ _ _ _ _ _
  have k : ∀ b o, h.get? b = some o → ((h.push (PySem.W.kdv_tup [])).push (excO C h.objs.size)).get? b = some o := fun b o e => Heap.get?_push_of_some _ (Heap.get?_push_of_some _ e)
  have hC1 := k _ _ hC
  have made : ((h.push (PySem.W.kdv_tup [])).push (excO C h.objs.size)).get? (h.objs.size + 1) = some (excO C h.objs.size) := by heap_get
  have own : (Value.ref C :: bm).contains (.ref C) = true := by simp
  have i1 := hi.keeps k
  have b1 := (hb (.ref (h.objs.size + 1))).keeps k
  unfold isInstance
  repeat (first | with_reducible refine wpAny_loadPart_at made ?_ | (with_reducible refine wpAny_isSubtype_exc hC1 ?_; rw [own]) | wp_step)
  show wpAny _ _ (typeLookup (.ref C) _) _ _ _
  refine i1.at ?_
  refine wpAny_holding (wpAny_bind (b1.at ?_))
  refine wpAny_bind (wpAny_call (codeAny_mono hq fun r s' z => ?_))
  rcases r with e | (v | _ | _ | _) <;> first | exact z | exact z.elim | skip
  obtain ⟨rfl, z⟩ := z
  first
    | exact wpAny_pure (wpAny_pure z)
    | (wp_walk; exact z)
theorem kw_typeCheck {M : Model} {E : Value → Shared → Prop} {Q : Unit → Shared → Prop} (hC : h.get? C = some (excClassObj nm q C N bs bm hdct sn sub ab col dd k0 k1 k2 k3 k5 newId)) (hq : Q () ⟨h, g, d, t, os⟩) : wpAny M A (checkBuiltinCall "type.__call__" ⟨[.ref C], kw⟩) Q E ⟨h, g, d, t, os⟩ := by
  have f3 := PySem.tc_sub
  have ty : (⟨h, g, d, t, os⟩ : Shared).TypeIs (.ref C) "type" := ⟨_, hC, rfl⟩
  simp only [checkBuiltinCall, PySem.tc_kind, PySem.tc_split]
  repeat (any_goals (first | assumption | with_reducible refine wpAny_loadPart_at hC ?_ | with_reducible refine wpAny_onRaise ?_ | with_reducible refine wpAny_map ?_ | wp_step))
theorem kw_call (F : ExcBaseFacts B newId initId bmB) (hT : ∀ X : String, bm.contains (.type X) = bmB.contains (.type X)) {fI : Addr}
    (hC : h.get? C = some (excClassObj nm q C N bs bm hdct sn sub ab col dd k0 k1 k2 k3 k5 newId))
    (hi : PySem.W.Looks (model prog w) h (typeLookup (.ref C) "__init__") (some (.ref fI))) (hb : ∀ self, PySem.W.Looks (model prog w) h (bindSpecial (.ref fI) self) (.ref fI, [self]))
    (hq : codeAny (model prog w) (A.under (.builtin "type.__call__" ⟨[.ref C], kw⟩)) (.call (.ref fI) ⟨[.ref (h.objs.size + 1)], kw⟩) (PySem.W.InitBack (h.objs.size + 1) R)
      ⟨(h.push (PySem.W.kdv_tup [])).push (excO C h.objs.size), g, d, t, os⟩) :
    codeAny (model prog w) A (.call (.ref C) ⟨[], kw⟩) R ⟨h, g, d, t, os⟩ := by
  have f1 := PySem.tc_lookup
  have f2 := PySem.tc_bind (.ref C)
  have ty : (⟨h, g, d, t, os⟩ : Shared).TypeIs (.ref C) "type" := ⟨_, hC, rfl⟩
  refine codeAny_of_tree ?_
  show wpAny _ _ (callAny (.ref C) _) _ _ _
  repeat (any_goals (first | assumption | with_reducible refine wpAny_loadPart_at hC ?_ | wp_step))
  refine ⟨rfl, ?_⟩
  refine codeAny_call_builtin_at (Code.quiet_builtin _ (by decide +kernel)) entry_typeCall ?_
  refine kw_typeCheck hC ?_
  refine kw_type F hT hC hi hb ?_
  refine codeAny_mono hq fun r s' z => ?_
  rcases r with e | (v | _ | _ | _) <;> exact z
end
open PyProof.Rows L2
/-- C(k = v, ..), C an own error class -/
def tMkVK (C : Addr) (m : Nat) (sp : Sp) (gV : List V → List V → List V) (tk : TA) : TE := fun σ H Q => tk σ H fun zs H1 => zs.length = m ∧ ∀ a, H1 a = none → sp (gV [.ref a] zs) (upd H1 a (exo a C none)) (fun v H2 => v = .non ∧ Q (.ref a) H2) (fun _ _ _ => False)
section
variable {X : Cx} {tk : TA} {p pos : Pos} {kws : List Keyword} {ks : List Str} {gg : List Value → List Value → List Value} {gV : List V → List V → List V}
theorem pe_mkVK {CX : CXT} {x : Str} {C fI : Addr} {k : Nat} {fd : FuncData} {ps : List Str} {sp : Sp} (T : OexC X.K C) (iC : PySem.W.findIn X.K (.ref C) "__init__" = some (some (.ref fI))) (tI : PySem.W.typeIn X.K (.ref fI) = some (.type "function"))
    (F1 : FnOk X.prog X.w X.K X.mg X.base CX k fI fd ps sp) (room : Room (k + 1) X.A) (binds : KBn X.K fd ps 1 ks gg gV) (never : Passes CX X (fun _ _ _ => False)) (gl : Gl X x) (at_ : X.mg x = some (.ref C)) (hkw : PK X kws tk)
    (hall : (backToKw pos (keywordEach kws X.env)).all (·.1.isSome) = true := by rfl) (hks : (backToKw pos (keywordEach kws X.env)).filterMap (·.1) = ks := by rfl) (hdb : (x == ("__debug__" : Str)) = false := by decide)
    (hpl : ((backTo pos (starEach [] X.env)).any (·.1) || (backToKw pos (keywordEach kws X.env)).any (·.1.isNone)) = false := by rfl) :
    PE X (.Call (.Name x p) [] kws pos) (tMkVK C ks.length sp gV tk) := by
  refine ⟨fun pins s σ H Q I h => ?_⟩
  obtain ⟨nm, q, N, bs, bm, sn, sub, ab, col, dd, k0, k1, k2, k3, k5, hC, hbm⟩ := T.cls
  refine wpAny_Call_Name_kw (ld_glob I gl at_ ?_ hdb)
  refine PySem.W.callWith_KW0 (h₀ := X.base) I.ok.mod.kin T.kC hall ?_ hpl
  refine thn (hkw.run pos pins s σ H _ I h) fun ws s1 ⟨zs, H1, I1, rz, l1, q1⟩ => ⟨I1.kIn, ?_⟩
  rw [hks]
  obtain ⟨hp, g, dr, tk', os⟩ := s1
  have le : hp.objs.size ≤ hp.objs.size + 1 := Nat.le_succ _
  have hn : H1 (hp.objs.size + 1) = none := I1.hok.fresh le
  have hq := q1 (hp.objs.size + 1) hn
  have kept : ∀ b o, hp.get? b = some o → ((hp.push (PySem.W.kdv_tup [])).push (PySem.HandSPX.excO C hp.objs.size)).get? b = some o := fun b o z => Heap.get?_push_of_some _ (Heap.get?_push_of_some _ z)
  have here : ((hp.push (PySem.W.kdv_tup [])).push (PySem.HandSPX.excO C hp.objs.size)).get? (hp.objs.size + 1) = some (PySem.HandSPX.excO C hp.objs.size) := by heap_get
  have I2 : Inv X pins σ (upd H1 (hp.objs.size + 1) (exo (hp.objs.size + 1) C none)) ⟨(hp.push (PySem.W.kdv_tup [])).push (PySem.HandSPX.excO C hp.objs.size), g, dr, tk', os⟩ :=
    I1.laid (t' := tk') (a := hp.objs.size + 1) (o := exo (hp.objs.size + 1) C none) (h' := (hp.push (PySem.W.kdv_tup [])).push (PySem.HandSPX.excO C hp.objs.size)) kept le (exo_ok here)
  have r1 : Vals [V.ref (hp.objs.size + 1)] [Value.ref (hp.objs.size + 1)] := .cons rfl .nil
  have r2 := binds.rel r1 rz
  refine wpAny_call (kw_call F.excBase_ValueError (fun Y => PySem.HandSPX.refsVE_contains Y bm hbm) (I1.kIn _ _ hC) (PySem.W.looks_findIn I1.kIn iC) (fun self => PySem.W.bind_fn I1.kIn self tI)
    (codeAny_mono (F1.run _ X.stack _ _ ⟨[Value.ref (hp.objs.size + 1)], ks.zip ws⟩ (gg [Value.ref (hp.objs.size + 1)] ws) _ _ (fun _ _ _ => False) (room.make C [] (ks.zip ws)) (I2.env0.make C [] (ks.zip ws)) (binds.to _ [Value.ref (hp.objs.size + 1)] ws I2.kIn rfl (rz.length.symm.trans l1)) r2 hq) fun r s' got => ?_))
  match r, got with
  | .error er, got => exact never pins σ _ _ er s' I2 got
  | .ok (.ret u), got =>
    obtain ⟨v, H2, I3, rv, ev, q2⟩ := I2.after got
    subst ev
    exact ⟨rv, ⟨V.ref (hp.objs.size + 1), H2, I3, rfl, q2⟩⟩
  | .ok .next, got => exact got.elim
  | .ok .brk, got => exact got.elim
  | .ok .cont, got => exact got.elim
/-- C(), C an own error class without an __init__ of its own -/
def tMkV0 (C : Addr) : TE := fun _ H Q => ∀ a, H a = none → Q (.ref a) (upd H a (exo a C none))
theorem pe_mkV0 {x : Str} {C : Addr} {bmB : List Value} {B newId initId : String} (F : ExcBaseFacts B newId initId bmB) (q : PySem.W.excIn X.K C bmB newId = true) (gl : Gl X x) (at_ : X.mg x = some (.ref C)) (kC : PySem.W.keepIn X.K (.ref C) = true) (noex : X.ex = []) (hdb : (x == ("__debug__" : Str)) = false := by decide) :
    PE X (.Call (.Name x p) [] [] pos) (tMkV0 C) := by
  refine ⟨fun pins s σ H Q I h => ?_⟩
  refine wpAny_Call_Name_kw (ld_glob I gl at_ ?_ hdb)
  refine PySem.W.callWith_K0 I.kIn kC ?_
  show wpAny _ _ (call (.ref C) []) _ _ _
  obtain ⟨hp, g, dr, tk', os⟩ := s
  obtain ⟨bm, N, nm, qn, bs, hdct, sn, sub, ab, col, dd, k0, k1, k2, k3, k5, mN, hC, hN, hni, T⟩ := exc_obj I.kIn q
  refine wpAny_call_exc_subT F T hC hN hni (fun h' e hm => ?_) (by show 0 ≤ sizeLine; exact Nat.zero_le _)
  obtain ⟨t, he, _, _⟩ := hm.there
  have hn : H e = none := I.hok.gone hm.new
  have none_ : ∀ {b : Addr} {o : Obj}, hp.get? b = some o → b ≠ e := fun {b o} y z => by
    rw [z, show hp.get? e = none from hm.new] at y
    cases y
  have J : Inv X pins σ H ⟨h', g, dr, tk', os⟩ := I.kept (t' := tk') hm.keeps
  have tracked := track J hn (exo_ok (C := C) (d := none) he) (fun b u y => by
      obtain ⟨u', y'⟩ := I.base.there b u y (by rw [noex]; exact fun z => nomatch z)
      exact none_ y') (by
      obtain ⟨m, ⟨o, es, ep, ho, _⟩, _⟩ := I.loc
      exact (none_ ho).symm) (fun y k q => by
      obtain ⟨v, o, get, _⟩ := I.cell y k q
      exact none_ get) (fun q hq => none_ (I.pin q hq).1)
  exact ⟨.ref e, _, tracked, rfl, h e hn⟩
end
end Fz

set_option Elab.async false
set_option linter.all false
set_option maxRecDepth 100000
set_option maxHeartbeats 2000000
/-! Own layer: repr of a dict of one entry. -/
namespace Fz
open PySem PySem.Spec PyProof.Rows L2
def rRepD1 : List V → Hp → VK → Prop := fun vs H Q => ∃ (a : Addr) (k : Str) (i : Int), vs = [.ref a] ∧ H a = some (.dK [(.inr k, .int i)]) ∧ (PyData.dict [(.str k, .int i)]).showable = true ∧ (PyData.dict [(.str k, .int i)]).shown.length ≤ sizeLine ∧ Q (.str (PyData.dict [(.str k, .int i)]).shown) H
theorem call_repD1 {X : Cx} (clear : X.A.guards = some []) (room : X.A.units + 64 < cLine) : CallR X (.builtin "repr") rRepD1 := by
  intro pins s σ H vs us Q I rvs hyp
  obtain ⟨a, k, i, rfl, ha, hshow, hfit, fin⟩ := hyp
  obtain ⟨u, rfl, ru⟩ := vals1 rvs
  cases (show u = Value.ref a from ru)
  obtain ⟨_, sys, vs', kv, o, es, ep, h1, h2, h3, _, pairs, _⟩ := (show ObjOk X.prog X.w H s.heap a (.dK [(.inr k, .int i)]) from I.hok a _ ha)
  match vs', kv with
  | [(k', u)], .cons ⟨e1, e2⟩ .nil =>
    cases (show k' = Sum.inr k from e1.symm)
    obtain ⟨t, e3⟩ := (show ∃ t, u = Value.int i t from e2)
    cases e3
    cases h : es.toList with
    | nil => rw [h] at pairs; cases pairs
    | cons e r =>
      rw [h] at pairs
      cases pairs with
      | cons isK isV rest =>
        cases rest
        rcases keyIs_shape (k := Sum.inr k) (v := e.key) isK with ⟨j, t2, e3, _⟩ | ⟨z, t2, e3, e4⟩
        · cases e3
        · cases (show Sum.inr k = Sum.inr z from e3)
          have rk : Reads s.heap e.key (.str k) [] := by rw [e4]; exact .str _ _
          have rv : Reads s.heap e.val (.int i) [] := by rw [isV]; exact .int _ _
          have reads : Reads s.heap (.ref a) (.dict [(.str k, .int i)]) (a :: ([] ++ []) ++ ([] ++ [])) := Reads.dict h1 h2.1 h3 (by rw [h]; exact .cons rk .nil) (by rw [h]; exact .cons rv .nil)
          refine repr_of_reads' reads hshow (fun _ => ?_) clear (by simp only [PyData.depth, PyData.depthKv]; omega) (fun _ _ same => same) (fun heap' tok toks kept => ⟨.str _, H, I.kept kept, ⟨_, rfl⟩, fin⟩) hfit
          intro m
          simp at m
          rw [← m] at sys
          simp at sys
end Fz

set_option Elab.async false
set_option linter.all false
set_option maxRecDepth 100000
set_option maxHeartbeats 2000000
namespace Fz
open PySem PySem.Spec PyProof.Rows L2
/-- one step of a reading -/
local macro_rules | `(tactic| walk_at "st") => `(tactic| first
  | refine ⟨_, rfl, ?_⟩
  | refine Or.inl ⟨_, rfl, ?_⟩
  | refine Or.inr ⟨_, rfl, ?_⟩
  | refine ⟨_, _, _, _, rfl, rfl, SqL.of (by first | assumption | exact upd_same), rfl, ?_⟩
  | refine ⟨_, _, _, _, rfl, rfl, (by first | assumption | exact upd_same), rfl, ?_⟩
  | refine ⟨_, _, rfl, .inl ⟨_, SqL.of (by first | assumption | exact upd_same), rfl⟩, ?_⟩
  | refine ⟨_, _, rfl, rfl, (show (0 : Int) < _ by first | decide | omega), ?_⟩
  | refine ⟨_, _, rfl, rfl, (show (0 : Int) < _ ∧ _ < _ by first | exact ⟨by decide, by decide⟩ | omega), ?_⟩
  | refine ⟨_, _, rfl, rfl, (show (_ < _ ∧ _ < _) ∨ (_ < _ ∧ _ < _) by first | exact .inl ⟨by decide, by decide⟩ | omega), ?_⟩
  | refine ⟨_, _, rfl, rfl, (show (0 : Int) ≤ _ ∧ _ ≤ _ ∧ _ < _ by first | exact ⟨by decide, by decide, by decide⟩ | exact ⟨by decide, by decide, by omega⟩), ?_⟩
  | refine ⟨_, _, rfl, rfl, ?_⟩)

/-! ### the text -/
def topS (i : Nat) : Stmt := PySem.Challenge.pw_freetakes_k01_errors_and_their_fields.main.body.getD i (.Pass ⟨0, 0, 0, 0⟩)

abbrev s_pen : Stmt := topS 41
abbrev s_draw : Stmt := topS 42
abbrev s_pick : Stmt := topS 43
section
variable {P : Program} {w : World} {K : PySem.W.Frag} {mg : Str → Option Value} {base : Heap}

theorem sc_pen : FnScope ["_law_script"] ["_law_script"] (defScope s_pen) := ⟨rfl, rfl, rfl, by decide +kernel, rfl, by decide +kernel, by decide +kernel⟩
theorem ok_pen {f : Addr} {fd : FuncData} (F : Fun K "_law_pen" "_law_pen" s_pen f fd) (T : Blt mg) : FnOk P w K mg base CX0 1 f fd ["_law_script"] (spPen K) := by
  refine F.ok sc_pen (fun vs H Q E h => ?_) (fun cdv A outer s H vs Q E hr h => ?_)
  · obtain ⟨a, ns, rfl, _⟩ := h
    rfl
  · obtain ⟨a, ns, rfl, hS, hl, k⟩ := h
    refine ⟨_, (pss_one (ps_ret (pe_lst (pa_cons (pe_callTy call_list_of rfl T.z_list (by decide +kernel) (pa_cons (pe_slice sl_list (pv 0) po_none (po_some pe_int)) pa_nil)) (pa_cons pe_int (pa_cons pe_int pa_nil)))))), ?_⟩
    refine ⟨_, rfl, _, rfl, _, _, rfl, hS, fun l0 hl0 => ⟨_, _, rfl, .inl (SqL.of upd_same), fun l1 hl1 => ⟨by show 3 ≤ sizeLine; decide, fun p hp => ?_⟩⟩⟩
    have n01 : l1 ≠ l0 := fun z => by rw [z, upd_same] at hl1; cases hl1
    have h1 : H l1 = none := by rw [upd_ne n01] at hl1; exact hl1
    have npl1 : p ≠ l1 := fun z => by rw [z, upd_same] at hp; cases hp
    have hp1 : (upd H l0 (.lst (cutV (List.map V.int ns) none (some 63)))) p = none := by rw [upd_ne npl1] at hp; exact hp
    have npl0 : p ≠ l0 := fun z => by rw [z, upd_same] at hp1; cases hp1
    have hp0 : H p = none := by rw [upd_ne npl0] at hp1; exact hp1
    have ecut : cutV (List.map V.int ns) none (some 63) = List.map V.int ns := by
      unfold cutV
      show List.take (HT.sIx (List.map V.int ns).length (List.map V.int ns).length (some (63 : Int)) - 0) (List.drop 0 (List.map V.int ns)) = _
      rw [show ((63 : Int)) = ((63 : Nat) : Int) from rfl, HT.sIx_nat, List.drop_zero, Nat.sub_zero]
      exact List.take_of_length_le (by rw [List.length_map]; omega)
    refine k _ p l1 hp0 h1 ⟨ns, 0, 0, upd_same, ?_, Ne.symm npl1, hl, Int.le_refl _, Int.le_refl _⟩ (fun b o e => ?_)
    · rw [upd_ne (Ne.symm npl1), upd_same, ecut]
    · rw [upd_ne (ne_of_none e hp0), upd_ne (ne_of_none e h1), upd_ne (ne_of_none e hl0)]
      exact e
theorem sc_draw : FnScope ["_law_pen_here", "_law_many", "_law_spot", "_law_cell", "_law_mixed", "_law_digit", "_law_great"] ["_law_pen_here", "_law_many"] (defScope s_draw) := ⟨rfl, rfl, rfl, by decide +kernel, rfl, by decide +kernel, by decide +kernel⟩
theorem ok_draw {f : Addr} {fd : FuncData} (F : Fun K "_law_draw" "_law_draw" s_draw f fd) (T : Blt mg) : FnOk P w K mg base CX0 1 f fd ["_law_pen_here", "_law_many"] spDraw := by
  refine F.ok sc_draw (fun vs H Q E h => ?_) (fun cdv A outer s H vs Q E hr h => ?_)
  · obtain ⟨n, p, q, m, rfl, _⟩ := h
    rfl
  · obtain ⟨n, p, q, m, rfl, ⟨ns, spot, great, hp, hq, hqp, hl, h0, h1⟩, hn, hm, hm2, k⟩ := h
    refine ⟨_, (pss_cons (ps_if (pt_cmpR op_gt (pe_ix ix_list (pv 0) pe_int (fun _ _ => rfl)) pe_int (nomark _)) (pss_cons (ps_set (i := 5) sc_draw.nd rfl (Or.inl rfl) (pe_op op_mod (pe_callTy call_int1 rfl T.z_int (by decide +kernel) (pa_cons (pe_ix ix_list (pv 0) pe_int (fun _ _ => rfl)) pa_nil)) (pv 1)))
  (pss_cons (ps_asg (pe_op op_fdivW (pe_callTy call_int1 rfl T.z_int (by decide +kernel) (pa_cons (pe_ix ix_list (pv 0) pe_int (fun _ _ => rfl)) pa_nil)) (pv 1)) (pg_sub (pv 0) pe_int set_list))
  (pss_one (ps_ret (pv 5))))) pss_nil)
  (pss_cons (ps_set (i := 2) sc_draw.nd rfl (Or.inl rfl) (pe_ix ix_list (pv 0) pe_int (fun _ _ => rfl)))
  (pss_cons (ps_asg (pe_op op_add (pv 2) pe_int) (pg_sub (pv 0) pe_int set_list))
  (pss_cons (ps_set (i := 3) sc_draw.nd rfl (Or.inl rfl) (pe_op op_add (pe_op op_mul pe_int (pv 2)) pe_int))
  (C8.pss_cut (ps_if (pt_cmpR (op_neD hr.units) (pe_ix ix_list (pv 0) pe_int (fun _ _ => rfl)) (pe_lst pa_nil) (nomark _)) (pss_one (ps_set (i := 3) sc_draw.nd rfl (Or.inl rfl) (pe_ix ix_list (pe_ix ix_list (pv 0) pe_int (fun _ _ => rfl)) (pe_op op_mod (pe_callTy call_int1 rfl T.z_int (by decide +kernel) (pa_cons (pv 2) pa_nil)) (pe_callB call_len rfl T.z_len (by decide +kernel) (pa_cons (pe_ix ix_list (pv 0) pe_int (fun _ _ => rfl)) pa_nil))) (fun _ _ => rfl)))) pss_nil)
  (C8.pss_cut (ps_if (PW.pt (pw_and (pt_cmpR op_lt (pv 2) (pe_callB call_len rfl T.z_len (by decide +kernel) (pa_cons (pe_ix ix_list (pv 0) pe_int (fun _ _ => rfl)) pa_nil)) (nomark _)) (pw_and1 (pt_cmpR op_ge (pe_callB call_abs rfl T.z_abs (by decide +kernel) (pa_cons (pv 3) pa_nil)) (pe_op op_pow pe_int pe_int) (nomark _))))) (pss_cons (ps_set (i := 6) sc_draw.nd rfl (Or.inl rfl) (pe_op op_add (pe_op op_mul pe_int (pe_op op_sub (pe_callB call_abs rfl T.z_abs (by decide +kernel) (pa_cons (pv 3) pa_nil)) (pe_op op_pow pe_int pe_int))) (pe_callTy call_int1 rfl T.z_int (by decide +kernel) (pa_cons (pe_cmpR op_lt (pv 3) pe_int (nomark _)) pa_nil))))
  (pss_cons (ps_asg (pe_op op_fdivW (pe_callTy call_int1 rfl T.z_int (by decide +kernel) (pa_cons (pv 6) pa_nil)) (pv 1)) (pg_sub (pv 0) pe_int set_list))
  (pss_one (ps_ret (pe_op op_mod (pe_callTy call_int1 rfl T.z_int (by decide +kernel) (pa_cons (pv 6) pa_nil)) (pv 1)))))) pss_nil)
  (C8.pss_cut (ps_set (i := 4) sc_draw.nd rfl (Or.inl rfl) (pe_op op_mod (pe_callTy call_int1 rfl T.z_int (by decide +kernel) (pa_cons (pe_op op_pow (pe_op op_add (pe_op op_add (pe_op op_mod (pe_callTy call_int1 rfl T.z_int (by decide +kernel) (pa_cons (pv 3) pa_nil)) pe_int) (pe_op op_mul pe_int (pv 2))) pe_int) pe_int) pa_nil)) pe_int))
  (pss_cons (ps_set (i := 4) sc_draw.nd rfl (Or.inl rfl) (pe_op op_mod (pe_callTy call_int1 rfl T.z_int (by decide +kernel) (pa_cons (pe_op op_pow (pe_op op_add (pe_op op_add (pe_op op_mul (pv 4) (pe_op op_add (pe_op op_mul pe_int (pv 2)) pe_int)) (pe_op op_mul (pe_op op_mul pe_int (pv 2)) (pv 2))) pe_int) pe_int) pa_nil)) pe_int))
  (pss_one (ps_ret (pe_op op_mod (pe_callTy call_int1 rfl T.z_int (by decide +kernel) (pa_cons (pe_op op_fdiv (pv 4) pe_int) pa_nil)) (pv 1)))))))))))), ?_⟩
    iterate 4 walk_at "st"
    refine ite2 (fun hg => ?_) (fun hg => ?_)
    · repeat walk_at "st"
      exact k _ _ ⟨ns, spot, great / m, upd_same, by rw [upd_ne hqp]; exact hq, hqp, hl, h0, by omega⟩ Mv.here (Int.emod_nonneg _ (by omega)) (Int.emod_lt_of_pos _ hm)
    · repeat walk_at "st"
      have mul0 : spot ≤ 100000 := by omega
      refine ⟨fun σ' H' => ∃ cell : Int, σ' = [some (.ref p), some (.int m), some (.int spot), some (.int cell), none, none, none] ∧ H' p = some (.lst [.ref q, .int (spot + 1), .int great]) ∧ H' q = some (.lst (ns.map V.int)) ∧ Mv p H H', ?_, ?_⟩
      · have hq1 : upd H p (.lst [.ref q, .int (spot + 1), .int great]) q = some (.lst (ns.map V.int)) := by rw [upd_ne hqp]; exact hq
        have hp1 : upd H p (.lst [.ref q, .int (spot + 1), .int great]) p = some (.lst [.ref q, .int (spot + 1), .int great]) := upd_same
        have mv1 : Mv p H (upd H p (.lst [.ref q, .int (spot + 1), .int great])) := Mv.here
        show tIfS _ _ _ _ _ (upd H p (.lst [.ref q, .int (spot + 1), .int great]))
        generalize upd H p (.lst [.ref q, .int (spot + 1), .int great]) = H1 at hq1 hp1 mv1 ⊢
        repeat walk_at "st"
        refine ⟨Nat.zero_le _, fun l hl0 => ?_⟩
        have hp2 : upd H1 l (.lst []) p = some (.lst [.ref q, .int (spot + 1), .int great]) := by rw [upd_ne (ne_of_none hp1 hl0)]; exact hp1
        have hq2 : upd H1 l (.lst []) q = some (.lst (ns.map V.int)) := by rw [upd_ne (ne_of_none hq1 hl0)]; exact hq1
        have mv2 : Mv p H (upd H1 l (.lst [])) := mv1.trans (Mv.new hl0)
        refine ⟨_, _, Dp.lst (SqL.of hq2) (dp_ints ns), Dp.lst (SqL.of upd_same) .nil, shaped_ints ns, shaped_ints [], _, rfl, ?_⟩
        refine ite2 (fun ht => ?_) (fun _ => ⟨_, rfl, hp2, hq2, mv2⟩)
        have hne : 0 < (ns.map V.int).length := by
          cases ns with
          | nil => exact absurd ht (by decide)
          | cons z zs => rw [List.length_map]; exact Nat.succ_pos _
        have hpos : (0 : Int) < (((ns.map V.int).length : Nat) : Int) := by omega
        obtain ⟨x, hx, ax⟩ := at_mod spot hne
        obtain ⟨z, hz, rfl⟩ := List.mem_map.mp hx
        iterate 2 walk_at "st"
        iterate 2 walk_at "st"
        iterate 2 walk_at "st"
        iterate 1 walk_at "st"
        refine ⟨_, _, rfl, rfl, hpos, q, _, _, _, rfl, rfl, SqL.of hq2, ax, ?_⟩
        exact ⟨z, rfl, hp2, hq2, mv2⟩
      · rintro σ' H' ⟨cell, rfl, hp', hq', mv⟩
        have small : ∀ H'', Mv p H H'' → H'' p = some (.lst [.ref q, .int (spot + 1), .int great]) → H'' q = some (.lst (ns.map V.int)) → PenAt (n + 1) H'' p q := fun H'' _ a b => ⟨ns, spot + 1, great, a, b, hqp, hl, by omega, by omega⟩
        refine ⟨fun σ'' H'' => σ'' = [some (.ref p), some (.int m), some (.int spot), some (.int cell), none, none, none] ∧ H'' = H', ?_, ?_⟩
        · repeat walk_at "st"
          refine ite2 (fun _ => ?_) (fun _ => iteF ⟨rfl, rfl⟩)
          repeat walk_at "st"
          refine ite2 (fun _ => ?_) (fun _ => ⟨rfl, rfl⟩)
          repeat walk_at "st"
          exact k _ _ ⟨ns, spot + 1, _, upd_same, by rw [upd_ne hqp]; exact hq', hqp, hl, by omega, by omega⟩ (mv.trans Mv.here) (Int.emod_nonneg _ (by omega)) (Int.emod_lt_of_pos _ hm)
        · rintro σ'' H'' ⟨rfl, rfl⟩
          refine ⟨fun σ₂ H₂ => ∃ mixed : Int, σ₂ = [some (.ref p), some (.int m), some (.int spot), some (.int cell), some (.int mixed), none, none] ∧ 0 ≤ mixed ∧ mixed < 2147483648 ∧ H₂ = H'', ?_, ?_⟩
          · repeat walk_at "st"
            exact ⟨Int.emod_nonneg _ (by decide), Int.lt_trans (Int.emod_lt_of_pos _ (by decide)) (by decide), rfl⟩
          · rintro σ₂ H₂ ⟨mixed, rfl, m0, m1, rfl⟩
            have b1 : 0 ≤ mixed * (2 * spot + 103) := Int.mul_nonneg m0 (by omega)
            have b2 : mixed * (2 * spot + 103) ≤ 2147483648 * 300000 := Int.mul_le_mul (by omega) (by omega) (by omega) (by omega)
            have b3 : 0 ≤ 60030 * spot * spot := Int.mul_nonneg (by omega) h0
            have b4 : 60030 * spot * spot ≤ 6003000000 * 100000 := Int.mul_le_mul (by omega) (by omega) (by omega) (by omega)
            repeat walk_at "st"
            exact k _ _ (small _ mv hp' hq') mv (Int.emod_nonneg _ (by omega)) (Int.emod_lt_of_pos _ hm)
theorem sc_pick : FnScope ["_law_pen_here", "_law_some"] ["_law_pen_here", "_law_some"] (defScope s_pick) := ⟨rfl, rfl, rfl, by decide +kernel, rfl, by decide +kernel, by decide +kernel⟩
theorem ok_pick {f fD : Addr} {fd fdD : FuncData} (F : Fun K "_law_pick" "_law_pick" s_pick f fd) (T : Blt mg) (D : Fun K "_law_draw" "_law_draw" s_draw fD fdD) (gD : mg "_law_draw" = some (.ref fD)) (b_draw : L2.Binds K fdD ["_law_pen_here", "_law_many"] []) :
    FnOk P w K mg base CX0 2 f fd ["_law_pen_here", "_law_some"] (spPick K) := by
  have G_draw : FnOk P w K mg base CX0 1 fD fdD ["_law_pen_here", "_law_many"] spDraw := ok_draw D T
  refine F.ok sc_pick (fun vs H Q E h => ?_) (fun cdv A outer s H vs Q E hr h => ?_)
  · obtain ⟨n, p, q, l, xs, rfl, _⟩ := h
    rfl
  · obtain ⟨n, p, q, l, xs, rfl, hp, hn, hlp, hl, h0, h1, k⟩ := h
    refine ⟨_, (pss_one (ps_ret (pe_ix ix_list (pv 1) (pe_call G_draw (hr.mono (by decide)) rfl gD D.kp b_draw .nil pass0 (by exact (pa_cons (pv 0) (pa_cons (pe_callB call_len rfl T.z_len (by decide +kernel) (pa_cons (pv 1) pa_nil)) pa_nil)))) (fun _ _ => rfl)))), ?_⟩
    iterate 3 walk_at "st"
    refine ⟨_, _, rfl, .inl ⟨_, SqL.of hl, rfl⟩, n, p, q, _, rfl, hp, hn, by omega, small_log (by omega) (by omega), fun H' r hp' mv r0 r1 => ?_⟩
    obtain ⟨x, hx, ax⟩ := at_in r0 r1
    exact ⟨_, _, _, _, rfl, rfl, SqL.of (mv l _ hlp hl), ax, k H' x hp' mv hx⟩
end
section
variable {P : Program} {w : World} {K : PySem.W.Frag} {mg : Str → Option Value} {base : Heap}

abbrev s_rank_of : Stmt := topS 33
abbrev s_badI : Stmt := inClass (topS 3) 0
abbrev s_rested : Stmt := inClass (topS 29) 0
abbrev s_sized : Stmt := inClass (topS 30) 0
abbrev s_fixed : Stmt := inClass (topS 31) 0
abbrev s_down : Stmt := inClass (topS 32) 0
abbrev s_is_number : Stmt := topS 22
theorem sc_is_number : FnScope ["value", "least", "most"] ["value", "least", "most"] (defScope s_is_number) := ⟨rfl, rfl, rfl, by decide +kernel, rfl, by decide +kernel, by decide +kernel⟩
theorem ok_is_number {f : Addr} {fd : FuncData} (F : Fun K "is_number" "is_number" s_is_number f fd) (T : Blt mg) : FnOk P w K mg base CX0 1 f fd ["value", "least", "most"] spNum := by
  refine F.ok sc_is_number (fun vs H Q E h => ?_) (fun cdv A outer s H vs Q E hr h => ?_)
  · obtain ⟨x, lo, hi, rfl, _⟩ := h
    rfl
  · obtain ⟨x, lo, hi, rfl, kd, k⟩ := h
    obtain ⟨t, ty, k1, k2⟩ := kd.isInt (K := K)
    refine ⟨_, (pss_one (ps_ret (pe_and (pe_callB call_isi rfl T.z_isinstance (by decide +kernel) (pa_cons (pv 0) (pa_cons (pe_bltn (v := .ty "int") rfl T.z_int (by decide +kernel) rfl) pa_nil))) (pe_and (pe_not (pe_callB call_isi rfl T.z_isinstance (by decide +kernel) (pa_cons (pv 0) (pa_cons (pe_bltn (v := .ty "bool") rfl T.z_bool (by decide +kernel) rfl) pa_nil)))) (pe_one (pe_chain op_le op_le (pv 1) (pv 0) (pv 2))))))), ?_⟩
    refine ⟨_, rfl, _, _, _, _, _, rfl, .ty "int", ty, k1, _, rfl, ?_⟩
    refine ite2 (fun i1 => ?_) (fun i1 => ?_)
    · refine ⟨_, rfl, _, _, _, _, _, rfl, .ty "bool", ty, k2, _, rfl, _, rfl, ?_⟩
      refine ite2 (fun i2 => ?_) (fun i2 => ?_)
      · obtain ⟨i, rfl⟩ : ∃ i, x = V.int i := by
          cases x with
          | int i => exact ⟨i, rfl⟩
          | bl b => exact absurd i2 Bool.false_ne_true
          | _ => exact absurd i1 Bool.false_ne_true
        iterate 2 walk_at "st"
        refine ⟨_, _, rfl, rfl, _, rfl, ?_⟩
        refine ite2 (fun i3 => ?_) (fun i3 => ?_)
        · iterate 2 walk_at "st"
          have e : numV lo hi (.int i) = decide (i ≤ hi) := by
            show (decide (lo ≤ i) && decide (i ≤ hi)) = _
            rw [i3, Bool.true_and]
          show Q (.bl (decide (i ≤ hi))) _
          rw [← e]
          exact k
        · have e : numV lo hi (.int i) = false := by
            show (decide (lo ≤ i) && decide (i ≤ hi)) = _
            rw [Bool.eq_false_iff.mpr i3, Bool.false_and]
          rw [e] at k
          exact k
      · have e : numV lo hi x = false := by
          cases x with
          | int i => exact absurd rfl i2
          | _ => rfl
        rw [e] at k
        exact k
    · have e : numV lo hi x = false := by
        cases x with
        | int i => exact absurd rfl i1
        | _ => rfl
      rw [e] at k
      exact k
section
variable {CRl CB fB : Addr}
theorem sc_badI : FnScope ["self", "part"] ["self", "part"] (defScope s_badI) := ⟨rfl, rfl, rfl, by decide +kernel, rfl, by decide +kernel, by decide +kernel⟩
theorem ok_badI {f : Addr} {fd : FuncData} (F : Fun K "__init__" "BadRule.__init__" s_badI f fd) (T : PrgB K mg CRl CB fB) : FnOk P w K mg base CX0 1 f fd ["self", "part"] (spBadI CB) := by
  refine F.ok sc_badI (fun vs H Q E h => ?_) (fun cdv A outer s H vs Q E hr h => ?_)
  · obtain ⟨a, v, rfl, _⟩ := h
    rfl
  · obtain ⟨a, v, rfl, ha, k⟩ := h
    refine ⟨_, (pss_one (ps_ost (pv 0) (pv 1))), ?_⟩
    exact ⟨_, rfl, _, rfl, a, CB, rfl, T.oB, T.nPart, .inl ⟨ha, fun d n ne => k d n ne⟩⟩

theorem sc_rank_of : FnScope ["kind", "number", "modulus", "rest", "leave", "rank", "part"] ["kind", "number", "modulus", "rest", "leave"] (defScope s_rank_of) := ⟨rfl, rfl, rfl, by decide +kernel, rfl, by decide +kernel, by decide +kernel⟩
theorem ok_rank_of {f : Addr} {fd : FuncData} (F : Fun K "rank_of" "rank_of" s_rank_of f fd) (T : PrgB K mg CRl CB fB) : FnOk P w K mg base CX0 1 f fd ["kind", "number", "modulus", "rest", "leave"] spRank := by
  refine F.ok sc_rank_of (fun vs H Q E h => ?_) (fun cdv A outer s H vs Q E hr h => ?_)
  · obtain ⟨k, a, b, c, e, rfl, _⟩ := h
    rfl
  · obtain ⟨k, a, b, c, e, rfl, k0, k1, a0, a1, b0, b1, c0, c1, e0, e1, fin⟩ := h
    obtain ⟨u, most⟩ := T.most
    refine ⟨_, (pss_cons (ps_set (i := 5) sc_rank_of.nd rfl (Or.inl rfl) (pv 0))
  (pss_cons (ps_for PassesOwn.never rfl (pi_tup (pe_tup (pa_cons (pv 1) (pa_cons (pv 2) (pa_cons (pv 3) (pa_cons (pv 4) pa_nil)))))) (pg_name (i := 6) sc_rank_of.nd rfl (Or.inl rfl)) (pss_one (ps_set (i := 5) sc_rank_of.nd rfl (Or.inl rfl) (pe_op op_add (pe_op op_mul (pv 5) (pe_op op_add (ClX.pe_cval (pe_glob (v := .ref _) rfl T.g_Rule rfl)) pe_int)) (pv 6)))))
  (pss_one (ps_ret (pv 5))))), ?_⟩
    iterate 5 walk_at "st"
    refine ⟨by show 4 ≤ sizeLine; decide, fun t ht => ⟨t, rfl, ⟨_, SqT.of upd_same⟩, for_tup (K := K) (a := t) (xs := [.int a, .int b, .int c, .int e])
      (fun i σ H' => (∃ v : Option V, σ = [some (.int k), some (.int a), some (.int b), some (.int c), some (.int e), some (.int (match i with | 0 => k | 1 => k * 401 + a | 2 => (k * 401 + a) * 401 + b | 3 => ((k * 401 + a) * 401 + b) * 401 + c | _ => rankI k a b c e)), v]) ∧ H' = upd H t (.tup [.int a, .int b, .int c, .int e]))
      ⟨⟨_, rfl⟩, rfl⟩ (fun i σ H' _ q => by rw [q.2]; exact SqT.of upd_same) ?_ ?_⟩⟩
    · rintro i x σ H' hi ⟨⟨v, rfl⟩, rfl⟩
      match i, hi with
      | 0, hi =>
        cases hi
        refine ⟨_, rfl, _, _, _, _, rfl, T.rdRl, most, _, _, rfl, rfl, _, _, rfl, rfl, (show (_ < _ ∧ _ < _) ∨ (_ < _ ∧ _ < _) by omega), _, rfl, _, _, rfl, rfl, ⟨_, rfl⟩, rfl⟩
      | 1, hi =>
        cases hi
        refine ⟨_, rfl, _, _, _, _, rfl, T.rdRl, most, _, _, rfl, rfl, _, _, rfl, rfl, (show (_ < _ ∧ _ < _) ∨ (_ < _ ∧ _ < _) by omega), _, rfl, _, _, rfl, rfl, ⟨_, rfl⟩, rfl⟩
      | 2, hi =>
        cases hi
        refine ⟨_, rfl, _, _, _, _, rfl, T.rdRl, most, _, _, rfl, rfl, _, _, rfl, rfl, (show (_ < _ ∧ _ < _) ∨ (_ < _ ∧ _ < _) by omega), _, rfl, _, _, rfl, rfl, ⟨_, rfl⟩, rfl⟩
      | 3, hi =>
        cases hi
        refine ⟨_, rfl, _, _, _, _, rfl, T.rdRl, most, _, _, rfl, rfl, _, _, rfl, rfl, (show (_ < _ ∧ _ < _) ∨ (_ < _ ∧ _ < _) by omega), _, rfl, _, _, rfl, rfl, ⟨_, rfl⟩, rfl⟩
      | n + 4, hi => simp at hi
    · rintro σ H' ⟨⟨v, rfl⟩, rfl⟩
      exact ⟨_, rfl, fin _ fun b' o q => by rw [upd_ne (ne_of_none q ht)]; exact q⟩
theorem sc_rested : FnScope ["self", "rest", "modulus"] ["self", "rest", "modulus"] (defScope s_rested) := ⟨rfl, rfl, rfl, by decide +kernel, rfl, by decide +kernel, by decide +kernel⟩
theorem ok_rested {CI f fN : Addr} {fd fdN fdB : FuncData} (F : Fun K "__init__" "Rested.__init__" s_rested f fd) (U : Blt mg) (T : PrgB K mg CRl CB fB) (IC : InsC K CI) (N : Fun K "is_number" "is_number" s_is_number fN fdN) (gN : mg "is_number" = some (.ref fN)) (b_is_number : L2.Binds K fdN ["value", "least", "most"] [])
    (B : Fun K "__init__" "BadRule.__init__" s_badI fB fdB) (b_badI : L2.Binds K fdB ["self", "part"] []) : FnOk P w K mg base (L2.CX P w) 3 f fd ["self", "rest", "modulus"] (spRested CB CI) := by
  have G_is_number : FnOk P w K mg base CX0 1 fN fdN ["value", "least", "most"] spNum := ok_is_number N U
  have G_badI : FnOk P w K mg base CX0 1 fB fdB ["self", "part"] (spBadI CB) := ok_badI B T
  refine F.okX sc_rested (fun vs H Q E h => ?_) (fun cdv A outer s H vs Q E hr h => ?_)
  · obtain ⟨x, dx, fs, r, m, rfl, _⟩ := h
    rfl
  · obtain ⟨x, dx, fs, r, m, rfl, hx, hfs, kr, km, bad, fin⟩ := h
    obtain ⟨u, mostM⟩ := T.mostM
    refine ⟨_, (pss_cons (ps_if (pt_not (pt_val (pe_call G_is_number (hr.mono (by decide)) rfl gN N.kp b_is_number .nil pass0 (by exact (pa_cons (pv 2) (pa_cons pe_int (pa_cons (ClX.pe_cval (pe_glob (v := .ref _) rfl T.g_Rule rfl)) pa_nil))))))) (pss_one (ps_raise rfl (takes_of rfl rfl rfl rfl) (pmk_oex T.oB T.iB T.tB G_badI (hr.mono (by decide)) b_badI .nil pass0 rfl T.g_BadRule (by exact (pa_cons pe_str pa_nil))))) pss_nil)
  (pss_cons (ps_if (pt_not (pt_val (pe_call G_is_number (hr.mono (by decide)) rfl gN N.kp b_is_number .nil pass0 (by exact (pa_cons (pv 1) (pa_cons pe_int (pa_cons (pe_op op_sub (pv 2) pe_int) pa_nil))))))) (pss_one (ps_raise rfl (takes_of rfl rfl rfl rfl) (pmk_oex T.oB T.iB T.tB G_badI (hr.mono (by decide)) b_badI .nil pass0 rfl T.g_BadRule (by exact (pa_cons pe_str pa_nil))))) pss_nil)
  (pss_cons (ps_fld (pv 0) (pv 1) rfl)
  (pss_one (ps_fld (pv 0) (pv 2) rfl))))), ?_⟩
    refine ⟨_, rfl, _, _, _, _, rfl, T.rdRl, mostM, m, 1, 6, rfl, km, _, rfl, ?_⟩
    cases e1 : numV 1 6 m with
    | false =>
      refine iteT ?_
      have e : dueR r m = some "modulus" := by
        unfold dueR
        rw [e1]
        rfl
      exact bad_made (W := fun cls d _ H => E cls d H) (bad _ e) fun _ _ _ z => z
    | true =>
      refine iteF ?_
      obtain ⟨i, rfl, i0, i1⟩ := numV_is e1
      have e : dueR r (.int i) = if numV 0 (i - 1) r = true then none else some ("rest" : Str) := by
        unfold dueR
        rw [e1]
        rfl
      refine ⟨_, rfl, _, rfl, _, _, rfl, rfl, r, 0, i - 1, rfl, kr, _, rfl, ?_⟩
      cases e2 : numV 0 (i - 1) r with
      | false =>
        refine iteT ?_
        exact bad_made (W := fun cls d _ H => E cls d H) (bad _ (by rw [e, e2]; rfl)) fun _ _ _ z => z
      | true =>
        refine iteF ?_
        refine ⟨_, rfl, _, rfl, x, CI, dx, fs, rfl, hx, IC.cl, IC.nRest, by omega, ?_⟩
        have hl := length_putF "rest" r fs
        refine ⟨_, rfl, _, rfl, x, CI, dx, _, rfl, upd_same, IC.cl, IC.nModulus, by omega, ?_⟩
        have z := fin (by rw [e, e2]; rfl)
        rw [upd_upd]
        exact z
theorem sc_sized : FnScope ["self", "size", "leave"] ["self", "size", "leave"] (defScope s_sized) := ⟨rfl, rfl, rfl, by decide +kernel, rfl, by decide +kernel, by decide +kernel⟩
theorem ok_sized {CI f fN : Addr} {fd fdN fdB : FuncData} (F : Fun K "__init__" "Sized.__init__" s_sized f fd) (U : Blt mg) (T : PrgB K mg CRl CB fB) (IC : InsC K CI) (N : Fun K "is_number" "is_number" s_is_number fN fdN) (gN : mg "is_number" = some (.ref fN)) (b_is_number : L2.Binds K fdN ["value", "least", "most"] [])
    (B : Fun K "__init__" "BadRule.__init__" s_badI fB fdB) (b_badI : L2.Binds K fdB ["self", "part"] []) : FnOk P w K mg base (L2.CX P w) 3 f fd ["self", "size", "leave"] (spSized CB CI) := by
  have G_is_number : FnOk P w K mg base CX0 1 fN fdN ["value", "least", "most"] spNum := ok_is_number N U
  have G_badI : FnOk P w K mg base CX0 1 fB fdB ["self", "part"] (spBadI CB) := ok_badI B T
  refine F.okX sc_sized (fun vs H Q E h => ?_) (fun cdv A outer s H vs Q E hr h => ?_)
  · obtain ⟨x, dx, fs, r, m, rfl, _⟩ := h
    rfl
  · obtain ⟨x, dx, fs, z, l, rfl, hx, hfs, kz, kl, bad, fin⟩ := h
    obtain ⟨u, most⟩ := T.most
    refine ⟨_, (pss_cons (ps_if (pt_not (pt_val (pe_call G_is_number (hr.mono (by decide)) rfl gN N.kp b_is_number .nil pass0 (by exact (pa_cons (pv 1) (pa_cons pe_int (pa_cons (ClX.pe_cval (pe_glob (v := .ref _) rfl T.g_Rule rfl)) pa_nil))))))) (pss_one (ps_raise rfl (takes_of rfl rfl rfl rfl) (pmk_oex T.oB T.iB T.tB G_badI (hr.mono (by decide)) b_badI .nil pass0 rfl T.g_BadRule (by exact (pa_cons pe_str pa_nil))))) pss_nil)
  (pss_cons (ps_if (pt_not (pt_val (pe_call G_is_number (hr.mono (by decide)) rfl gN N.kp b_is_number .nil pass0 (by exact (pa_cons (pv 2) (pa_cons pe_int (pa_cons (ClX.pe_cval (pe_glob (v := .ref _) rfl T.g_Rule rfl)) pa_nil))))))) (pss_one (ps_raise rfl (takes_of rfl rfl rfl rfl) (pmk_oex T.oB T.iB T.tB G_badI (hr.mono (by decide)) b_badI .nil pass0 rfl T.g_BadRule (by exact (pa_cons pe_str pa_nil))))) pss_nil)
  (pss_cons (ps_fld (pv 0) (pv 1) rfl)
  (pss_one (ps_fld (pv 0) (pv 2) rfl))))), ?_⟩
    refine ⟨_, rfl, _, _, _, _, rfl, T.rdRl, most, z, 1, 400, rfl, kz, _, rfl, ?_⟩
    cases e1 : numV 1 400 z with
    | false =>
      refine iteT ?_
      exact bad_made (W := fun cls d _ H => E cls d H) (bad _ (by unfold dueS; rw [e1]; rfl)) fun _ _ _ z => z
    | true =>
      refine iteF ?_
      refine ⟨_, rfl, _, _, _, _, rfl, T.rdRl, most, l, 0, 400, rfl, kl, _, rfl, ?_⟩
      cases e2 : numV 0 400 l with
      | false =>
        refine iteT ?_
        exact bad_made (W := fun cls d _ H => E cls d H) (bad _ (by unfold dueS; rw [e1, e2]; rfl)) fun _ _ _ z => z
      | true =>
        refine iteF ?_
        refine ⟨_, rfl, _, rfl, x, CI, dx, fs, rfl, hx, IC.cl, IC.nSize, by omega, ?_⟩
        have hl := length_putF "size" z fs
        refine ⟨_, rfl, _, rfl, x, CI, dx, _, rfl, upd_same, IC.cl, IC.nLeave, by omega, ?_⟩
        have q := fin (by unfold dueS; rw [e1, e2]; rfl)
        rw [upd_upd]
        exact q
abbrev FunDown (K : PySem.W.Frag) (f : Addr) (fd : FuncData) : Prop := FunD K "__init__" "Down.__init__" (defArgs s_down) (defBody s_down) (defScope s_down) [.int 0, .int 1] [] f fd
abbrev FunFixed (K : PySem.W.Frag) (f : Addr) (fd : FuncData) : Prop := FunD K "__init__" "Fixed.__init__" (defArgs s_fixed) (defBody s_fixed) (defScope s_fixed) [.int 0, .int 1, .int 0] [] f fd
theorem sc_down : FnScope ["self", "to", "rest", "modulus"] ["self", "to", "rest", "modulus"] (defScope s_down) := ⟨rfl, rfl, rfl, by decide +kernel, rfl, by decide +kernel, by decide +kernel⟩
theorem ok_down {CI CRs f fN fK fRs : Addr} {fd fdN fdB fdRs fdK : FuncData} (F : FunDown K f fd) (U : Blt mg) (T : PrgB K mg CRl CB fB) (IC : InsC K CI) (N : Fun K "is_number" "is_number" s_is_number fN fdN) (gN : mg "is_number" = some (.ref fN)) (b_is_number : L2.Binds K fdN ["value", "least", "most"] [])
    (B : Fun K "__init__" "BadRule.__init__" s_badI fB fdB) (b_badI : L2.Binds K fdB ["self", "part"] [])
    (Rs : Fun K "__init__" "Rested.__init__" s_rested fRs fdRs) (b_rested : L2.Binds K fdRs ["self", "rest", "modulus"] []) (gRs : mg "Rested" = some (.ref CRs)) (BRs : BaseC K CRs fRs)
    (RK : Fun K "rank_of" "rank_of" s_rank_of fK fdK) (gK : mg "rank_of" = some (.ref fK)) (b_rank_of : L2.Binds K fdK ["kind", "number", "modulus", "rest", "leave"] []) : FnOk P w K mg base (L2.CX P w) 5 f fd ["self", "to", "rest", "modulus"] (spDown CB CI) := by
  have G_is_number : FnOk P w K mg base CX0 1 fN fdN ["value", "least", "most"] spNum := ok_is_number N U
  have G_badI : FnOk P w K mg base CX0 1 fB fdB ["self", "part"] (spBadI CB) := ok_badI B T
  have G_rank_of : FnOk P w K mg base CX0 1 fK fdK ["kind", "number", "modulus", "rest", "leave"] spRank := ok_rank_of RK T
  have G_rested : FnOk P w K mg base (L2.CX P w) 3 fRs fdRs ["self", "rest", "modulus"] (spRested CB CI) := ok_rested Rs U T IC N gN b_is_number B b_badI
  refine F.ok (k := 4) sc_down (fun vs H Q E h => ?_) (fun cdv A outer s H vs Q E hr h => ?_)
  · obtain ⟨x, dx, t, r, m, rfl, _⟩ := h
    rfl
  · obtain ⟨x, dx, t, r, m, rfl, hx, kt, kr, km, bad, fin⟩ := h
    obtain ⟨u, most⟩ := T.most
    refine ⟨_, (pss_cons (ps_if (pt_not (pt_val (pe_call G_is_number (hr.mono (by decide)) rfl gN N.kp b_is_number .nil pass0 (by exact (pa_cons (pv 1) (pa_cons pe_int (pa_cons (ClX.pe_cval (pe_glob (v := .ref _) rfl T.g_Rule rfl)) pa_nil))))))) (pss_one (ps_raise rfl (takes_of rfl rfl rfl rfl) (pmk_oex T.oB T.iB T.tB G_badI (hr.mono (by decide)) b_badI .nil pass0 rfl T.g_BadRule (by exact (pa_cons pe_str pa_nil))))) pss_nil)
  (pss_cons (ps_expr (pe_clsFn (pe_glob (v := .ref _) rfl gRs rfl) BRs.rd BRs.fn G_rested (hr.mono (by decide)) Rs.kp b_rested .nil (passes_call (takes_of rfl rfl rfl rfl) (fun _ _ _ _ h => h)) (by exact (pa_cons (pv 0) (pa_cons (pv 2) (pa_cons (pv 3) pa_nil))))))
  (pss_cons (ps_fld (pv 0) (pv 1) rfl)
  (pss_cons (ps_fld (pv 0) (pe_op op_add (pv 1) pe_int) rfl)
  (pss_one (ps_fld (pv 0) (pe_call G_rank_of (hr.mono (by decide)) rfl gK RK.kp b_rank_of .nil pass0 (by exact (pa_cons pe_int (pa_cons (pv 1) (pa_cons (pv 3) (pa_cons (pv 2) (pa_cons pe_int pa_nil))))))) rfl)))))), ?_⟩
    refine ⟨_, rfl, _, _, _, _, rfl, T.rdRl, most, t, 0, 400, rfl, kt, _, rfl, ?_⟩
    cases e1 : numV 0 400 t with
    | false =>
      refine iteT ?_
      exact bad_made (W := fun cls d _ H => E cls d H) (bad _ (by unfold dueD; rw [e1]; rfl)) fun _ _ _ z => z
    | true =>
      refine iteF ?_
      have e : dueD t r m = dueR r m := by
        unfold dueD
        rw [e1]
        rfl
      obtain ⟨ti, rfl, t0, t1⟩ := numV_is e1
      refine ⟨rfl, _, rfl, _, rfl, _, rfl, x, dx, [], r, m, rfl, hx, (by decide), kr, km, fun z hz => bad z (e.trans hz), fun hz => ?_⟩
      obtain ⟨mi, rfl, m0, m1⟩ : ∃ mi, m = .int mi ∧ 1 ≤ mi ∧ mi ≤ 6 := by
        cases e2 : numV 1 6 m with
        | true => exact numV_is e2
        | false =>
          unfold dueR at hz
          rw [e2] at hz
          cases hz
      obtain ⟨ri, rfl, r0, r1⟩ : ∃ ri, r = .int ri ∧ 0 ≤ ri ∧ ri ≤ mi - 1 := by
        cases e2 : numV 0 (mi - 1) r with
        | true => exact numV_is e2
        | false =>
          have z2 : dueR r (.int mi) = some "rest" := by
            unfold dueR
            have e3 : numV 1 6 (.int mi) = true := by
              show (decide (1 ≤ mi) && decide (mi ≤ 6)) = true
              rw [decide_eq_true m0, decide_eq_true m1] <;> rfl
            rw [e3]
            show (if numV 0 (mi - 1) r = true then none else some _) = some _
            rw [e2]
            rfl
          rw [z2] at hz
          cases hz
      refine ⟨_, rfl, _, rfl, x, CI, dx, _, rfl, upd_same, IC.cl, IC.nTo, (by show 2 < 1000; decide), ?_⟩
      refine ⟨_, rfl, _, _, rfl, rfl, _, rfl, x, CI, dx, _, rfl, upd_same, IC.cl, IC.nStart, (by show 3 < 1000; decide), ?_⟩
      refine ⟨_, rfl, _, rfl, _, rfl, 1, ti, mi, ri, 0, rfl, by omega, by omega, t0, t1, by omega, by omega, r0, by omega, by omega, by omega, fun H2 s2 => ?_⟩
      refine ⟨_, rfl, x, CI, dx, _, rfl, s2 _ _ upd_same, IC.cl, IC.nRank, (by show 4 < 1000; decide), ?_⟩
      refine fin ti ri mi _ rfl rfl rfl (e.trans hz) (fun b o nb q => ?_) upd_same
      rw [upd_ne nb]
      refine s2 b o ?_
      rw [upd_ne nb, upd_ne nb, upd_ne nb]
      exact q
theorem sc_fixed : FnScope ["self", "size", "rest", "modulus", "leave"] ["self", "size", "rest", "modulus", "leave"] (defScope s_fixed) := ⟨rfl, rfl, rfl, by decide +kernel, rfl, by decide +kernel, by decide +kernel⟩
theorem ok_fixed {CI CRs CSz f fN fK fRs fSz : Addr} {fd fdN fdB fdRs fdK fdSz : FuncData} (F : FunFixed K f fd) (U : Blt mg) (T : PrgB K mg CRl CB fB) (IC : InsC K CI) (N : Fun K "is_number" "is_number" s_is_number fN fdN) (gN : mg "is_number" = some (.ref fN)) (b_is_number : L2.Binds K fdN ["value", "least", "most"] [])
    (B : Fun K "__init__" "BadRule.__init__" s_badI fB fdB) (b_badI : L2.Binds K fdB ["self", "part"] [])
    (Rs : Fun K "__init__" "Rested.__init__" s_rested fRs fdRs) (b_rested : L2.Binds K fdRs ["self", "rest", "modulus"] []) (gRs : mg "Rested" = some (.ref CRs)) (BRs : BaseC K CRs fRs)
    (RK : Fun K "rank_of" "rank_of" s_rank_of fK fdK) (gK : mg "rank_of" = some (.ref fK)) (b_rank_of : L2.Binds K fdK ["kind", "number", "modulus", "rest", "leave"] [])
    (Sz : Fun K "__init__" "Sized.__init__" s_sized fSz fdSz) (b_sized : L2.Binds K fdSz ["self", "size", "leave"] []) (gSz : mg "Sized" = some (.ref CSz)) (BSz : BaseC K CSz fSz) : FnOk P w K mg base (L2.CX P w) 5 f fd ["self", "size", "rest", "modulus", "leave"] (spFixed CB CI) := by
  have G_is_number : FnOk P w K mg base CX0 1 fN fdN ["value", "least", "most"] spNum := ok_is_number N U
  have G_badI : FnOk P w K mg base CX0 1 fB fdB ["self", "part"] (spBadI CB) := ok_badI B T
  have G_rank_of : FnOk P w K mg base CX0 1 fK fdK ["kind", "number", "modulus", "rest", "leave"] spRank := ok_rank_of RK T
  have G_rested : FnOk P w K mg base (L2.CX P w) 3 fRs fdRs ["self", "rest", "modulus"] (spRested CB CI) := ok_rested Rs U T IC N gN b_is_number B b_badI
  have G_sized : FnOk P w K mg base (L2.CX P w) 3 fSz fdSz ["self", "size", "leave"] (spSized CB CI) := ok_sized Sz U T IC N gN b_is_number B b_badI
  refine F.ok (k := 4) sc_fixed (fun vs H Q E h => ?_) (fun cdv A outer s H vs Q E hr h => ?_)
  · obtain ⟨x, dx, t, r, m, l, rfl, _⟩ := h
    rfl
  · obtain ⟨x, dx, z, r, m, l, rfl, hx, kz, kr, km, kl, bad, fin⟩ := h
    refine ⟨_, (pss_cons (ps_expr (pe_clsFn (pe_glob (v := .ref _) rfl gSz rfl) BSz.rd BSz.fn G_sized (hr.mono (by decide)) Sz.kp b_sized .nil (passes_call (takes_of rfl rfl rfl rfl) (fun _ _ _ _ h => h)) (by exact (pa_cons (pv 0) (pa_cons (pv 1) (pa_cons (pv 4) pa_nil))))))
  (pss_cons (ps_expr (pe_clsFn (pe_glob (v := .ref _) rfl gRs rfl) BRs.rd BRs.fn G_rested (hr.mono (by decide)) Rs.kp b_rested .nil (passes_call (takes_of rfl rfl rfl rfl) (fun _ _ _ _ h => h)) (by exact (pa_cons (pv 0) (pa_cons (pv 2) (pa_cons (pv 3) pa_nil))))))
  (pss_cons (ps_fld (pv 0) (pe_op op_add (pv 1) (pv 4)) rfl)
  (pss_one (ps_fld (pv 0) (pe_call G_rank_of (hr.mono (by decide)) rfl gK RK.kp b_rank_of .nil pass0 (by exact (pa_cons pe_int (pa_cons (pv 1) (pa_cons (pv 3) (pa_cons (pv 2) (pa_cons (pv 4) pa_nil))))))) rfl))))), ?_⟩
    refine ⟨rfl, _, rfl, _, rfl, _, rfl, x, dx, [], z, l, rfl, hx, (by decide), kz, kl, fun y hy => bad y _ (by unfold dueF; rw [hy]) (Mv.refl _ _), fun h1 => ?_⟩
    have kd : ∀ {v : V} {o : HO}, Kd H v → H x = some o → (∀ a, v = .ref a → a ≠ x) → ∀ {u : HO}, Kd (upd H x u) v := fun h _ n => h.keep fun a o e q => by rw [upd_ne (n a e)]; exact q
    have apart : ∀ {v : V}, Kd H v → ∀ a, v = .ref a → a ≠ x := fun {v} h a e z => by
      subst e
      rw [z] at h
      rcases h with ⟨_, h⟩ | ⟨_, h⟩ | ⟨_, h⟩ <;> (rw [hx] at h; cases h)
    refine ⟨rfl, _, rfl, _, rfl, _, rfl, x, dx, _, r, m, rfl, upd_same, (by show 2 < 900; decide), kd kr hx (apart kr), kd km hx (apart km), fun y hy => bad y _ (by unfold dueF; rw [h1]; exact hy) Mv.here, fun h2 => ?_⟩
    have e : dueF z r m l = none := by unfold dueF; rw [h1]; exact h2
    obtain ⟨zi, li, rfl, rfl, z0, z1, l0, l1⟩ := dueS_none h1
    obtain ⟨ri, mi, rfl, rfl, r0, r1, m0, m1⟩ := dueR_none h2
    refine ⟨_, rfl, _, rfl, _, _, rfl, rfl, _, rfl, x, CI, dx, _, rfl, upd_same, IC.cl, IC.nStart, (by show 4 < 1000; decide), ?_⟩
    refine ⟨_, rfl, _, rfl, _, rfl, _, rfl, 0, zi, mi, ri, li, rfl, by omega, by omega, by omega, by omega, by omega, by omega, r0, by omega, l0, l1, fun H2 s2 => ?_⟩
    refine ⟨_, rfl, x, CI, dx, _, rfl, s2 _ _ upd_same, IC.cl, IC.nRank, (by show 5 < 1000; decide), ?_⟩
    refine fin zi ri mi li _ rfl rfl rfl rfl e (fun b o nb q => ?_) upd_same
    rw [upd_ne nb]
    refine s2 b o ?_
    rw [upd_ne nb, upd_ne nb, upd_ne nb]
    exact q
end
end
/-! ### how Fixed's parts are bound -/
section
variable {K : PySem.W.Frag} {f : Addr} {fd : FuncData}
abbrev pFx : List Str := ["self", "size", "rest", "modulus", "leave"]
theorem bf_all (F : FunFixed K f fd) : L2.Binds K fd pFx [] := by
  obtain ⟨ds, r, b⟩ := F.binds1 (ps := pFx) 5 3 (by simp) rfl (fun T kV doc pm an cdv ct us its l1 l2 => match us, l1, its, l2 with | [_, _, _, _, _], _, [_, _, _], _ => ⟨_, rfl, rfl⟩)
  cases r
  exact b
theorem bf_one (F : FunFixed K f fd) : ∃ ds, Vals [V.int 0, V.int 1, V.int 0] ds ∧ L2.Binds K fd pFx ds :=
  F.binds1 (ps := pFx) 2 0 (by simp) rfl (fun T kV doc pm an cdv ct us its l1 l2 => match us, l1, its, l2 with | [_, _], _, [_, _, _], _ => ⟨_, rfl, rfl⟩)
theorem bf_two (F : FunFixed K f fd) : ∃ ds, Vals [V.int 1, V.int 0] ds ∧ L2.Binds K fd pFx ds :=
  F.binds1 (ps := pFx) 3 1 (by simp) rfl (fun T kV doc pm an cdv ct us its l1 l2 => match us, l1, its, l2 with | [_, _, _], _, [_, _, _], _ => ⟨_, rfl, rfl⟩)
theorem bf_key (F : FunFixed K f fd) : ∃ its : List Value, KBn K fd pFx 1 ["leave", "modulus", "rest", "size"] (fun us ws => us ++ ws.reverse) (fun vs zs => vs ++ zs.reverse) := by
  obtain ⟨its, b⟩ := F.kbindsD (ps := pFx) 1 ["leave", "modulus", "rest", "size"] (fun us _ ws => us ++ ws.reverse) (by simp) (fun r1 _ r3 => r1.append r3.reverse)
    (fun T kV doc pm an cdv ct us its ws l1 l2 l3 => match us, l1, its, l2, ws, l3 with | [_], _, [_, _, _], _, [_, _, _, _], _ => ⟨_, rfl, rfl⟩)
  exact ⟨its, b⟩
theorem bf_sm (F : FunFixed K f fd) : ∃ its : List Value, KBn K fd pFx 1 ["size", "modulus"] (fun us ws => us ++ ws.take 1 ++ its.take 1 ++ ws.drop 1 ++ its.drop 2) (fun vs zs => vs ++ zs.take 1 ++ [V.int 0, V.int 1, V.int 0].take 1 ++ zs.drop 1 ++ [V.int 0, V.int 1, V.int 0].drop 2) :=
  F.kbindsD (ps := pFx) 1 ["size", "modulus"] (fun us ds ws => us ++ ws.take 1 ++ ds.take 1 ++ ws.drop 1 ++ ds.drop 2) (by simp) (fun r1 r2 r3 => (((r1.append (r3.take 1)).append (r2.take 1)).append (r3.drop 1)).append (r2.drop 2))
    (fun T kV doc pm an cdv ct us its ws l1 l2 l3 => match us, l1, its, l2, ws, l3 with | [_], _, [_, _, _], _, [_, _], _ => ⟨_, rfl, rfl⟩)
theorem bf_leave (F : FunFixed K f fd) : ∃ its : List Value, KBn K fd pFx 2 ["leave"] (fun us ws => us ++ its.take 2 ++ ws) (fun vs zs => vs ++ [V.int 0, V.int 1, V.int 0].take 2 ++ zs) :=
  F.kbindsD (ps := pFx) 2 ["leave"] (fun us ds ws => us ++ ds.take 2 ++ ws) (by simp) (fun r1 r2 r3 => (r1.append (r2.take 2)).append r3)
    (fun T kV doc pm an cdv ct us its ws l1 l2 l3 => match us, l1, its, l2, ws, l3 with | [_, _], _, [_, _, _], _, [_], _ => ⟨_, rfl, rfl⟩)
end
/-! ### how Down's parts are bound -/
section
variable {K : PySem.W.Frag} {f : Addr} {fd : FuncData}
theorem bd_all (F : FunDown K f fd) : L2.Binds K fd ["self", "to", "rest", "modulus"] [] := by
  obtain ⟨ds, r, b⟩ := F.binds1 (ps := ["self", "to", "rest", "modulus"]) 4 2 (by simp) rfl (fun T kV doc pm an cdv ct us its l1 l2 => match us, l1, its, l2 with | [_, _, _, _], _, [_, _], _ => ⟨_, rfl, rfl⟩)
  cases r
  exact b
theorem bd_one (F : FunDown K f fd) : ∃ ds, Vals [V.int 0, V.int 1] ds ∧ L2.Binds K fd ["self", "to", "rest", "modulus"] ds :=
  F.binds1 (ps := ["self", "to", "rest", "modulus"]) 2 0 (by simp) rfl (fun T kV doc pm an cdv ct us its l1 l2 => match us, l1, its, l2 with | [_, _], _, [_, _], _ => ⟨_, rfl, rfl⟩)
theorem bd_key (F : FunDown K f fd) : ∃ its : List Value, KBn K fd ["self", "to", "rest", "modulus"] 1 ["modulus", "rest", "to"] (fun us ws => us ++ ws.reverse) (fun vs zs => vs ++ zs.reverse) := by
  obtain ⟨its, b⟩ := F.kbindsD (ps := ["self", "to", "rest", "modulus"]) 1 ["modulus", "rest", "to"] (fun us _ ws => us ++ ws.reverse) (by simp) (fun r1 _ r3 => r1.append r3.reverse)
    (fun T kV doc pm an cdv ct us its ws l1 l2 l3 => match us, l1, its, l2, ws, l3 with | [_], _, [_, _], _, [_, _, _], _ => ⟨_, rfl, rfl⟩)
  exact ⟨its, b⟩
theorem bd_mod (F : FunDown K f fd) : ∃ its : List Value, KBn K fd ["self", "to", "rest", "modulus"] 2 ["modulus"] (fun us ws => us ++ its.take 1 ++ ws) (fun vs zs => vs ++ [V.int 0, V.int 1].take 1 ++ zs) :=
  F.kbindsD (ps := ["self", "to", "rest", "modulus"]) 2 ["modulus"] (fun us ds ws => us ++ ds.take 1 ++ ws) (by simp) (fun r1 r2 r3 => (r1.append (r2.take 1)).append r3)
    (fun T kV doc pm an cdv ct us its ws l1 l2 l3 => match us, l1, its, l2, ws, l3 with | [_, _], _, [_, _], _, [_], _ => ⟨_, rfl, rfl⟩)
end

section
variable {P : Program} {w : World} {K : PySem.W.Frag} {mg : Str → Option Value} {base : Heap}

abbrev s_eqF : Stmt := inClass (topS 31) 1
theorem sc_eqF : FnScope ["self", "other"] ["self", "other"] (defScope s_eqF) := ⟨rfl, rfl, rfl, by decide +kernel, rfl, by decide +kernel, by decide +kernel⟩
theorem ok_eqF {C f : Addr} {fd : FuncData} (F : Fun K "__eq__" "Fixed.__eq__" s_eqF f fd) (U : Blt mg) (gC : mg "Fixed" = some (.ref C)) (IC : InsC K C) (ty : TyC K C) (self_ : PySem.W.kitOne K (.ref C) (.ref C) = some true) : FnOk P w K mg base CX0 1 f fd ["self", "other"] (spEqR K C) := by
  refine F.ok sc_eqF (fun vs H Q E h => ?_) (fun cdv A outer s H vs Q E hr h => ?_)
  · obtain ⟨a, dx, fs, k, y, rfl, _⟩ := h
    rfl
  · obtain ⟨a, dx, fs, k, y, rfl, ha, rk, how⟩ := h
    refine ⟨_, (pss_one (ps_ret (pe_and (pe_callB call_isi rfl U.z_isinstance (by decide +kernel) (pa_cons (pv 1) (pa_cons (pe_glob (v := .ref _) rfl gC rfl) pa_nil))) (pe_one (pe_cmpR op_eq (pe_fld (pv 0) rfl) (pe_fld (pv 1) rfl) (nomark _)))))), ?_⟩
    rcases how with ⟨b, dy, gs, j, rfl, hb, rj, fin⟩ | ⟨t, tyx, no, fin⟩
    · refine ⟨_, rfl, _, _, _, _, _, rfl, .own C, ty.ty IC.cl hb, self_, _, rfl, iteT ?_⟩
      exact ⟨_, rfl, a, C, dx, fs, _, rfl, ha, IC.cl, IC.nRank, rk, _, rfl, b, C, dy, gs, _, rfl, hb, IC.cl, IC.nRank, rj, rfl, by
        rw [show decide ((V.int k) = V.int j) = decide (k = j) from by by_cases z : k = j <;> simp [z]]
        exact fin⟩
    · exact ⟨_, rfl, _, _, _, _, _, rfl, .own C, tyx, no, _, rfl, iteF fin⟩
abbrev s_eqD : Stmt := inClass (topS 32) 1
theorem sc_eqD : FnScope ["self", "other"] ["self", "other"] (defScope s_eqD) := ⟨rfl, rfl, rfl, by decide +kernel, rfl, by decide +kernel, by decide +kernel⟩
theorem ok_eqD {C f : Addr} {fd : FuncData} (F : Fun K "__eq__" "Down.__eq__" s_eqD f fd) (U : Blt mg) (gC : mg "Down" = some (.ref C)) (IC : InsC K C) (ty : TyC K C) (self_ : PySem.W.kitOne K (.ref C) (.ref C) = some true) : FnOk P w K mg base CX0 1 f fd ["self", "other"] (spEqR K C) := by
  refine F.ok sc_eqD (fun vs H Q E h => ?_) (fun cdv A outer s H vs Q E hr h => ?_)
  · obtain ⟨a, dx, fs, k, y, rfl, _⟩ := h
    rfl
  · obtain ⟨a, dx, fs, k, y, rfl, ha, rk, how⟩ := h
    refine ⟨_, (pss_one (ps_ret (pe_and (pe_callB call_isi rfl U.z_isinstance (by decide +kernel) (pa_cons (pv 1) (pa_cons (pe_glob (v := .ref _) rfl gC rfl) pa_nil))) (pe_one (pe_cmpR op_eq (pe_fld (pv 0) rfl) (pe_fld (pv 1) rfl) (nomark _)))))), ?_⟩
    rcases how with ⟨b, dy, gs, j, rfl, hb, rj, fin⟩ | ⟨t, tyx, no, fin⟩
    · refine ⟨_, rfl, _, _, _, _, _, rfl, .own C, ty.ty IC.cl hb, self_, _, rfl, iteT ?_⟩
      exact ⟨_, rfl, a, C, dx, fs, _, rfl, ha, IC.cl, IC.nRank, rk, _, rfl, b, C, dy, gs, _, rfl, hb, IC.cl, IC.nRank, rj, rfl, by
        rw [show decide ((V.int k) = V.int j) = decide (k = j) from by by_cases z : k = j <;> simp [z]]
        exact fin⟩
    · exact ⟨_, rfl, _, _, _, _, _, rfl, .own C, tyx, no, _, rfl, iteF fin⟩
end
end Fz
set_option Elab.async false
set_option linter.all false
set_option maxRecDepth 100000
set_option maxHeartbeats 2000000
namespace Fz
open PySem PySem.Spec PyProof.Rows L2
/-- one step of a reading -/
local macro_rules | `(tactic| walk_at "st") => `(tactic| first
  | refine ⟨_, rfl, ?_⟩
  | refine Or.inl ⟨_, rfl, ?_⟩
  | refine Or.inr ⟨_, rfl, ?_⟩
  | refine ⟨_, _, _, _, rfl, rfl, SqL.of (by first | assumption | exact upd_same), rfl, ?_⟩
  | refine ⟨_, _, _, _, rfl, rfl, (by first | assumption | exact upd_same), rfl, ?_⟩
  | refine ⟨_, _, rfl, .inl ⟨_, SqL.of (by first | assumption | exact upd_same), rfl⟩, ?_⟩
  | refine ⟨_, _, rfl, rfl, (show (0 : Int) < _ by first | decide | omega), ?_⟩
  | refine ⟨_, _, rfl, rfl, (show (0 : Int) < _ ∧ _ < _ by first | exact ⟨by decide, by decide⟩ | omega), ?_⟩
  | refine ⟨_, _, rfl, rfl, (show (_ < _ ∧ _ < _) ∨ (_ < _ ∧ _ < _) by first | exact .inl ⟨by decide, by decide⟩ | omega), ?_⟩
  | refine ⟨_, _, rfl, rfl, (show (0 : Int) ≤ _ ∧ _ ≤ _ ∧ _ < _ by first | exact ⟨by decide, by decide, by decide⟩ | exact ⟨by decide, by decide, by omega⟩), ?_⟩
  | refine ⟨_, _, rfl, rfl, ?_⟩)

/-- an error class of the fields fs, made by the def at g -/
structure ErC (K : PySem.W.Frag) (C g : Addr) (fs : List Str) : Prop where
  oB : OexC K C
  nF : ∀ f ∈ fs, PySem.W.findIn K (.ref C) f = some none
  iB : PySem.W.findIn K (.ref C) "__init__" = some (some (.ref g))
  tB : PySem.W.typeIn K (.ref g) = some (.type "function")
def spErr2 (C : Addr) (f g : Str) : Sp := fun vs H Q _ => ∃ (a : Addr) (x y : V), vs = [.ref a, x, y] ∧ H a = some (exo a C none) ∧ ∀ d, H d = none → d ≠ a → Q .non (upd (upd (upd H d (exd d [(f, x)])) a (exo a C (some d))) d (exd d [(g, y), (f, x)]))
section
variable {P : Program} {w : World} {K : PySem.W.Frag} {mg : Str → Option Value} {base : Heap}

abbrev s_eBadRule : Stmt := inClass (topS 3) 0
theorem sc_eBadRule : FnScope ["self", "part"] ["self", "part"] (defScope s_eBadRule) := ⟨rfl, rfl, rfl, by decide +kernel, rfl, by decide +kernel, by decide +kernel⟩
theorem ok_eBadRule {f C : Addr} {fd : FuncData} (F : Fun K "__init__" "BadRule.__init__" s_eBadRule f fd) (T : ErC K C f ["part"]) : FnOk P w K mg base CX0 1 f fd ["self", "part"] (spErrI C "part") := by
  refine F.ok sc_eBadRule (fun vs H Q E h => ?_) (fun cdv A outer s H vs Q E hr h => ?_)
  · obtain ⟨a, v, rfl, _⟩ := h
    rfl
  · obtain ⟨a, v, rfl, ha, k⟩ := h
    refine ⟨_, (pss_one (ps_ost (pv 0) (pv 1))), ?_⟩
    exact ⟨_, rfl, _, rfl, a, C, rfl, T.oB, T.nF _ (by simp), .inl ⟨ha, fun d n ne => k d n ne⟩⟩
abbrev s_eBadBook : Stmt := inClass (topS 4) 0
theorem sc_eBadBook : FnScope ["self", "at"] ["self", "at"] (defScope s_eBadBook) := ⟨rfl, rfl, rfl, by decide +kernel, rfl, by decide +kernel, by decide +kernel⟩
theorem ok_eBadBook {f C : Addr} {fd : FuncData} (F : Fun K "__init__" "BadBook.__init__" s_eBadBook f fd) (T : ErC K C f ["at"]) : FnOk P w K mg base CX0 1 f fd ["self", "at"] (spErrI C "at") := by
  refine F.ok sc_eBadBook (fun vs H Q E h => ?_) (fun cdv A outer s H vs Q E hr h => ?_)
  · obtain ⟨a, v, rfl, _⟩ := h
    rfl
  · obtain ⟨a, v, rfl, ha, k⟩ := h
    refine ⟨_, (pss_one (ps_ost (pv 0) (pv 1))), ?_⟩
    exact ⟨_, rfl, _, rfl, a, C, rfl, T.oB, T.nF _ (by simp), .inl ⟨ha, fun d n ne => k d n ne⟩⟩
abbrev s_eBadSize : Stmt := inClass (topS 5) 0
theorem sc_eBadSize : FnScope ["self", "value"] ["self", "value"] (defScope s_eBadSize) := ⟨rfl, rfl, rfl, by decide +kernel, rfl, by decide +kernel, by decide +kernel⟩
theorem ok_eBadSize {f C : Addr} {fd : FuncData} (F : Fun K "__init__" "BadSize.__init__" s_eBadSize f fd) (T : ErC K C f ["value"]) : FnOk P w K mg base CX0 1 f fd ["self", "value"] (spErrI C "value") := by
  refine F.ok sc_eBadSize (fun vs H Q E h => ?_) (fun cdv A outer s H vs Q E hr h => ?_)
  · obtain ⟨a, v, rfl, _⟩ := h
    rfl
  · obtain ⟨a, v, rfl, ha, k⟩ := h
    refine ⟨_, (pss_one (ps_ost (pv 0) (pv 1))), ?_⟩
    exact ⟨_, rfl, _, rfl, a, C, rfl, T.oB, T.nF _ (by simp), .inl ⟨ha, fun d n ne => k d n ne⟩⟩
abbrev s_eBadTable : Stmt := inClass (topS 6) 0
theorem sc_eBadTable : FnScope ["self", "part"] ["self", "part"] (defScope s_eBadTable) := ⟨rfl, rfl, rfl, by decide +kernel, rfl, by decide +kernel, by decide +kernel⟩
theorem ok_eBadTable {f C : Addr} {fd : FuncData} (F : Fun K "__init__" "BadTable.__init__" s_eBadTable f fd) (T : ErC K C f ["part"]) : FnOk P w K mg base CX0 1 f fd ["self", "part"] (spErrI C "part") := by
  refine F.ok sc_eBadTable (fun vs H Q E h => ?_) (fun cdv A outer s H vs Q E hr h => ?_)
  · obtain ⟨a, v, rfl, _⟩ := h
    rfl
  · obtain ⟨a, v, rfl, ha, k⟩ := h
    refine ⟨_, (pss_one (ps_ost (pv 0) (pv 1))), ?_⟩
    exact ⟨_, rfl, _, rfl, a, C, rfl, T.oB, T.nF _ (by simp), .inl ⟨ha, fun d n ne => k d n ne⟩⟩
abbrev s_eBadSizes : Stmt := inClass (topS 7) 0
theorem sc_eBadSizes : FnScope ["self", "part"] ["self", "part"] (defScope s_eBadSizes) := ⟨rfl, rfl, rfl, by decide +kernel, rfl, by decide +kernel, by decide +kernel⟩
theorem ok_eBadSizes {f C : Addr} {fd : FuncData} (F : Fun K "__init__" "BadSizes.__init__" s_eBadSizes f fd) (T : ErC K C f ["part"]) : FnOk P w K mg base CX0 1 f fd ["self", "part"] (spErrI C "part") := by
  refine F.ok sc_eBadSizes (fun vs H Q E h => ?_) (fun cdv A outer s H vs Q E hr h => ?_)
  · obtain ⟨a, v, rfl, _⟩ := h
    rfl
  · obtain ⟨a, v, rfl, ha, k⟩ := h
    refine ⟨_, (pss_one (ps_ost (pv 0) (pv 1))), ?_⟩
    exact ⟨_, rfl, _, rfl, a, C, rfl, T.oB, T.nF _ (by simp), .inl ⟨ha, fun d n ne => k d n ne⟩⟩
abbrev s_eBadNumber : Stmt := inClass (topS 8) 0
theorem sc_eBadNumber : FnScope ["self", "value"] ["self", "value"] (defScope s_eBadNumber) := ⟨rfl, rfl, rfl, by decide +kernel, rfl, by decide +kernel, by decide +kernel⟩
theorem ok_eBadNumber {f C : Addr} {fd : FuncData} (F : Fun K "__init__" "BadNumber.__init__" s_eBadNumber f fd) (T : ErC K C f ["value"]) : FnOk P w K mg base CX0 1 f fd ["self", "value"] (spErrI C "value") := by
  refine F.ok sc_eBadNumber (fun vs H Q E h => ?_) (fun cdv A outer s H vs Q E hr h => ?_)
  · obtain ⟨a, v, rfl, _⟩ := h
    rfl
  · obtain ⟨a, v, rfl, ha, k⟩ := h
    refine ⟨_, (pss_one (ps_ost (pv 0) (pv 1))), ?_⟩
    exact ⟨_, rfl, _, rfl, a, C, rfl, T.oB, T.nF _ (by simp), .inl ⟨ha, fun d n ne => k d n ne⟩⟩
abbrev s_eNoTake : Stmt := inClass (topS 9) 0
theorem sc_eNoTake : FnScope ["self", "number"] ["self", "number"] (defScope s_eNoTake) := ⟨rfl, rfl, rfl, by decide +kernel, rfl, by decide +kernel, by decide +kernel⟩
theorem ok_eNoTake {f C : Addr} {fd : FuncData} (F : Fun K "__init__" "NoTake.__init__" s_eNoTake f fd) (T : ErC K C f ["number"]) : FnOk P w K mg base CX0 1 f fd ["self", "number"] (spErrI C "number") := by
  refine F.ok sc_eNoTake (fun vs H Q E h => ?_) (fun cdv A outer s H vs Q E hr h => ?_)
  · obtain ⟨a, v, rfl, _⟩ := h
    rfl
  · obtain ⟨a, v, rfl, ha, k⟩ := h
    refine ⟨_, (pss_one (ps_ost (pv 0) (pv 1))), ?_⟩
    exact ⟨_, rfl, _, rfl, a, C, rfl, T.oB, T.nF _ (by simp), .inl ⟨ha, fun d n ne => k d n ne⟩⟩
abbrev s_eNoPile : Stmt := inClass (topS 10) 0
theorem sc_eNoPile : FnScope ["self", "index"] ["self", "index"] (defScope s_eNoPile) := ⟨rfl, rfl, rfl, by decide +kernel, rfl, by decide +kernel, by decide +kernel⟩
theorem ok_eNoPile {f C : Addr} {fd : FuncData} (F : Fun K "__init__" "NoPile.__init__" s_eNoPile f fd) (T : ErC K C f ["index"]) : FnOk P w K mg base CX0 1 f fd ["self", "index"] (spErrI C "index") := by
  refine F.ok sc_eNoPile (fun vs H Q E h => ?_) (fun cdv A outer s H vs Q E hr h => ?_)
  · obtain ⟨a, v, rfl, _⟩ := h
    rfl
  · obtain ⟨a, v, rfl, ha, k⟩ := h
    refine ⟨_, (pss_one (ps_ost (pv 0) (pv 1))), ?_⟩
    exact ⟨_, rfl, _, rfl, a, C, rfl, T.oB, T.nF _ (by simp), .inl ⟨ha, fun d n ne => k d n ne⟩⟩
abbrev s_eNotFree : Stmt := inClass (topS 11) 0
theorem sc_eNotFree : FnScope ["self", "rule"] ["self", "rule"] (defScope s_eNotFree) := ⟨rfl, rfl, rfl, by decide +kernel, rfl, by decide +kernel, by decide +kernel⟩
theorem ok_eNotFree {f C : Addr} {fd : FuncData} (F : Fun K "__init__" "NotFree.__init__" s_eNotFree f fd) (T : ErC K C f ["rule"]) : FnOk P w K mg base CX0 1 f fd ["self", "rule"] (spErrI C "rule") := by
  refine F.ok sc_eNotFree (fun vs H Q E h => ?_) (fun cdv A outer s H vs Q E hr h => ?_)
  · obtain ⟨a, v, rfl, _⟩ := h
    rfl
  · obtain ⟨a, v, rfl, ha, k⟩ := h
    refine ⟨_, (pss_one (ps_ost (pv 0) (pv 1))), ?_⟩
    exact ⟨_, rfl, _, rfl, a, C, rfl, T.oB, T.nF _ (by simp), .inl ⟨ha, fun d n ne => k d n ne⟩⟩
abbrev s_eMeets : Stmt := inClass (topS 12) 0
theorem sc_eMeets : FnScope ["self", "heap", "left"] ["self", "heap", "left"] (defScope s_eMeets) := ⟨rfl, rfl, rfl, by decide +kernel, rfl, by decide +kernel, by decide +kernel⟩
theorem ok_eMeets {f C : Addr} {fd : FuncData} (F : Fun K "__init__" "Meets.__init__" s_eMeets f fd) (T : ErC K C f ["heap", "left"]) : FnOk P w K mg base CX0 1 f fd ["self", "heap", "left"] (spErr2 C "heap" "left") := by
  refine F.ok sc_eMeets (fun vs H Q E h => ?_) (fun cdv A outer s H vs Q E hr h => ?_)
  · obtain ⟨a, x, y, rfl, _⟩ := h
    rfl
  · obtain ⟨a, x, y, rfl, ha, k⟩ := h
    refine ⟨_, (pss_cons (ps_ost (pv 0) (pv 1))
  (pss_one (ps_ost (pv 0) (pv 2)))), ?_⟩
    refine ⟨_, rfl, _, rfl, a, C, rfl, T.oB, T.nF _ (by simp), .inl ⟨ha, fun d n ne => ?_⟩⟩
    exact ⟨_, rfl, _, rfl, a, C, rfl, T.oB, T.nF _ (by simp), .inr ⟨d, _, upd_same, by rw [upd_ne ne, upd_same], by show 1 ≤ 900; decide, k d n ne⟩⟩
abbrev s_eNeeded : Stmt := inClass (topS 13) 0
theorem sc_eNeeded : FnScope ["self", "rule"] ["self", "rule"] (defScope s_eNeeded) := ⟨rfl, rfl, rfl, by decide +kernel, rfl, by decide +kernel, by decide +kernel⟩
theorem ok_eNeeded {f C : Addr} {fd : FuncData} (F : Fun K "__init__" "Needed.__init__" s_eNeeded f fd) (T : ErC K C f ["rule"]) : FnOk P w K mg base CX0 1 f fd ["self", "rule"] (spErrI C "rule") := by
  refine F.ok sc_eNeeded (fun vs H Q E h => ?_) (fun cdv A outer s H vs Q E hr h => ?_)
  · obtain ⟨a, v, rfl, _⟩ := h
    rfl
  · obtain ⟨a, v, rfl, ha, k⟩ := h
    refine ⟨_, (pss_one (ps_ost (pv 0) (pv 1))), ?_⟩
    exact ⟨_, rfl, _, rfl, a, C, rfl, T.oB, T.nF _ (by simp), .inl ⟨ha, fun d n ne => k d n ne⟩⟩
abbrev s_eLacks : Stmt := inClass (topS 14) 0
theorem sc_eLacks : FnScope ["self", "heap", "worth"] ["self", "heap", "worth"] (defScope s_eLacks) := ⟨rfl, rfl, rfl, by decide +kernel, rfl, by decide +kernel, by decide +kernel⟩
theorem ok_eLacks {f C : Addr} {fd : FuncData} (F : Fun K "__init__" "Lacks.__init__" s_eLacks f fd) (T : ErC K C f ["heap", "worth"]) : FnOk P w K mg base CX0 1 f fd ["self", "heap", "worth"] (spErr2 C "heap" "worth") := by
  refine F.ok sc_eLacks (fun vs H Q E h => ?_) (fun cdv A outer s H vs Q E hr h => ?_)
  · obtain ⟨a, x, y, rfl, _⟩ := h
    rfl
  · obtain ⟨a, x, y, rfl, ha, k⟩ := h
    refine ⟨_, (pss_cons (ps_ost (pv 0) (pv 1))
  (pss_one (ps_ost (pv 0) (pv 2)))), ?_⟩
    refine ⟨_, rfl, _, rfl, a, C, rfl, T.oB, T.nF _ (by simp), .inl ⟨ha, fun d n ne => ?_⟩⟩
    exact ⟨_, rfl, _, rfl, a, C, rfl, T.oB, T.nF _ (by simp), .inr ⟨d, _, upd_same, by rw [upd_ne ne, upd_same], by show 1 ≤ 900; decide, k d n ne⟩⟩
abbrev s_eNotIn : Stmt := inClass (topS 15) 0
theorem sc_eNotIn : FnScope ["self", "rule"] ["self", "rule"] (defScope s_eNotIn) := ⟨rfl, rfl, rfl, by decide +kernel, rfl, by decide +kernel, by decide +kernel⟩
theorem ok_eNotIn {f C : Addr} {fd : FuncData} (F : Fun K "__init__" "NotIn.__init__" s_eNotIn f fd) (T : ErC K C f ["rule"]) : FnOk P w K mg base CX0 1 f fd ["self", "rule"] (spErrI C "rule") := by
  refine F.ok sc_eNotIn (fun vs H Q E h => ?_) (fun cdv A outer s H vs Q E hr h => ?_)
  · obtain ⟨a, v, rfl, _⟩ := h
    rfl
  · obtain ⟨a, v, rfl, ha, k⟩ := h
    refine ⟨_, (pss_one (ps_ost (pv 0) (pv 1))), ?_⟩
    exact ⟨_, rfl, _, rfl, a, C, rfl, T.oB, T.nF _ (by simp), .inl ⟨ha, fun d n ne => k d n ne⟩⟩
abbrev s_eBadLimit : Stmt := inClass (topS 17) 0
theorem sc_eBadLimit : FnScope ["self", "value"] ["self", "value"] (defScope s_eBadLimit) := ⟨rfl, rfl, rfl, by decide +kernel, rfl, by decide +kernel, by decide +kernel⟩
theorem ok_eBadLimit {f C : Addr} {fd : FuncData} (F : Fun K "__init__" "BadLimit.__init__" s_eBadLimit f fd) (T : ErC K C f ["value"]) : FnOk P w K mg base CX0 1 f fd ["self", "value"] (spErrI C "value") := by
  refine F.ok sc_eBadLimit (fun vs H Q E h => ?_) (fun cdv A outer s H vs Q E hr h => ?_)
  · obtain ⟨a, v, rfl, _⟩ := h
    rfl
  · obtain ⟨a, v, rfl, ha, k⟩ := h
    refine ⟨_, (pss_one (ps_ost (pv 0) (pv 1))), ?_⟩
    exact ⟨_, rfl, _, rfl, a, C, rfl, T.oB, T.nF _ (by simp), .inl ⟨ha, fun d n ne => k d n ne⟩⟩
abbrev s_eTooMany : Stmt := inClass (topS 18) 0
theorem sc_eTooMany : FnScope ["self", "what", "most"] ["self", "what", "most"] (defScope s_eTooMany) := ⟨rfl, rfl, rfl, by decide +kernel, rfl, by decide +kernel, by decide +kernel⟩
theorem ok_eTooMany {f C : Addr} {fd : FuncData} (F : Fun K "__init__" "TooMany.__init__" s_eTooMany f fd) (T : ErC K C f ["what", "most"]) : FnOk P w K mg base CX0 1 f fd ["self", "what", "most"] (spErr2 C "what" "most") := by
  refine F.ok sc_eTooMany (fun vs H Q E h => ?_) (fun cdv A outer s H vs Q E hr h => ?_)
  · obtain ⟨a, x, y, rfl, _⟩ := h
    rfl
  · obtain ⟨a, x, y, rfl, ha, k⟩ := h
    refine ⟨_, (pss_cons (ps_ost (pv 0) (pv 1))
  (pss_one (ps_ost (pv 0) (pv 2)))), ?_⟩
    refine ⟨_, rfl, _, rfl, a, C, rfl, T.oB, T.nF _ (by simp), .inl ⟨ha, fun d n ne => ?_⟩⟩
    exact ⟨_, rfl, _, rfl, a, C, rfl, T.oB, T.nF _ (by simp), .inr ⟨d, _, upd_same, by rw [upd_ne ne, upd_same], by show 1 ≤ 900; decide, k d n ne⟩⟩
abbrev s_eBadText : Stmt := inClass (topS 19) 0
theorem sc_eBadText : FnScope ["self", "line", "word"] ["self", "line", "word"] (defScope s_eBadText) := ⟨rfl, rfl, rfl, by decide +kernel, rfl, by decide +kernel, by decide +kernel⟩
theorem ok_eBadText {f C : Addr} {fd : FuncData} (F : Fun K "__init__" "BadText.__init__" s_eBadText f fd) (T : ErC K C f ["line", "word"]) : FnOk P w K mg base CX0 1 f fd ["self", "line", "word"] (spErr2 C "line" "word") := by
  refine F.ok sc_eBadText (fun vs H Q E h => ?_) (fun cdv A outer s H vs Q E hr h => ?_)
  · obtain ⟨a, x, y, rfl, _⟩ := h
    rfl
  · obtain ⟨a, x, y, rfl, ha, k⟩ := h
    refine ⟨_, (pss_cons (ps_ost (pv 0) (pv 1))
  (pss_one (ps_ost (pv 0) (pv 2)))), ?_⟩
    refine ⟨_, rfl, _, rfl, a, C, rfl, T.oB, T.nF _ (by simp), .inl ⟨ha, fun d n ne => ?_⟩⟩
    exact ⟨_, rfl, _, rfl, a, C, rfl, T.oB, T.nF _ (by simp), .inr ⟨d, _, upd_same, by rw [upd_ne ne, upd_same], by show 1 ≤ 900; decide, k d n ne⟩⟩
abbrev s_eNoLine : Stmt := inClass (topS 20) 0
theorem sc_eNoLine : FnScope ["self", "word"] ["self", "word"] (defScope s_eNoLine) := ⟨rfl, rfl, rfl, by decide +kernel, rfl, by decide +kernel, by decide +kernel⟩
theorem ok_eNoLine {f C : Addr} {fd : FuncData} (F : Fun K "__init__" "NoLine.__init__" s_eNoLine f fd) (T : ErC K C f ["word"]) : FnOk P w K mg base CX0 1 f fd ["self", "word"] (spErrI C "word") := by
  refine F.ok sc_eNoLine (fun vs H Q E h => ?_) (fun cdv A outer s H vs Q E hr h => ?_)
  · obtain ⟨a, v, rfl, _⟩ := h
    rfl
  · obtain ⟨a, v, rfl, ha, k⟩ := h
    refine ⟨_, (pss_one (ps_ost (pv 0) (pv 1))), ?_⟩
    exact ⟨_, rfl, _, rfl, a, C, rfl, T.oB, T.nF _ (by simp), .inl ⟨ha, fun d n ne => k d n ne⟩⟩
end
end Fz
set_option Elab.async false
set_option linter.all false
set_option maxRecDepth 100000
set_option maxHeartbeats 2000000
namespace Fz
open PySem PySem.Spec PyProof.Rows L2
/-- one step of a reading -/
local macro_rules | `(tactic| walk_at "st") => `(tactic| first
  | refine ⟨_, rfl, ?_⟩
  | refine Or.inl ⟨_, rfl, ?_⟩
  | refine Or.inr ⟨_, rfl, ?_⟩
  | refine ⟨_, _, _, _, rfl, rfl, SqL.of (by first | assumption | exact upd_same), rfl, ?_⟩
  | refine ⟨_, _, _, _, rfl, rfl, (by first | assumption | exact upd_same), rfl, ?_⟩
  | refine ⟨_, _, rfl, .inl ⟨_, SqL.of (by first | assumption | exact upd_same), rfl⟩, ?_⟩
  | refine ⟨_, _, rfl, rfl, (show (0 : Int) < _ by first | decide | omega), ?_⟩
  | refine ⟨_, _, rfl, rfl, (show (0 : Int) < _ ∧ _ < _ by first | exact ⟨by decide, by decide⟩ | omega), ?_⟩
  | refine ⟨_, _, rfl, rfl, (show (_ < _ ∧ _ < _) ∨ (_ < _ ∧ _ < _) by first | exact .inl ⟨by decide, by decide⟩ | omega), ?_⟩
  | refine ⟨_, _, rfl, rfl, (show (0 : Int) ≤ _ ∧ _ ≤ _ ∧ _ < _ by first | exact ⟨by decide, by decide, by decide⟩ | exact ⟨by decide, by decide, by omega⟩), ?_⟩
  | refine ⟨_, _, rfl, rfl, ?_⟩)

/-! ### errors made as values -/
section
variable {C : Addr} {f g : Str} {H : Hp} {Q : VK} {σ : L2.St} {i j : Nat} {x y : V}
theorem err1_at {a d : Addr} (ha : H a = none) (hd : upd H a (exo a C none) d = none) (ne : d ≠ a) : Same H (upd (upd (upd H a (exo a C none)) d (exd d [(f, x)])) a (exo a C (some d))) ∧ ErrV C (upd (upd (upd H a (exo a C none)) d (exd d [(f, x)])) a (exo a C (some d))) a d [(f, x)] := by
  rw [upd_ne ne] at hd
  refine ⟨fun b o e => ?_, ⟨upd_same, by rw [upd_ne ne, upd_same]⟩⟩
  rw [upd_ne (ne_of_none e ha), upd_ne (ne_of_none e hd), upd_ne (ne_of_none e ha)]
  exact e
theorem err2_at {a d : Addr} (ha : H a = none) (hd : upd H a (exo a C none) d = none) (ne : d ≠ a) : Same H (upd (upd (upd (upd H a (exo a C none)) d (exd d [(f, x)])) a (exo a C (some d))) d (exd d [(g, y), (f, x)])) ∧ ErrV C (upd (upd (upd (upd H a (exo a C none)) d (exd d [(f, x)])) a (exo a C (some d))) d (exd d [(g, y), (f, x)])) a d [(g, y), (f, x)] := by
  rw [upd_ne ne] at hd
  refine ⟨fun b o e => ?_, ⟨by rw [upd_ne (Ne.symm ne), upd_same], upd_same⟩⟩
  rw [upd_ne (ne_of_none e hd), upd_ne (ne_of_none e ha), upd_ne (ne_of_none e hd), upd_ne (ne_of_none e ha)]
  exact e
theorem mkV1_box (v : σ[i]? = some (some x)) (fin : ∀ H' a d, Same H H' → ErrV C H' a d [(f, x)] → Q (.ref a) H') : Box (tMkV C (spErrI C f) [] (tCons (tVar i) tNil)) σ H Q :=
  ⟨_, v, by show 1 ≤ 1000; decide, fun a ha => ⟨a, x, rfl, upd_same, fun d hd ne => ⟨rfl, fin _ a d (err1_at ha hd ne).1 (err1_at ha hd ne).2⟩⟩⟩
theorem mkV2_box (v : σ[i]? = some (some x)) (w : σ[j]? = some (some y)) (fin : ∀ H' a d, Same H H' → ErrV C H' a d [(g, y), (f, x)] → Q (.ref a) H') : Box (tMkV C (spErr2 C f g) [] (tCons (tVar i) (tCons (tVar j) tNil))) σ H Q :=
  ⟨_, v, _, w, by show 2 ≤ 1000; decide, fun a ha => ⟨a, x, y, rfl, upd_same, fun d hd ne => ⟨rfl, fin _ a d (err2_at ha hd ne).1 (err2_at ha hd ne).2⟩⟩⟩
theorem mkK1_box {m : Nat} (v : σ[i]? = some (some x)) (fin : ∀ H' a d, Same H H' → ErrV C H' a d [(f, x)] → Q (.ref a) H') (hm : m = 1 := by rfl) : Box (tMkVK C m (spErrI C f) (fun vs zs => vs ++ zs) (tCons (tVar i) tNil)) σ H Q := by
  subst hm
  exact ⟨_, v, rfl, fun a ha => ⟨a, x, rfl, upd_same, fun d hd ne => ⟨rfl, fin _ a d (err1_at ha hd ne).1 (err1_at ha hd ne).2⟩⟩⟩
theorem mkK2_box {m : Nat} (w : σ[j]? = some (some y)) (v : σ[i]? = some (some x)) (fin : ∀ H' a d, Same H H' → ErrV C H' a d [(g, y), (f, x)] → Q (.ref a) H') (hm : m = 2 := by rfl) : Box (tMkVK C m (spErr2 C f g) (fun vs zs => vs ++ zs.reverse) (tCons (tVar j) (tCons (tVar i) tNil))) σ H Q := by
  subst hm
  exact ⟨_, w, _, v, rfl, fun a ha => ⟨a, x, y, rfl, upd_same, fun d hd ne => ⟨rfl, fin _ a d (err2_at ha hd ne).1 (err2_at ha hd ne).2⟩⟩⟩
theorem mkV0_box (fin : ∀ H' a, Same H H' → H' a = some (exo a C none) → Q (.ref a) H') : Box (tMkV0 C) σ H Q := ⟨fun a ha => fin _ a (Same.new ha) upd_same⟩
end
/-- these errors, one after another -/
def EL (H : Hp) : List V → List (Addr × Option (List (Str × V))) → Prop
  | [], [] => True
  | v :: vs, (C, some fs) :: r => (∃ a d, v = .ref a ∧ ErrV C H a d fs) ∧ EL H vs r
  | v :: vs, (C, none) :: r => (∃ a, v = .ref a ∧ H a = some (exo a C none)) ∧ EL H vs r
  | _, _ => False
theorem EL.same {H H' : Hp} (s : Same H H') : ∀ {vs : List V} {r : List (Addr × Option (List (Str × V)))}, EL H vs r → EL H' vs r
  | [], [], _ => True.intro
  | v :: vs, (C, some fs) :: r, ⟨⟨a, d, e, h⟩, t⟩ => ⟨⟨a, d, e, h.same s⟩, EL.same s t⟩
  | v :: vs, (C, none) :: r, ⟨⟨a, e, h⟩, t⟩ => ⟨⟨a, e, s _ _ h⟩, EL.same s t⟩
theorem EL.app {H : Hp} : ∀ {vs ws : List V} {r q : List (Addr × Option (List (Str × V)))}, EL H vs r → EL H ws q → EL H (vs ++ ws) (r ++ q)
  | [], _, [], _, _, h => h
  | v :: vs, _, (C, some fs) :: r, _, ⟨x, t⟩, h => ⟨x, EL.app t h⟩
  | v :: vs, _, (C, none) :: r, _, ⟨x, t⟩, h => ⟨x, EL.app t h⟩
abbrev bmVE : List Value := [.type "ValueError", .type "Exception", .type "BaseException", .type "object"]
def erS (J0 J1 J2 J3 J4 J5 J6 J7 J8 J9 J10 J11 J12 J13 J14 J15 J16 J17 : Addr) (v w : V) : List (Addr × Option (List (Str × V))) := [(J0, some [("part", v)]), (J1, some [("at", v)]), (J2, some [("value", v)]), (J3, some [("part", v)]), (J4, some [("part", v)]), (J5, some [("value", v)]), (J6, some [("number", v)]), (J7, some [("index", v)]), (J8, some [("rule", v)]), (J9, some [("left", w), ("heap", v)]), (J10, some [("rule", v)]), (J11, some [("worth", w), ("heap", v)]), (J12, some [("rule", v)]), (J13, none), (J14, some [("value", v)]), (J15, some [("most", w), ("what", v)]), (J16, some [("word", w), ("line", v)]), (J17, some [("word", v)])]
/-- one error of each class -/
def spMade (J0 J1 J2 J3 J4 J5 J6 J7 J8 J9 J10 J11 J12 J13 J14 J15 J16 J17 : Addr) : Sp := fun vs H Q _ => ∃ v w : V, vs = [v, w] ∧ ∀ H' l xs, Same H H' → H' l = some (.lst xs) → EL H' xs (erS J0 J1 J2 J3 J4 J5 J6 J7 J8 J9 J10 J11 J12 J13 J14 J15 J16 J17 v w) → Q (.ref l) H'

section
variable {P : Program} {w : World} {K : PySem.W.Frag} {mg : Str → Option Value} {base : Heap}

abbrev s_ordered : Stmt := topS 45
theorem sc_ordered : FnScope ["_law_first", "_law_second", "_law_found"] ["_law_first", "_law_second"] (defScope s_ordered) := ⟨rfl, rfl, rfl, by decide +kernel, rfl, by decide +kernel, by decide +kernel⟩
theorem ok_ordered {f J0 J1 J2 J3 J4 J5 J6 J7 J8 J9 J10 J11 J12 J13 J14 J15 J16 J17 f0 f1 f2 f3 f4 f5 f6 f7 f8 f9 f10 f11 f12 f14 f15 f16 f17 : Addr} {fd fd0 fd1 fd2 fd3 fd4 fd5 fd6 fd7 fd8 fd9 fd10 fd11 fd12 fd14 fd15 fd16 fd17 : FuncData} (F : Fun K "_law_ordered" "_law_ordered" s_ordered f fd)
    (E0 : ErC K J0 f0 ["part"]) (I0 : Fun K "__init__" "BadRule.__init__" s_eBadRule f0 fd0) (g0 : mg "BadRule" = some (.ref J0)) (b0 : L2.Binds K fd0 ["self", "part"] [])
    (E1 : ErC K J1 f1 ["at"]) (I1 : Fun K "__init__" "BadBook.__init__" s_eBadBook f1 fd1) (g1 : mg "BadBook" = some (.ref J1)) (b1 : L2.Binds K fd1 ["self", "at"] [])
    (E2 : ErC K J2 f2 ["value"]) (I2 : Fun K "__init__" "BadSize.__init__" s_eBadSize f2 fd2) (g2 : mg "BadSize" = some (.ref J2)) (b2 : L2.Binds K fd2 ["self", "value"] [])
    (E3 : ErC K J3 f3 ["part"]) (I3 : Fun K "__init__" "BadTable.__init__" s_eBadTable f3 fd3) (g3 : mg "BadTable" = some (.ref J3)) (b3 : L2.Binds K fd3 ["self", "part"] [])
    (E4 : ErC K J4 f4 ["part"]) (I4 : Fun K "__init__" "BadSizes.__init__" s_eBadSizes f4 fd4) (g4 : mg "BadSizes" = some (.ref J4)) (b4 : L2.Binds K fd4 ["self", "part"] [])
    (E5 : ErC K J5 f5 ["value"]) (I5 : Fun K "__init__" "BadNumber.__init__" s_eBadNumber f5 fd5) (g5 : mg "BadNumber" = some (.ref J5)) (b5 : L2.Binds K fd5 ["self", "value"] [])
    (E6 : ErC K J6 f6 ["number"]) (I6 : Fun K "__init__" "NoTake.__init__" s_eNoTake f6 fd6) (g6 : mg "NoTake" = some (.ref J6)) (b6 : L2.Binds K fd6 ["self", "number"] [])
    (E7 : ErC K J7 f7 ["index"]) (I7 : Fun K "__init__" "NoPile.__init__" s_eNoPile f7 fd7) (g7 : mg "NoPile" = some (.ref J7)) (b7 : L2.Binds K fd7 ["self", "index"] [])
    (E8 : ErC K J8 f8 ["rule"]) (I8 : Fun K "__init__" "NotFree.__init__" s_eNotFree f8 fd8) (g8 : mg "NotFree" = some (.ref J8)) (b8 : L2.Binds K fd8 ["self", "rule"] [])
    (E9 : ErC K J9 f9 ["heap", "left"]) (I9 : Fun K "__init__" "Meets.__init__" s_eMeets f9 fd9) (g9 : mg "Meets" = some (.ref J9)) (b9 : L2.Binds K fd9 ["self", "heap", "left"] [])
    (E10 : ErC K J10 f10 ["rule"]) (I10 : Fun K "__init__" "Needed.__init__" s_eNeeded f10 fd10) (g10 : mg "Needed" = some (.ref J10)) (b10 : L2.Binds K fd10 ["self", "rule"] [])
    (E11 : ErC K J11 f11 ["heap", "worth"]) (I11 : Fun K "__init__" "Lacks.__init__" s_eLacks f11 fd11) (g11 : mg "Lacks" = some (.ref J11)) (b11 : L2.Binds K fd11 ["self", "heap", "worth"] [])
    (E12 : ErC K J12 f12 ["rule"]) (I12 : Fun K "__init__" "NotIn.__init__" s_eNotIn f12 fd12) (g12 : mg "NotIn" = some (.ref J12)) (b12 : L2.Binds K fd12 ["self", "rule"] [])
    (N13 : PySem.W.excIn K J13 bmVE "ValueError.__new__" = true) (g13 : mg "Nothing" = some (.ref J13)) (k13 : PySem.W.keepIn K (.ref J13) = true)
    (E14 : ErC K J14 f14 ["value"]) (I14 : Fun K "__init__" "BadLimit.__init__" s_eBadLimit f14 fd14) (g14 : mg "BadLimit" = some (.ref J14)) (b14 : L2.Binds K fd14 ["self", "value"] [])
    (E15 : ErC K J15 f15 ["what", "most"]) (I15 : Fun K "__init__" "TooMany.__init__" s_eTooMany f15 fd15) (g15 : mg "TooMany" = some (.ref J15)) (b15 : L2.Binds K fd15 ["self", "what", "most"] [])
    (E16 : ErC K J16 f16 ["line", "word"]) (I16 : Fun K "__init__" "BadText.__init__" s_eBadText f16 fd16) (g16 : mg "BadText" = some (.ref J16)) (b16 : L2.Binds K fd16 ["self", "line", "word"] [])
    (E17 : ErC K J17 f17 ["word"]) (I17 : Fun K "__init__" "NoLine.__init__" s_eNoLine f17 fd17) (g17 : mg "NoLine" = some (.ref J17)) (b17 : L2.Binds K fd17 ["self", "word"] []) : FnOk P w K mg base CX0 3 f fd ["_law_first", "_law_second"] (spMade J0 J1 J2 J3 J4 J5 J6 J7 J8 J9 J10 J11 J12 J13 J14 J15 J16 J17) := by
  have G0 : FnOk P w K mg base CX0 1 f0 fd0 ["self", "part"] (spErrI J0 "part") := ok_eBadRule I0 E0
  have G1 : FnOk P w K mg base CX0 1 f1 fd1 ["self", "at"] (spErrI J1 "at") := ok_eBadBook I1 E1
  have G2 : FnOk P w K mg base CX0 1 f2 fd2 ["self", "value"] (spErrI J2 "value") := ok_eBadSize I2 E2
  have G3 : FnOk P w K mg base CX0 1 f3 fd3 ["self", "part"] (spErrI J3 "part") := ok_eBadTable I3 E3
  have G4 : FnOk P w K mg base CX0 1 f4 fd4 ["self", "part"] (spErrI J4 "part") := ok_eBadSizes I4 E4
  have G5 : FnOk P w K mg base CX0 1 f5 fd5 ["self", "value"] (spErrI J5 "value") := ok_eBadNumber I5 E5
  have G6 : FnOk P w K mg base CX0 1 f6 fd6 ["self", "number"] (spErrI J6 "number") := ok_eNoTake I6 E6
  have G7 : FnOk P w K mg base CX0 1 f7 fd7 ["self", "index"] (spErrI J7 "index") := ok_eNoPile I7 E7
  have G8 : FnOk P w K mg base CX0 1 f8 fd8 ["self", "rule"] (spErrI J8 "rule") := ok_eNotFree I8 E8
  have G9 : FnOk P w K mg base CX0 1 f9 fd9 ["self", "heap", "left"] (spErr2 J9 "heap" "left") := ok_eMeets I9 E9
  have G10 : FnOk P w K mg base CX0 1 f10 fd10 ["self", "rule"] (spErrI J10 "rule") := ok_eNeeded I10 E10
  have G11 : FnOk P w K mg base CX0 1 f11 fd11 ["self", "heap", "worth"] (spErr2 J11 "heap" "worth") := ok_eLacks I11 E11
  have G12 : FnOk P w K mg base CX0 1 f12 fd12 ["self", "rule"] (spErrI J12 "rule") := ok_eNotIn I12 E12
  have G14 : FnOk P w K mg base CX0 1 f14 fd14 ["self", "value"] (spErrI J14 "value") := ok_eBadLimit I14 E14
  have G15 : FnOk P w K mg base CX0 1 f15 fd15 ["self", "what", "most"] (spErr2 J15 "what" "most") := ok_eTooMany I15 E15
  have G16 : FnOk P w K mg base CX0 1 f16 fd16 ["self", "line", "word"] (spErr2 J16 "line" "word") := ok_eBadText I16 E16
  have G17 : FnOk P w K mg base CX0 1 f17 fd17 ["self", "word"] (spErrI J17 "word") := ok_eNoLine I17 E17
  refine F.ok sc_ordered (fun vs H Q E h => ?_) (fun cdv A outer s H vs Q E hr h => ?_)
  · obtain ⟨v, w, rfl, _⟩ := h
    rfl
  · obtain ⟨v, w, rfl, fin⟩ := h
    refine ⟨_, (C8.pss_cut (ps_set (i := 2) sc_ordered.nd rfl (Or.inl rfl) (pe_lst (pa_cons (pe_box (pe_mkV E0.oB E0.iB E0.tB G0 (hr.mono (by decide)) b0 .nil pass0 rfl g0 (by exact (pa_cons (pv 0) pa_nil)))) (pa_cons (pe_box (pe_mkV E1.oB E1.iB E1.tB G1 (hr.mono (by decide)) b1 .nil pass0 rfl g1 (by exact (pa_cons (pv 0) pa_nil)))) (pa_cons (pe_box (pe_mkV E2.oB E2.iB E2.tB G2 (hr.mono (by decide)) b2 .nil pass0 rfl g2 (by exact (pa_cons (pv 0) pa_nil)))) (pa_cons (pe_box (pe_mkV E3.oB E3.iB E3.tB G3 (hr.mono (by decide)) b3 .nil pass0 rfl g3 (by exact (pa_cons (pv 0) pa_nil)))) (pa_cons (pe_box (pe_mkV E4.oB E4.iB E4.tB G4 (hr.mono (by decide)) b4 .nil pass0 rfl g4 (by exact (pa_cons (pv 0) pa_nil)))) (pa_cons (pe_box (pe_mkV E5.oB E5.iB E5.tB G5 (hr.mono (by decide)) b5 .nil pass0 rfl g5 (by exact (pa_cons (pv 0) pa_nil)))) pa_nil))))))))
  (C8.pss_cut (ps_set (i := 2) sc_ordered.nd rfl (Or.inl rfl) (pe_op op_cat (pv 2) (pe_lst (pa_cons (pe_box (pe_mkV E6.oB E6.iB E6.tB G6 (hr.mono (by decide)) b6 .nil pass0 rfl g6 (by exact (pa_cons (pv 0) pa_nil)))) (pa_cons (pe_box (pe_mkV E7.oB E7.iB E7.tB G7 (hr.mono (by decide)) b7 .nil pass0 rfl g7 (by exact (pa_cons (pv 0) pa_nil)))) (pa_cons (pe_box (pe_mkV E8.oB E8.iB E8.tB G8 (hr.mono (by decide)) b8 .nil pass0 rfl g8 (by exact (pa_cons (pv 0) pa_nil)))) (pa_cons (pe_box (pe_mkV E9.oB E9.iB E9.tB G9 (hr.mono (by decide)) b9 .nil pass0 rfl g9 (by exact (pa_cons (pv 0) (pa_cons (pv 1) pa_nil))))) (pa_cons (pe_box (pe_mkV E10.oB E10.iB E10.tB G10 (hr.mono (by decide)) b10 .nil pass0 rfl g10 (by exact (pa_cons (pv 0) pa_nil)))) pa_nil))))))))
  (C8.pss_cut (ps_set (i := 2) sc_ordered.nd rfl (Or.inl rfl) (pe_op op_cat (pv 2) (pe_lst (pa_cons (pe_box (pe_mkV E11.oB E11.iB E11.tB G11 (hr.mono (by decide)) b11 .nil pass0 rfl g11 (by exact (pa_cons (pv 0) (pa_cons (pv 1) pa_nil))))) (pa_cons (pe_box (pe_mkV E12.oB E12.iB E12.tB G12 (hr.mono (by decide)) b12 .nil pass0 rfl g12 (by exact (pa_cons (pv 0) pa_nil)))) (pa_cons (pe_box (pe_mkV0 PySem.F.excBase_ValueError N13 rfl g13 k13 rfl)) (pa_cons (pe_box (pe_mkV E14.oB E14.iB E14.tB G14 (hr.mono (by decide)) b14 .nil pass0 rfl g14 (by exact (pa_cons (pv 0) pa_nil)))) (pa_cons (pe_box (pe_mkV E15.oB E15.iB E15.tB G15 (hr.mono (by decide)) b15 .nil pass0 rfl g15 (by exact (pa_cons (pv 0) (pa_cons (pv 1) pa_nil))))) pa_nil))))))))
  (pss_one (ps_ret (pe_op op_cat (pv 2) (pe_lst (pa_cons (pe_box (pe_mkV E16.oB E16.iB E16.tB G16 (hr.mono (by decide)) b16 .nil pass0 rfl g16 (by exact (pa_cons (pv 0) (pa_cons (pv 1) pa_nil))))) (pa_cons (pe_box (pe_mkV E17.oB E17.iB E17.tB G17 (hr.mono (by decide)) b17 .nil pass0 rfl g17 (by exact (pa_cons (pv 0) pa_nil)))) pa_nil))))))))), ?_⟩
    have sz : (10000 : Nat) ≤ sizeLine := by show 10000 ≤ 16777216; decide
    refine ⟨fun σ' H' => ∃ (l : Addr) (xs : List V), σ' = [some v, some w, some (.ref l)] ∧ Same H H' ∧ H' l = some (.lst xs) ∧ xs.length ≤ 100 ∧ EL H' xs [(J0, some [("part", v)]), (J1, some [("at", v)]), (J2, some [("value", v)]), (J3, some [("part", v)]), (J4, some [("part", v)]), (J5, some [("value", v)])], ?_, ?_⟩
    · refine mkV1_box rfl fun H0H a0 d0 s0 e0 => ?_
      refine mkV1_box rfl fun H1H a1 d1 s1 e1 => ?_
      refine mkV1_box rfl fun H2H a2 d2 s2 e2 => ?_
      refine mkV1_box rfl fun H3H a3 d3 s3 e3 => ?_
      refine mkV1_box rfl fun H4H a4 d4 s4 e4 => ?_
      refine mkV1_box rfl fun H5H a5 d5 s5 e5 => ?_
      refine ⟨by show 6 ≤ sizeLine; omega, fun l hl => ?_⟩
      have u := Same.new (o := .lst [V.ref a0, V.ref a1, V.ref a2, V.ref a3, V.ref a4, V.ref a5]) hl
      exact ⟨l, _, rfl, (((((s0.trans s1).trans s2).trans s3).trans s4).trans s5).trans u, upd_same, by show 6 ≤ 100; decide, ⟨⟨a0, _, rfl, ((((((e0.same s1).same s2).same s3).same s4).same s5).same u)⟩, ⟨a1, _, rfl, (((((e1.same s2).same s3).same s4).same s5).same u)⟩, ⟨a2, _, rfl, ((((e2.same s3).same s4).same s5).same u)⟩, ⟨a3, _, rfl, (((e3.same s4).same s5).same u)⟩, ⟨a4, _, rfl, ((e4.same s5).same u)⟩, ⟨a5, _, rfl, (e5.same u)⟩, True.intro⟩⟩
    rintro σ' Hk ⟨l, xs, rfl, sk, hk, few, el⟩
    refine ⟨fun σ' H' => ∃ (l : Addr) (xs : List V), σ' = [some v, some w, some (.ref l)] ∧ Same H H' ∧ H' l = some (.lst xs) ∧ xs.length ≤ 120 ∧ EL H' xs [(J0, some [("part", v)]), (J1, some [("at", v)]), (J2, some [("value", v)]), (J3, some [("part", v)]), (J4, some [("part", v)]), (J5, some [("value", v)]), (J6, some [("number", v)]), (J7, some [("index", v)]), (J8, some [("rule", v)]), (J9, some [("left", w), ("heap", v)]), (J10, some [("rule", v)])], ?_, ?_⟩
    · refine ⟨_, rfl, ?_⟩
      refine mkV1_box rfl fun H6H a6 d6 s6 e6 => ?_
      refine mkV1_box rfl fun H7H a7 d7 s7 e7 => ?_
      refine mkV1_box rfl fun H8H a8 d8 s8 e8 => ?_
      refine mkV2_box rfl rfl fun H9H a9 d9 s9 e9 => ?_
      refine mkV1_box rfl fun H10H a10 d10 s10 e10 => ?_
      refine ⟨by show 5 ≤ sizeLine; omega, fun l2 hl2 => ?_⟩
      have u := Same.new (o := .lst [V.ref a6, V.ref a7, V.ref a8, V.ref a9, V.ref a10]) hl2
      have t := ((((s6.trans s7).trans s8).trans s9).trans s10).trans u
      refine ⟨l, l2, _, _, rfl, rfl, t _ _ hk, upd_same, by show xs.length + 5 ≤ sizeLine; omega, fun l3 hl3 => ?_⟩
      have u3 := Same.new (o := .lst (xs ++ [V.ref a6, V.ref a7, V.ref a8, V.ref a9, V.ref a10])) hl3
      have en : EL _ [V.ref a6, V.ref a7, V.ref a8, V.ref a9, V.ref a10] [(J6, some [("number", v)]), (J7, some [("index", v)]), (J8, some [("rule", v)]), (J9, some [("left", w), ("heap", v)]), (J10, some [("rule", v)])] := ⟨⟨a6, _, rfl, (((((e6.same s7).same s8).same s9).same s10).same u)⟩, ⟨a7, _, rfl, ((((e7.same s8).same s9).same s10).same u)⟩, ⟨a8, _, rfl, (((e8.same s9).same s10).same u)⟩, ⟨a9, _, rfl, ((e9.same s10).same u)⟩, ⟨a10, _, rfl, (e10.same u)⟩, True.intro⟩
      exact ⟨l3, _, rfl, (sk.trans t).trans u3, upd_same, by rw [List.length_append]; show xs.length + 5 ≤ 120; omega, ((el.same t).app en).same u3⟩
    rintro σ' Hk1 ⟨l, xs, rfl, sk, hk, few, el⟩
    refine ⟨fun σ' H' => ∃ (l : Addr) (xs : List V), σ' = [some v, some w, some (.ref l)] ∧ Same H H' ∧ H' l = some (.lst xs) ∧ xs.length ≤ 140 ∧ EL H' xs [(J0, some [("part", v)]), (J1, some [("at", v)]), (J2, some [("value", v)]), (J3, some [("part", v)]), (J4, some [("part", v)]), (J5, some [("value", v)]), (J6, some [("number", v)]), (J7, some [("index", v)]), (J8, some [("rule", v)]), (J9, some [("left", w), ("heap", v)]), (J10, some [("rule", v)]), (J11, some [("worth", w), ("heap", v)]), (J12, some [("rule", v)]), (J13, none), (J14, some [("value", v)]), (J15, some [("most", w), ("what", v)])], ?_, ?_⟩
    · refine ⟨_, rfl, ?_⟩
      refine mkV2_box rfl rfl fun H11H a11 d11 s11 e11 => ?_
      refine mkV1_box rfl fun H12H a12 d12 s12 e12 => ?_
      refine mkV0_box fun H13H a13 s13 e13 => ?_
      refine mkV1_box rfl fun H14H a14 d14 s14 e14 => ?_
      refine mkV2_box rfl rfl fun H15H a15 d15 s15 e15 => ?_
      refine ⟨by show 5 ≤ sizeLine; omega, fun l2 hl2 => ?_⟩
      have u := Same.new (o := .lst [V.ref a11, V.ref a12, V.ref a13, V.ref a14, V.ref a15]) hl2
      have t := ((((s11.trans s12).trans s13).trans s14).trans s15).trans u
      refine ⟨l, l2, _, _, rfl, rfl, t _ _ hk, upd_same, by show xs.length + 5 ≤ sizeLine; omega, fun l3 hl3 => ?_⟩
      have u3 := Same.new (o := .lst (xs ++ [V.ref a11, V.ref a12, V.ref a13, V.ref a14, V.ref a15])) hl3
      have en : EL _ [V.ref a11, V.ref a12, V.ref a13, V.ref a14, V.ref a15] [(J11, some [("worth", w), ("heap", v)]), (J12, some [("rule", v)]), (J13, none), (J14, some [("value", v)]), (J15, some [("most", w), ("what", v)])] := ⟨⟨a11, _, rfl, (((((e11.same s12).same s13).same s14).same s15).same u)⟩, ⟨a12, _, rfl, ((((e12.same s13).same s14).same s15).same u)⟩, ⟨a13, rfl, (u _ _ (s15 _ _ (s14 _ _ e13)))⟩, ⟨a14, _, rfl, ((e14.same s15).same u)⟩, ⟨a15, _, rfl, (e15.same u)⟩, True.intro⟩
      exact ⟨l3, _, rfl, (sk.trans t).trans u3, upd_same, by rw [List.length_append]; show xs.length + 5 ≤ 140; omega, ((el.same t).app en).same u3⟩
    rintro σ' Hk2 ⟨l, xs, rfl, sk, hk, few, el⟩
    refine ⟨_, rfl, ?_⟩
    refine mkV2_box rfl rfl fun H16H a16 d16 s16 e16 => ?_
    refine mkV1_box rfl fun H17H a17 d17 s17 e17 => ?_
    refine ⟨by show 2 ≤ sizeLine; omega, fun l2 hl2 => ?_⟩
    have u := Same.new (o := .lst [V.ref a16, V.ref a17]) hl2
    have t := (s16.trans s17).trans u
    refine ⟨l, l2, _, _, rfl, rfl, t _ _ hk, upd_same, by show xs.length + 2 ≤ sizeLine; omega, fun l3 hl3 => ?_⟩
    have u3 := Same.new (o := .lst (xs ++ [V.ref a16, V.ref a17])) hl3
    have en : EL _ [V.ref a16, V.ref a17] [(J16, some [("word", w), ("line", v)]), (J17, some [("word", v)])] := ⟨⟨a16, _, rfl, ((e16.same s17).same u)⟩, ⟨a17, _, rfl, (e17.same u)⟩, True.intro⟩
    exact fin _ l3 _ ((sk.trans t).trans u3) upd_same (((el.same t).app en).same u3)
abbrev s_named : Stmt := topS 46
theorem sc_named : FnScope ["_law_first", "_law_second", "_law_found"] ["_law_first", "_law_second"] (defScope s_named) := ⟨rfl, rfl, rfl, by decide +kernel, rfl, by decide +kernel, by decide +kernel⟩
theorem ok_named {f J0 J1 J2 J3 J4 J5 J6 J7 J8 J9 J10 J11 J12 J13 J14 J15 J16 J17 f0 f1 f2 f3 f4 f5 f6 f7 f8 f9 f10 f11 f12 f14 f15 f16 f17 : Addr} {fd fd0 fd1 fd2 fd3 fd4 fd5 fd6 fd7 fd8 fd9 fd10 fd11 fd12 fd14 fd15 fd16 fd17 : FuncData} (F : Fun K "_law_named" "_law_named" s_named f fd)
    (E0 : ErC K J0 f0 ["part"]) (I0 : Fun K "__init__" "BadRule.__init__" s_eBadRule f0 fd0) (g0 : mg "BadRule" = some (.ref J0)) (b0 : L2.Binds K fd0 ["self", "part"] [])
    (E1 : ErC K J1 f1 ["at"]) (I1 : Fun K "__init__" "BadBook.__init__" s_eBadBook f1 fd1) (g1 : mg "BadBook" = some (.ref J1)) (b1 : L2.Binds K fd1 ["self", "at"] [])
    (E2 : ErC K J2 f2 ["value"]) (I2 : Fun K "__init__" "BadSize.__init__" s_eBadSize f2 fd2) (g2 : mg "BadSize" = some (.ref J2)) (b2 : L2.Binds K fd2 ["self", "value"] [])
    (E3 : ErC K J3 f3 ["part"]) (I3 : Fun K "__init__" "BadTable.__init__" s_eBadTable f3 fd3) (g3 : mg "BadTable" = some (.ref J3)) (b3 : L2.Binds K fd3 ["self", "part"] [])
    (E4 : ErC K J4 f4 ["part"]) (I4 : Fun K "__init__" "BadSizes.__init__" s_eBadSizes f4 fd4) (g4 : mg "BadSizes" = some (.ref J4)) (b4 : L2.Binds K fd4 ["self", "part"] [])
    (E5 : ErC K J5 f5 ["value"]) (I5 : Fun K "__init__" "BadNumber.__init__" s_eBadNumber f5 fd5) (g5 : mg "BadNumber" = some (.ref J5)) (b5 : L2.Binds K fd5 ["self", "value"] [])
    (E6 : ErC K J6 f6 ["number"]) (I6 : Fun K "__init__" "NoTake.__init__" s_eNoTake f6 fd6) (g6 : mg "NoTake" = some (.ref J6)) (b6 : L2.Binds K fd6 ["self", "number"] [])
    (E7 : ErC K J7 f7 ["index"]) (I7 : Fun K "__init__" "NoPile.__init__" s_eNoPile f7 fd7) (g7 : mg "NoPile" = some (.ref J7)) (b7 : L2.Binds K fd7 ["self", "index"] [])
    (E8 : ErC K J8 f8 ["rule"]) (I8 : Fun K "__init__" "NotFree.__init__" s_eNotFree f8 fd8) (g8 : mg "NotFree" = some (.ref J8)) (b8 : L2.Binds K fd8 ["self", "rule"] [])
    (E9 : ErC K J9 f9 ["heap", "left"]) (I9 : Fun K "__init__" "Meets.__init__" s_eMeets f9 fd9) (g9 : mg "Meets" = some (.ref J9)) (b9 : L2.Binds K fd9 ["self", "heap", "left"] [])
    (E10 : ErC K J10 f10 ["rule"]) (I10 : Fun K "__init__" "Needed.__init__" s_eNeeded f10 fd10) (g10 : mg "Needed" = some (.ref J10)) (b10 : L2.Binds K fd10 ["self", "rule"] [])
    (E11 : ErC K J11 f11 ["heap", "worth"]) (I11 : Fun K "__init__" "Lacks.__init__" s_eLacks f11 fd11) (g11 : mg "Lacks" = some (.ref J11)) (b11 : L2.Binds K fd11 ["self", "heap", "worth"] [])
    (E12 : ErC K J12 f12 ["rule"]) (I12 : Fun K "__init__" "NotIn.__init__" s_eNotIn f12 fd12) (g12 : mg "NotIn" = some (.ref J12)) (b12 : L2.Binds K fd12 ["self", "rule"] [])
    (N13 : PySem.W.excIn K J13 bmVE "ValueError.__new__" = true) (g13 : mg "Nothing" = some (.ref J13)) (k13 : PySem.W.keepIn K (.ref J13) = true)
    (E14 : ErC K J14 f14 ["value"]) (I14 : Fun K "__init__" "BadLimit.__init__" s_eBadLimit f14 fd14) (g14 : mg "BadLimit" = some (.ref J14)) (b14 : L2.Binds K fd14 ["self", "value"] [])
    (E15 : ErC K J15 f15 ["what", "most"]) (I15 : Fun K "__init__" "TooMany.__init__" s_eTooMany f15 fd15) (g15 : mg "TooMany" = some (.ref J15)) (b15 : L2.Binds K fd15 ["self", "what", "most"] [])
    (E16 : ErC K J16 f16 ["line", "word"]) (I16 : Fun K "__init__" "BadText.__init__" s_eBadText f16 fd16) (g16 : mg "BadText" = some (.ref J16)) (b16 : L2.Binds K fd16 ["self", "line", "word"] [])
    (E17 : ErC K J17 f17 ["word"]) (I17 : Fun K "__init__" "NoLine.__init__" s_eNoLine f17 fd17) (g17 : mg "NoLine" = some (.ref J17)) (b17 : L2.Binds K fd17 ["self", "word"] [])
    (bk0 : KBn K fd0 ["self", "part"] 1 ["part"] (fun us ws => us ++ ws) (fun vs zs => vs ++ zs))
    (bk1 : KBn K fd1 ["self", "at"] 1 ["at"] (fun us ws => us ++ ws) (fun vs zs => vs ++ zs))
    (bk2 : KBn K fd2 ["self", "value"] 1 ["value"] (fun us ws => us ++ ws) (fun vs zs => vs ++ zs))
    (bk3 : KBn K fd3 ["self", "part"] 1 ["part"] (fun us ws => us ++ ws) (fun vs zs => vs ++ zs))
    (bk4 : KBn K fd4 ["self", "part"] 1 ["part"] (fun us ws => us ++ ws) (fun vs zs => vs ++ zs))
    (bk5 : KBn K fd5 ["self", "value"] 1 ["value"] (fun us ws => us ++ ws) (fun vs zs => vs ++ zs))
    (bk6 : KBn K fd6 ["self", "number"] 1 ["number"] (fun us ws => us ++ ws) (fun vs zs => vs ++ zs))
    (bk7 : KBn K fd7 ["self", "index"] 1 ["index"] (fun us ws => us ++ ws) (fun vs zs => vs ++ zs))
    (bk8 : KBn K fd8 ["self", "rule"] 1 ["rule"] (fun us ws => us ++ ws) (fun vs zs => vs ++ zs))
    (bk9 : KBn K fd9 ["self", "heap", "left"] 1 ["left", "heap"] (fun us ws => us ++ ws.reverse) (fun vs zs => vs ++ zs.reverse))
    (bk10 : KBn K fd10 ["self", "rule"] 1 ["rule"] (fun us ws => us ++ ws) (fun vs zs => vs ++ zs))
    (bk11 : KBn K fd11 ["self", "heap", "worth"] 1 ["worth", "heap"] (fun us ws => us ++ ws.reverse) (fun vs zs => vs ++ zs.reverse))
    (bk12 : KBn K fd12 ["self", "rule"] 1 ["rule"] (fun us ws => us ++ ws) (fun vs zs => vs ++ zs))
    (bk14 : KBn K fd14 ["self", "value"] 1 ["value"] (fun us ws => us ++ ws) (fun vs zs => vs ++ zs))
    (bk15 : KBn K fd15 ["self", "what", "most"] 1 ["most", "what"] (fun us ws => us ++ ws.reverse) (fun vs zs => vs ++ zs.reverse))
    (bk16 : KBn K fd16 ["self", "line", "word"] 1 ["word", "line"] (fun us ws => us ++ ws.reverse) (fun vs zs => vs ++ zs.reverse))
    (bk17 : KBn K fd17 ["self", "word"] 1 ["word"] (fun us ws => us ++ ws) (fun vs zs => vs ++ zs)) : FnOk P w K mg base CX0 3 f fd ["_law_first", "_law_second"] (spMade J0 J1 J2 J3 J4 J5 J6 J7 J8 J9 J10 J11 J12 J13 J14 J15 J16 J17) := by
  have G0 : FnOk P w K mg base CX0 1 f0 fd0 ["self", "part"] (spErrI J0 "part") := ok_eBadRule I0 E0
  have G1 : FnOk P w K mg base CX0 1 f1 fd1 ["self", "at"] (spErrI J1 "at") := ok_eBadBook I1 E1
  have G2 : FnOk P w K mg base CX0 1 f2 fd2 ["self", "value"] (spErrI J2 "value") := ok_eBadSize I2 E2
  have G3 : FnOk P w K mg base CX0 1 f3 fd3 ["self", "part"] (spErrI J3 "part") := ok_eBadTable I3 E3
  have G4 : FnOk P w K mg base CX0 1 f4 fd4 ["self", "part"] (spErrI J4 "part") := ok_eBadSizes I4 E4
  have G5 : FnOk P w K mg base CX0 1 f5 fd5 ["self", "value"] (spErrI J5 "value") := ok_eBadNumber I5 E5
  have G6 : FnOk P w K mg base CX0 1 f6 fd6 ["self", "number"] (spErrI J6 "number") := ok_eNoTake I6 E6
  have G7 : FnOk P w K mg base CX0 1 f7 fd7 ["self", "index"] (spErrI J7 "index") := ok_eNoPile I7 E7
  have G8 : FnOk P w K mg base CX0 1 f8 fd8 ["self", "rule"] (spErrI J8 "rule") := ok_eNotFree I8 E8
  have G9 : FnOk P w K mg base CX0 1 f9 fd9 ["self", "heap", "left"] (spErr2 J9 "heap" "left") := ok_eMeets I9 E9
  have G10 : FnOk P w K mg base CX0 1 f10 fd10 ["self", "rule"] (spErrI J10 "rule") := ok_eNeeded I10 E10
  have G11 : FnOk P w K mg base CX0 1 f11 fd11 ["self", "heap", "worth"] (spErr2 J11 "heap" "worth") := ok_eLacks I11 E11
  have G12 : FnOk P w K mg base CX0 1 f12 fd12 ["self", "rule"] (spErrI J12 "rule") := ok_eNotIn I12 E12
  have G14 : FnOk P w K mg base CX0 1 f14 fd14 ["self", "value"] (spErrI J14 "value") := ok_eBadLimit I14 E14
  have G15 : FnOk P w K mg base CX0 1 f15 fd15 ["self", "what", "most"] (spErr2 J15 "what" "most") := ok_eTooMany I15 E15
  have G16 : FnOk P w K mg base CX0 1 f16 fd16 ["self", "line", "word"] (spErr2 J16 "line" "word") := ok_eBadText I16 E16
  have G17 : FnOk P w K mg base CX0 1 f17 fd17 ["self", "word"] (spErrI J17 "word") := ok_eNoLine I17 E17
  refine F.ok sc_named (fun vs H Q E h => ?_) (fun cdv A outer s H vs Q E hr h => ?_)
  · obtain ⟨v, w, rfl, _⟩ := h
    rfl
  · obtain ⟨v, w, rfl, fin⟩ := h
    refine ⟨_, (C8.pss_cut (ps_set (i := 2) sc_named.nd rfl (Or.inl rfl) (pe_lst (pa_cons (pe_box (pe_mkVK E0.oB E0.iB E0.tB G0 (hr.mono (by decide)) bk0 pass0 rfl g0 (pk_cons (pv 0) pk_nil))) (pa_cons (pe_box (pe_mkVK E1.oB E1.iB E1.tB G1 (hr.mono (by decide)) bk1 pass0 rfl g1 (pk_cons (pv 0) pk_nil))) (pa_cons (pe_box (pe_mkVK E2.oB E2.iB E2.tB G2 (hr.mono (by decide)) bk2 pass0 rfl g2 (pk_cons (pv 0) pk_nil))) (pa_cons (pe_box (pe_mkVK E3.oB E3.iB E3.tB G3 (hr.mono (by decide)) bk3 pass0 rfl g3 (pk_cons (pv 0) pk_nil))) pa_nil))))))
  (C8.pss_cut (ps_set (i := 2) sc_named.nd rfl (Or.inl rfl) (pe_op op_cat (pv 2) (pe_lst (pa_cons (pe_box (pe_mkVK E4.oB E4.iB E4.tB G4 (hr.mono (by decide)) bk4 pass0 rfl g4 (pk_cons (pv 0) pk_nil))) (pa_cons (pe_box (pe_mkVK E5.oB E5.iB E5.tB G5 (hr.mono (by decide)) bk5 pass0 rfl g5 (pk_cons (pv 0) pk_nil))) (pa_cons (pe_box (pe_mkVK E6.oB E6.iB E6.tB G6 (hr.mono (by decide)) bk6 pass0 rfl g6 (pk_cons (pv 0) pk_nil))) (pa_cons (pe_box (pe_mkVK E7.oB E7.iB E7.tB G7 (hr.mono (by decide)) bk7 pass0 rfl g7 (pk_cons (pv 0) pk_nil))) pa_nil)))))))
  (C8.pss_cut (ps_set (i := 2) sc_named.nd rfl (Or.inl rfl) (pe_op op_cat (pv 2) (pe_lst (pa_cons (pe_box (pe_mkVK E8.oB E8.iB E8.tB G8 (hr.mono (by decide)) bk8 pass0 rfl g8 (pk_cons (pv 0) pk_nil))) (pa_cons (pe_box (pe_mkVK E9.oB E9.iB E9.tB G9 (hr.mono (by decide)) bk9 pass0 rfl g9 (pk_cons (pv 1) (pk_cons (pv 0) pk_nil)))) (pa_cons (pe_box (pe_mkVK E10.oB E10.iB E10.tB G10 (hr.mono (by decide)) bk10 pass0 rfl g10 (pk_cons (pv 0) pk_nil))) pa_nil))))))
  (C8.pss_cut (ps_set (i := 2) sc_named.nd rfl (Or.inl rfl) (pe_op op_cat (pv 2) (pe_lst (pa_cons (pe_box (pe_mkVK E11.oB E11.iB E11.tB G11 (hr.mono (by decide)) bk11 pass0 rfl g11 (pk_cons (pv 1) (pk_cons (pv 0) pk_nil)))) (pa_cons (pe_box (pe_mkVK E12.oB E12.iB E12.tB G12 (hr.mono (by decide)) bk12 pass0 rfl g12 (pk_cons (pv 0) pk_nil))) (pa_cons (pe_box (pe_mkV0 PySem.F.excBase_ValueError N13 rfl g13 k13 rfl)) (pa_cons (pe_box (pe_mkVK E14.oB E14.iB E14.tB G14 (hr.mono (by decide)) bk14 pass0 rfl g14 (pk_cons (pv 0) pk_nil))) pa_nil)))))))
  (pss_one (ps_ret (pe_op op_cat (pv 2) (pe_lst (pa_cons (pe_box (pe_mkVK E15.oB E15.iB E15.tB G15 (hr.mono (by decide)) bk15 pass0 rfl g15 (pk_cons (pv 1) (pk_cons (pv 0) pk_nil)))) (pa_cons (pe_box (pe_mkVK E16.oB E16.iB E16.tB G16 (hr.mono (by decide)) bk16 pass0 rfl g16 (pk_cons (pv 1) (pk_cons (pv 0) pk_nil)))) (pa_cons (pe_box (pe_mkVK E17.oB E17.iB E17.tB G17 (hr.mono (by decide)) bk17 pass0 rfl g17 (pk_cons (pv 0) pk_nil))) pa_nil))))))))))), ?_⟩
    have sz : (10000 : Nat) ≤ sizeLine := by show 10000 ≤ 16777216; decide
    refine ⟨fun σ' H' => ∃ (l : Addr) (xs : List V), σ' = [some v, some w, some (.ref l)] ∧ Same H H' ∧ H' l = some (.lst xs) ∧ xs.length ≤ 100 ∧ EL H' xs [(J0, some [("part", v)]), (J1, some [("at", v)]), (J2, some [("value", v)]), (J3, some [("part", v)])], ?_, ?_⟩
    · refine mkK1_box rfl fun H0H a0 d0 s0 e0 => ?_
      refine mkK1_box rfl fun H1H a1 d1 s1 e1 => ?_
      refine mkK1_box rfl fun H2H a2 d2 s2 e2 => ?_
      refine mkK1_box rfl fun H3H a3 d3 s3 e3 => ?_
      refine ⟨by show 4 ≤ sizeLine; omega, fun l hl => ?_⟩
      have u := Same.new (o := .lst [V.ref a0, V.ref a1, V.ref a2, V.ref a3]) hl
      exact ⟨l, _, rfl, (((s0.trans s1).trans s2).trans s3).trans u, upd_same, by show 4 ≤ 100; decide, ⟨⟨a0, _, rfl, ((((e0.same s1).same s2).same s3).same u)⟩, ⟨a1, _, rfl, (((e1.same s2).same s3).same u)⟩, ⟨a2, _, rfl, ((e2.same s3).same u)⟩, ⟨a3, _, rfl, (e3.same u)⟩, True.intro⟩⟩
    rintro σ' Hk ⟨l, xs, rfl, sk, hk, few, el⟩
    refine ⟨fun σ' H' => ∃ (l : Addr) (xs : List V), σ' = [some v, some w, some (.ref l)] ∧ Same H H' ∧ H' l = some (.lst xs) ∧ xs.length ≤ 120 ∧ EL H' xs [(J0, some [("part", v)]), (J1, some [("at", v)]), (J2, some [("value", v)]), (J3, some [("part", v)]), (J4, some [("part", v)]), (J5, some [("value", v)]), (J6, some [("number", v)]), (J7, some [("index", v)])], ?_, ?_⟩
    · refine ⟨_, rfl, ?_⟩
      refine mkK1_box rfl fun H4H a4 d4 s4 e4 => ?_
      refine mkK1_box rfl fun H5H a5 d5 s5 e5 => ?_
      refine mkK1_box rfl fun H6H a6 d6 s6 e6 => ?_
      refine mkK1_box rfl fun H7H a7 d7 s7 e7 => ?_
      refine ⟨by show 4 ≤ sizeLine; omega, fun l2 hl2 => ?_⟩
      have u := Same.new (o := .lst [V.ref a4, V.ref a5, V.ref a6, V.ref a7]) hl2
      have t := (((s4.trans s5).trans s6).trans s7).trans u
      refine ⟨l, l2, _, _, rfl, rfl, t _ _ hk, upd_same, by show xs.length + 4 ≤ sizeLine; omega, fun l3 hl3 => ?_⟩
      have u3 := Same.new (o := .lst (xs ++ [V.ref a4, V.ref a5, V.ref a6, V.ref a7])) hl3
      have en : EL _ [V.ref a4, V.ref a5, V.ref a6, V.ref a7] [(J4, some [("part", v)]), (J5, some [("value", v)]), (J6, some [("number", v)]), (J7, some [("index", v)])] := ⟨⟨a4, _, rfl, ((((e4.same s5).same s6).same s7).same u)⟩, ⟨a5, _, rfl, (((e5.same s6).same s7).same u)⟩, ⟨a6, _, rfl, ((e6.same s7).same u)⟩, ⟨a7, _, rfl, (e7.same u)⟩, True.intro⟩
      exact ⟨l3, _, rfl, (sk.trans t).trans u3, upd_same, by rw [List.length_append]; show xs.length + 4 ≤ 120; omega, ((el.same t).app en).same u3⟩
    rintro σ' Hk1 ⟨l, xs, rfl, sk, hk, few, el⟩
    refine ⟨fun σ' H' => ∃ (l : Addr) (xs : List V), σ' = [some v, some w, some (.ref l)] ∧ Same H H' ∧ H' l = some (.lst xs) ∧ xs.length ≤ 140 ∧ EL H' xs [(J0, some [("part", v)]), (J1, some [("at", v)]), (J2, some [("value", v)]), (J3, some [("part", v)]), (J4, some [("part", v)]), (J5, some [("value", v)]), (J6, some [("number", v)]), (J7, some [("index", v)]), (J8, some [("rule", v)]), (J9, some [("left", w), ("heap", v)]), (J10, some [("rule", v)])], ?_, ?_⟩
    · refine ⟨_, rfl, ?_⟩
      refine mkK1_box rfl fun H8H a8 d8 s8 e8 => ?_
      refine mkK2_box rfl rfl fun H9H a9 d9 s9 e9 => ?_
      refine mkK1_box rfl fun H10H a10 d10 s10 e10 => ?_
      refine ⟨by show 3 ≤ sizeLine; omega, fun l2 hl2 => ?_⟩
      have u := Same.new (o := .lst [V.ref a8, V.ref a9, V.ref a10]) hl2
      have t := ((s8.trans s9).trans s10).trans u
      refine ⟨l, l2, _, _, rfl, rfl, t _ _ hk, upd_same, by show xs.length + 3 ≤ sizeLine; omega, fun l3 hl3 => ?_⟩
      have u3 := Same.new (o := .lst (xs ++ [V.ref a8, V.ref a9, V.ref a10])) hl3
      have en : EL _ [V.ref a8, V.ref a9, V.ref a10] [(J8, some [("rule", v)]), (J9, some [("left", w), ("heap", v)]), (J10, some [("rule", v)])] := ⟨⟨a8, _, rfl, (((e8.same s9).same s10).same u)⟩, ⟨a9, _, rfl, ((e9.same s10).same u)⟩, ⟨a10, _, rfl, (e10.same u)⟩, True.intro⟩
      exact ⟨l3, _, rfl, (sk.trans t).trans u3, upd_same, by rw [List.length_append]; show xs.length + 3 ≤ 140; omega, ((el.same t).app en).same u3⟩
    rintro σ' Hk2 ⟨l, xs, rfl, sk, hk, few, el⟩
    refine ⟨fun σ' H' => ∃ (l : Addr) (xs : List V), σ' = [some v, some w, some (.ref l)] ∧ Same H H' ∧ H' l = some (.lst xs) ∧ xs.length ≤ 160 ∧ EL H' xs [(J0, some [("part", v)]), (J1, some [("at", v)]), (J2, some [("value", v)]), (J3, some [("part", v)]), (J4, some [("part", v)]), (J5, some [("value", v)]), (J6, some [("number", v)]), (J7, some [("index", v)]), (J8, some [("rule", v)]), (J9, some [("left", w), ("heap", v)]), (J10, some [("rule", v)]), (J11, some [("worth", w), ("heap", v)]), (J12, some [("rule", v)]), (J13, none), (J14, some [("value", v)])], ?_, ?_⟩
    · refine ⟨_, rfl, ?_⟩
      refine mkK2_box rfl rfl fun H11H a11 d11 s11 e11 => ?_
      refine mkK1_box rfl fun H12H a12 d12 s12 e12 => ?_
      refine mkV0_box fun H13H a13 s13 e13 => ?_
      refine mkK1_box rfl fun H14H a14 d14 s14 e14 => ?_
      refine ⟨by show 4 ≤ sizeLine; omega, fun l2 hl2 => ?_⟩
      have u := Same.new (o := .lst [V.ref a11, V.ref a12, V.ref a13, V.ref a14]) hl2
      have t := (((s11.trans s12).trans s13).trans s14).trans u
      refine ⟨l, l2, _, _, rfl, rfl, t _ _ hk, upd_same, by show xs.length + 4 ≤ sizeLine; omega, fun l3 hl3 => ?_⟩
      have u3 := Same.new (o := .lst (xs ++ [V.ref a11, V.ref a12, V.ref a13, V.ref a14])) hl3
      have en : EL _ [V.ref a11, V.ref a12, V.ref a13, V.ref a14] [(J11, some [("worth", w), ("heap", v)]), (J12, some [("rule", v)]), (J13, none), (J14, some [("value", v)])] := ⟨⟨a11, _, rfl, ((((e11.same s12).same s13).same s14).same u)⟩, ⟨a12, _, rfl, (((e12.same s13).same s14).same u)⟩, ⟨a13, rfl, (u _ _ (s14 _ _ e13))⟩, ⟨a14, _, rfl, (e14.same u)⟩, True.intro⟩
      exact ⟨l3, _, rfl, (sk.trans t).trans u3, upd_same, by rw [List.length_append]; show xs.length + 4 ≤ 160; omega, ((el.same t).app en).same u3⟩
    rintro σ' Hk3 ⟨l, xs, rfl, sk, hk, few, el⟩
    refine ⟨_, rfl, ?_⟩
    refine mkK2_box rfl rfl fun H15H a15 d15 s15 e15 => ?_
    refine mkK2_box rfl rfl fun H16H a16 d16 s16 e16 => ?_
    refine mkK1_box rfl fun H17H a17 d17 s17 e17 => ?_
    refine ⟨by show 3 ≤ sizeLine; omega, fun l2 hl2 => ?_⟩
    have u := Same.new (o := .lst [V.ref a15, V.ref a16, V.ref a17]) hl2
    have t := ((s15.trans s16).trans s17).trans u
    refine ⟨l, l2, _, _, rfl, rfl, t _ _ hk, upd_same, by show xs.length + 3 ≤ sizeLine; omega, fun l3 hl3 => ?_⟩
    have u3 := Same.new (o := .lst (xs ++ [V.ref a15, V.ref a16, V.ref a17])) hl3
    have en : EL _ [V.ref a15, V.ref a16, V.ref a17] [(J15, some [("most", w), ("what", v)]), (J16, some [("word", w), ("line", v)]), (J17, some [("word", v)])] := ⟨⟨a15, _, rfl, (((e15.same s16).same s17).same u)⟩, ⟨a16, _, rfl, ((e16.same s17).same u)⟩, ⟨a17, _, rfl, (e17.same u)⟩, True.intro⟩
    exact fin _ l3 _ ((sk.trans t).trans u3) upd_same (((el.same t).app en).same u3)
end
end Fz
set_option Elab.async false
set_option linter.all false
set_option maxRecDepth 100000
set_option maxHeartbeats 2000000
namespace Fz
open PySem PySem.Spec PyProof.Rows L2
/-- one step of a reading -/
local macro_rules | `(tactic| walk_at "st") => `(tactic| first
  | refine ⟨_, rfl, ?_⟩
  | refine Or.inl ⟨_, rfl, ?_⟩
  | refine Or.inr ⟨_, rfl, ?_⟩
  | refine ⟨_, _, _, _, rfl, rfl, SqL.of (by first | assumption | exact upd_same), rfl, ?_⟩
  | refine ⟨_, _, _, _, rfl, rfl, (by first | assumption | exact upd_same), rfl, ?_⟩
  | refine ⟨_, _, rfl, .inl ⟨_, SqL.of (by first | assumption | exact upd_same), rfl⟩, ?_⟩
  | refine ⟨_, _, rfl, rfl, (show (0 : Int) < _ by first | decide | omega), ?_⟩
  | refine ⟨_, _, rfl, rfl, (show (0 : Int) < _ ∧ _ < _ by first | exact ⟨by decide, by decide⟩ | omega), ?_⟩
  | refine ⟨_, _, rfl, rfl, (show (_ < _ ∧ _ < _) ∨ (_ < _ ∧ _ < _) by first | exact .inl ⟨by decide, by decide⟩ | omega), ?_⟩
  | refine ⟨_, _, rfl, rfl, (show (0 : Int) ≤ _ ∧ _ ≤ _ ∧ _ < _ by first | exact ⟨by decide, by decide, by decide⟩ | exact ⟨by decide, by decide, by omega⟩), ?_⟩
  | refine ⟨_, _, rfl, rfl, ?_⟩)

/-! ### values -/
/-- a drawn value: the rule Fixed(2, 1, 3), or a value of a built-in kind with the text z -/
def GoodV (K : PySem.W.Frag) (CF p : Addr) (H : Hp) (v : V) : Prop := (∃ x dx k, v = .ref x ∧ x ≠ p ∧ H x = some (.ins CF dx (ffs 2 1 3 0 k))) ∨
  ∃ z : Str, ∀ H', Mv p H H' → OtherV K H' v ∧ ∀ Q : VK, Q (.str z) H' → (rRepA K [v] H' Q ∨ rRepD1 [v] H' Q)
theorem GoodV.mv {K : PySem.W.Frag} {CF p : Addr} {H H' : Hp} {v : V} (h : GoodV K CF p H v) (s : Mv p H H') : GoodV K CF p H' v := by
  rcases h with ⟨x, dx, k, e, n, h⟩ | ⟨z, h⟩
  · exact .inl ⟨x, dx, k, e, n, s _ _ n h⟩
  · exact .inr ⟨z, fun H2 s2 => h H2 (s.trans s2)⟩
theorem GoodV.same {K : PySem.W.Frag} {CF p : Addr} {H H' : Hp} {v : V} (h : GoodV K CF p H v) (s : Same H H') : GoodV K CF p H' v := h.mv (Same.mv s p)
theorem goodv_of {K : PySem.W.Frag} {CF p : Addr} {H : Hp} {v : V} (d : PyData) (h : ∀ H', Mv p H H' → Kd H' v ∧ RepData K H' v d) (sh : d.showable = true) (dp : d.depth ≤ 60) (sz : d.shown.length ≤ 1000) : GoodV K CF p H v :=
  .inr ⟨d.shown, fun H' s => ⟨OtherV.same (h H' s).1 (fun _ _ z => z), fun Q q => .inl ⟨⟨v, d, rfl, (h H' s).2, sh, dp, Nat.le_trans sz (by show 1000 ≤ 16777216; decide), q⟩⟩⟩⟩
theorem good_sc {K : PySem.W.Frag} {CF p : Addr} {H : Hp} {v : V} (d : PyData) (k : Kd H v) (nr : ∀ a, v ≠ .ref a) (h : ∀ H', Dp K H' v d) (nd : d.hasDict = false) (sh : d.showable = true) (dp : d.depth ≤ 60) (sz : d.shown.length ≤ 1000) : GoodV K CF p H v :=
  goodv_of d (fun H' s => ⟨k.keep fun a u e _ => absurd e (nr a), .inl ⟨h H', nd⟩⟩) sh dp sz
def spValue (K : PySem.W.Frag) (CF : Addr) : Sp := fun vs H Q _ => ∃ (n : Nat) (p q : Addr), vs = [.ref p] ∧ PenAt n H p q ∧ n < 90000 ∧ ∀ H' v, PenAt (n + 1) H' p q → Mv p H H' → v ≠ .ref p → GoodV K CF p H' v → Q v H'
theorem fix_box {CF CB : Addr} {σ : L2.St} {H : Hp} {Q : VK} {E : XK} (hQ : ∀ H' x dx k, H x = none → Same H H' → H' x = some (.ins CF dx (ffs 2 1 3 0 k)) → Q (.ref x) H') : Box (tMake CF (spFixed CB CF) [V.int 0] E (tCons (tC (.int 2)) (tCons (tC (.int 1)) (tCons (tC (.int 3)) tNil)))) σ H Q :=
  ⟨fun x dx hx hdx ne => fixed_made (Q := Q) (z := .int 2) (r := .int 1) (m := .int 3) (l := .int 0) True.intro True.intro True.intro True.intro (by decide +kernel) hx hdx fun H' k s at_ => hQ H' x dx k hx s at_⟩

section
variable {P : Program} {w : World} {K : PySem.W.Frag} {mg : Str → Option Value} {base : Heap}

abbrev s_value : Stmt := topS 44
theorem sc_value : FnScope ["_law_pen_here", "_law_some"] ["_law_pen_here"] (defScope s_value) := ⟨rfl, rfl, rfl, by decide +kernel, rfl, by decide +kernel, by decide +kernel⟩
theorem ok_value {CB CF f fD fP fFx : Addr} {fd fdD fdP fdFx : FuncData} {ds2 : List Value} (F : Fun K "_law_value" "_law_value" s_value f fd) (U : Blt mg) (D : Fun K "_law_draw" "_law_draw" s_draw fD fdD) (gD : mg "_law_draw" = some (.ref fD)) (b_draw : L2.Binds K fdD ["_law_pen_here", "_law_many"] [])
    (Pk : Fun K "_law_pick" "_law_pick" s_pick fP fdP) (gP : mg "_law_pick" = some (.ref fP)) (b_pick : L2.Binds K fdP ["_law_pen_here", "_law_some"] [])
    (MkF : Mk K CF fFx) (G_fixed : FnOk P w K mg base (L2.CX P w) 5 fFx fdFx pFx (spFixed CB CF)) (gF : mg "Fixed" = some (.ref CF)) (b_two : L2.Binds K fdFx pFx ds2) (v_two : Vals [V.int 0] ds2) : FnOk P w K mg base CX0 7 f fd ["_law_pen_here"] (spValue K CF) := by
  have G_pick : FnOk P w K mg base CX0 2 fP fdP ["_law_pen_here", "_law_some"] (spPick K) := ok_pick Pk U D gD b_draw
  refine F.ok sc_value (fun vs H Q E h => ?_) (fun cdv A outer s H vs Q E hr h => ?_)
  · obtain ⟨n, p, q, rfl, _⟩ := h
    rfl
  · obtain ⟨n, p, q, rfl, hp, hn, fin⟩ := h
    refine ⟨_, (pss_cons (ps_set (i := 1) sc_value.nd rfl (Or.inl rfl) (pe_lst (pa_cons pe_non (pa_cons pe_bl (pa_cons pe_bl (pa_cons pe_int (pa_cons pe_int (pa_cons (pe_un un_neg pe_int) (pa_cons (pe_op op_pow pe_int pe_int) (pa_cons pe_str (pa_cons pe_str (pa_cons (pe_tup pa_nil) (pa_cons (pe_tup (pa_cons pe_int (pa_cons pe_str pa_nil))) (pa_cons (pe_lst pa_nil) (pa_cons (pe_lst (pa_cons pe_non pa_nil)) (pa_cons pe_dnewK (pa_cons (pe_disp (pps_cons pe_str pe_int pps_nil) (by rfl) (by rfl) (fun z => by cases z) (by decide)) pa_nil)))))))))))))))))
  (pss_one (ps_ret (pe_call G_pick (hr.mono (by decide)) rfl gP Pk.kp b_pick .nil pass0 (by exact (pa_cons (pv 0) (pa_cons (pe_op op_cat (pv 1) (pe_lst (pa_cons (pe_box (pe_make MkF G_fixed (hr.mono (by decide)) rfl gF b_two v_two (passes_call LamX.takes0 (fun _ _ _ _ h => h)) (by exact (pa_cons pe_int (pa_cons pe_int (pa_cons pe_int pa_nil)))))) pa_nil))) pa_nil))))))), ?_⟩
    have sz : (10000 : Nat) ≤ sizeLine := by show 10000 ≤ 16777216; decide
    refine ⟨_, rfl, _, _, rfl, rfl, ⟨by decide, by decide, by decide⟩, by show 0 ≤ sizeLine; omega, fun t0 ht0 => ⟨by show 2 ≤ sizeLine; omega, fun t1 ht1 => ⟨by show 0 ≤ sizeLine; omega, fun l0 hl0 => ⟨by show 1 ≤ sizeLine; omega, fun l1 hl1 => fun d0 hd0 => fun d1 hd1 => ⟨upd_same, [(.inr "a", .int 1)], rfl, by decide, ?_⟩⟩⟩⟩⟩
    rw [upd_upd]
    refine ⟨by show 15 ≤ sizeLine; omega, fun so hso => ?_⟩
    have u1 := Same.new (o := .tup []) ht0
    have u2 := Same.new (o := .tup [V.int 1, .str "a"]) ht1
    have u3 := Same.new (o := .lst []) hl0
    have u4 := Same.new (o := .lst [V.non]) hl1
    have u5 := Same.new (o := .dK []) hd0
    have u6 := Same.new (o := .dK (mergeK [] [(.inr "a", .int 1)])) hd1
    have u7 := Same.new (o := .lst [V.non, .bl true, .bl false, .int 0, .int 1, .int (-1), .int (10 ^ 30), .str "", .str "fixed 1", .ref t0, .ref t1, .ref l0, .ref l1, .ref d0, .ref d1]) hso
    have p1 := ((((((hp.new (o := .tup []) ht0).new (o := .tup [V.int 1, .str "a"]) ht1).new (o := .lst []) hl0).new (o := .lst [V.non]) hl1).new (o := .dK []) hd0).new (o := .dK (mergeK [] [(.inr "a", .int 1)])) hd1).new (o := .lst [V.non, .bl true, .bl false, .int 0, .int 1, .int (-1), .int (10 ^ 30), .str "", .str "fixed 1", .ref t0, .ref t1, .ref l0, .ref l1, .ref d0, .ref d1]) hso
    have s6 := u6.trans u7
    have s5 := u5.trans s6
    have s4 := u4.trans s5
    have s3 := u3.trans s4
    have s2 := u2.trans s3
    have mv1 := Same.mv (u1.trans s2) p
    have np : ∀ {a : Addr}, H a = none → a ≠ p := fun h => (hp.fresh h).1
    refine ⟨_, rfl, _, rfl, fix_box fun H1 x dx k hx s1 at1 => ?_⟩
    refine ⟨by show 1 ≤ sizeLine; omega, fun l2 hl2 => ⟨so, l2, _, _, rfl, rfl, Same.new hl2 _ _ (s1 _ _ upd_same), upd_same, by show 15 + 1 ≤ sizeLine; omega, fun l3 hl3 => ?_⟩⟩
    have v1 := Same.new (o := .lst [V.ref x]) hl2
    have v2 := Same.new (o := .lst ([V.non, .bl true, .bl false, .int 0, .int 1, .int (-1), .int (10 ^ 30), .str "", .str "fixed 1", .ref t0, .ref t1, .ref l0, .ref l1, .ref d0, .ref d1] ++ [V.ref x])) hl3
    have sF := s1.trans (v1.trans v2)
    have p2 := (p1.same s1).same (v1.trans v2)
    refine ⟨n, p, q, l3, _, rfl, p2, by omega, ((p1.same s1).same v1 |>.fresh hl3).1, upd_same, by show 0 < 16; decide, by show 16 ≤ 1000; decide, fun H2 y p3 m3 hy => ?_⟩
    have mvA := (mv1.trans (Same.mv sF p)).trans m3
    have go : ∀ {a : Addr} {o : HO}, a ≠ p → (upd (upd (upd (upd (upd (upd (upd H t0 (.tup [])) t1 (.tup [V.int 1, .str "a"])) l0 (.lst [])) l1 (.lst [V.non])) d0 (.dK [])) d1 (.dK (mergeK [] [(.inr "a", .int 1)]))) so (.lst [V.non, .bl true, .bl false, .int 0, .int 1, .int (-1), .int (10 ^ 30), .str "", .str "fixed 1", .ref t0, .ref t1, .ref l0, .ref l1, .ref d0, .ref d1])) a = some o → H2 a = some o := fun na h => m3 _ _ na (sF _ _ h)
    have q0 := hp.new (o := .tup []) ht0
    have q1 := q0.new (o := .tup [V.int 1, .str "a"]) ht1
    have q2 := q1.new (o := .lst []) hl0
    have q3 := q2.new (o := .lst [V.non]) hl1
    have q4 := q3.new (o := .dK []) hd0
    have ht0' := go (np ht0) (s2 _ _ upd_same)
    have ht1' := go (q0.fresh ht1).1 (s3 _ _ upd_same)
    have hl0' := go (q1.fresh hl0).1 (s4 _ _ upd_same)
    have hl1' := go (q2.fresh hl1).1 (s5 _ _ upd_same)
    have hd0' := go (q3.fresh hd0).1 (s6 _ _ upd_same)
    have hd1' := go (q4.fresh hd1).1 (u7 _ _ upd_same)
    have rn : ∀ {a : Addr}, a ≠ p → V.ref a ≠ V.ref p := fun h z => h (by cases z; rfl)
    simp only [List.mem_append, List.mem_cons, List.not_mem_nil, or_false] at hy
    rcases hy with (rfl | rfl | rfl | rfl | rfl | rfl | rfl | rfl | rfl | rfl | rfl | rfl | rfl | rfl | rfl) | rfl
    · exact fin H2 _ p3 mvA (fun z => nomatch z) (good_sc .none True.intro (fun _ z => nomatch z) (fun _ => .non) rfl rfl (by decide) (by decide +kernel))
    · exact fin H2 _ p3 mvA (fun z => nomatch z) (good_sc (.bool true) True.intro (fun _ z => nomatch z) (fun _ => .bl _) rfl rfl (by decide) (by decide +kernel))
    · exact fin H2 _ p3 mvA (fun z => nomatch z) (good_sc (.bool false) True.intro (fun _ z => nomatch z) (fun _ => .bl _) rfl rfl (by decide) (by decide +kernel))
    · exact fin H2 _ p3 mvA (fun z => nomatch z) (good_sc (.int 0) True.intro (fun _ z => nomatch z) (fun _ => .int _) rfl (by decide +kernel) (by decide) (by decide +kernel))
    · exact fin H2 _ p3 mvA (fun z => nomatch z) (good_sc (.int 1) True.intro (fun _ z => nomatch z) (fun _ => .int _) rfl (by decide +kernel) (by decide) (by decide +kernel))
    · exact fin H2 _ p3 mvA (fun z => nomatch z) (good_sc (.int (-1)) True.intro (fun _ z => nomatch z) (fun _ => .int _) rfl (by decide +kernel) (by decide) (by decide +kernel))
    · exact fin H2 _ p3 mvA (fun z => nomatch z) (good_sc (.int (10 ^ 30)) True.intro (fun _ z => nomatch z) (fun _ => .int _) rfl (by decide +kernel) (by decide) (by decide +kernel))
    · exact fin H2 _ p3 mvA (fun z => nomatch z) (good_sc (.str "") True.intro (fun _ z => nomatch z) (fun _ => .str _) rfl (by decide +kernel) (by decide) (by decide +kernel))
    · exact fin H2 _ p3 mvA (fun z => nomatch z) (good_sc (.str "fixed 1") True.intro (fun _ z => nomatch z) (fun _ => .str _) rfl (by decide +kernel) (by decide) (by decide +kernel))
    · exact fin H2 _ p3 mvA (rn (np ht0)) (goodv_of (.tuple []) (fun H' s => ⟨.inl ⟨_, s _ _ (np ht0) ht0'⟩, .inl ⟨Dp.tup (SqT.of (s _ _ (np ht0) ht0')) .nil, by decide +kernel⟩⟩) (by decide +kernel) (by decide +kernel) (by decide +kernel))
    · exact fin H2 _ p3 mvA (rn (q0.fresh ht1).1) (goodv_of (.tuple [.int 1, .str "a"]) (fun H' s => ⟨.inl ⟨_, s _ _ (q0.fresh ht1).1 ht1'⟩, .inl ⟨Dp.tup (SqT.of (s _ _ (q0.fresh ht1).1 ht1')) (.cons (.int _) (.cons (.str _) .nil)), by decide +kernel⟩⟩) (by decide +kernel) (by decide +kernel) (by decide +kernel))
    · exact fin H2 _ p3 mvA (rn (q1.fresh hl0).1) (goodv_of (.list []) (fun H' s => ⟨.inr (.inl ⟨_, s _ _ (q1.fresh hl0).1 hl0'⟩), .inl ⟨Dp.lst (SqL.of (s _ _ (q1.fresh hl0).1 hl0')) .nil, by decide +kernel⟩⟩) (by decide +kernel) (by decide +kernel) (by decide +kernel))
    · exact fin H2 _ p3 mvA (rn (q2.fresh hl1).1) (goodv_of (.list [.none]) (fun H' s => ⟨.inr (.inl ⟨_, s _ _ (q2.fresh hl1).1 hl1'⟩), .inl ⟨Dp.lst (SqL.of (s _ _ (q2.fresh hl1).1 hl1')) (.cons .non .nil), by decide +kernel⟩⟩) (by decide +kernel) (by decide +kernel) (by decide +kernel))
    · exact fin H2 _ p3 mvA (rn (q3.fresh hd0).1) (goodv_of (.dict []) (fun H' s => ⟨.inr (.inr ⟨_, s _ _ (q3.fresh hd0).1 hd0'⟩), .inr ⟨_, rfl, s _ _ (q3.fresh hd0).1 hd0', rfl⟩⟩) (by decide +kernel) (by decide +kernel) (by decide +kernel))
    · exact fin H2 _ p3 mvA (rn (q4.fresh hd1).1) (.inr ⟨(PyData.dict [(.str "a", .int 1)]).shown, fun H' s => ⟨OtherV.same (.inr (.inr ⟨_, s _ _ (q4.fresh hd1).1 hd1'⟩)) (fun _ _ z => z), fun Q q => .inr ⟨_, "a", 1, rfl, s _ _ (q4.fresh hd1).1 hd1', by decide +kernel, by decide +kernel, q⟩⟩⟩)
    · have xp : x ≠ p := (p1.fresh hx).1
      exact fin H2 _ p3 mvA (rn xp) (.inl ⟨x, dx, k, rfl, xp, m3 _ _ xp ((v1.trans v2) _ _ at1)⟩)

abbrev s_same : Stmt := topS 49
theorem sc_same : FnScope ["_law_one", "_law_other"] ["_law_one", "_law_other"] (defScope s_same) := ⟨rfl, rfl, rfl, by decide +kernel, rfl, by decide +kernel, by decide +kernel⟩
def spSame (K : PySem.W.Frag) (CF : Addr) : Sp := fun vs H Q _ => ∃ (p : Addr) (v : V), vs = [v, v] ∧ GoodV K CF p H v ∧ Q (.bl true) H
theorem ok_same {CF f fEq : Addr} {fd fdEq : FuncData} (F : Fun K "_law_is_same" "_law_is_same" s_same f fd) (U : Blt mg) (IC : InsC K CF) (tyF : TyC K CF) (tC : PySem.W.typeIn K (.ref CF) = some (.type "type")) (kFF : PySem.W.kitOne K (.ref CF) (.ref CF) = some true) (gF : mg "Fixed" = some (.ref CF))
    (oF : PySem.W.findIn K (.ref CF) "__eq__" = some (some (.ref fEq))) (iF : PySem.W.isFn K (.ref fEq) = true) (G_eqF : FnOk P w K mg base CX0 1 fEq fdEq ["self", "other"] (spEqR K CF)) (bF : L2.Binds K fdEq ["self", "other"] []) : FnG P w K mg base CX0 3 f fd ["_law_one", "_law_other"] (spSame K CF) := by
  refine funG F sc_same (fun vs H Q E h => ?_) (fun cdv A outer s H vs Q E _ hr hg h => ?_)
  · obtain ⟨_, v, rfl, _⟩ := h
    rfl
  · obtain ⟨p, v, rfl, good, fin⟩ := h
    refine ⟨_, (pss_cons (ps_if (PW.pt (pw_or (pt_val (pe_callB call_isi rfl U.z_isinstance (by decide +kernel) (pa_cons (pv 0) (pa_cons (pe_glob (v := .ref _) rfl gF rfl) pa_nil)))) (pw_or1 (pt_val (pe_callB call_isi rfl U.z_isinstance (by decide +kernel) (pa_cons (pv 1) (pa_cons (pe_glob (v := .ref _) rfl gF rfl) pa_nil))))))) (pss_one (ps_ret (pe_cmpR (op_eqO oF iF G_eqF bF (hr.mono (by decide))) (pv 0) (pv 1) (nomark _)))) pss_nil)
  (pss_one (ps_ret (pe_cmpR op_eq (pe_callB ((call_repA hg hr.units).or (call_repD1 hg hr.units)) rfl U.z_repr (by decide +kernel) (pa_cons (pv 0) pa_nil)) (pe_callB ((call_repA hg hr.units).or (call_repD1 hg hr.units)) rfl U.z_repr (by decide +kernel) (pa_cons (pv 1) pa_nil)) (nomark _))))), ?_⟩
    rcases good with ⟨x, dx, k, rfl, _, hx⟩ | ⟨z, h⟩
    · refine ⟨_, rfl, _, _, _, _, _, rfl, .own CF, tyF.ty IC.cl hx, kFF, _, rfl, iteT (iteT ?_)⟩
      refine ⟨_, rfl, _, rfl, x, dx, _, _, rfl, hx, tyF.ty IC.cl hx, nf_self, x, dx, _, _, _, rfl, hx, rfl, .inl ⟨x, dx, _, _, rfl, hx, rfl, ?_⟩⟩
      rw [decide_eq_true rfl]
      exact fin
    · obtain ⟨⟨n, l, ty, e, no⟩, rep⟩ := h H (Mv.refl _ _)
      have kit := kit_other (C := CF) IC.cl.hd tC e (no CF)
      refine ⟨_, rfl, _, _, _, _, _, rfl, .own CF, ty, kit, _, rfl, iteF ?_⟩
      refine ⟨_, rfl, _, _, _, _, _, rfl, .own CF, ty, kit, _, rfl, iteF ?_⟩
      refine ⟨_, rfl, rep _ ⟨_, rfl, rep _ ⟨rfl, ?_⟩⟩⟩
      rw [decide_eq_true rfl]
      exact fin

end
end Fz
set_option Elab.async false
set_option linter.all false
set_option maxRecDepth 100000
set_option maxHeartbeats 2000000
namespace Fz
open PySem PySem.Spec PyProof.Rows L2
/-- one step of a reading -/
local macro_rules | `(tactic| walk_at "st") => `(tactic| first
  | refine ⟨_, rfl, ?_⟩
  | refine Or.inl ⟨_, rfl, ?_⟩
  | refine Or.inr ⟨_, rfl, ?_⟩
  | refine ⟨_, _, _, _, rfl, rfl, SqL.of (by first | assumption | exact upd_same), rfl, ?_⟩
  | refine ⟨_, _, _, _, rfl, rfl, (by first | assumption | exact upd_same), rfl, ?_⟩
  | refine ⟨_, _, rfl, .inl ⟨_, SqL.of (by first | assumption | exact upd_same), rfl⟩, ?_⟩
  | refine ⟨_, _, rfl, rfl, (show (0 : Int) < _ by first | decide | omega), ?_⟩
  | refine ⟨_, _, rfl, rfl, (show (0 : Int) < _ ∧ _ < _ by first | exact ⟨by decide, by decide⟩ | omega), ?_⟩
  | refine ⟨_, _, rfl, rfl, (show (_ < _ ∧ _ < _) ∨ (_ < _ ∧ _ < _) by first | exact .inl ⟨by decide, by decide⟩ | omega), ?_⟩
  | refine ⟨_, _, rfl, rfl, (show (0 : Int) ≤ _ ∧ _ ≤ _ ∧ _ < _ by first | exact ⟨by decide, by decide, by decide⟩ | exact ⟨by decide, by decide, by omega⟩), ?_⟩
  | refine ⟨_, _, rfl, rfl, ?_⟩)

/-- these lists, one after another -/
def FL (H : Hp) : List V → List (List V) → Prop
  | [], [] => True
  | v :: vs, f :: r => (∃ a, v = .ref a ∧ H a = some (.lst f)) ∧ FL H vs r
  | _, _ => False
theorem FL.same {H H' : Hp} (s : Same H H') : ∀ {vs : List V} {r : List (List V)}, FL H vs r → FL H' vs r
  | [], [], _ => True.intro
  | v :: vs, f :: r, ⟨⟨a, e, h⟩, t⟩ => ⟨⟨a, e, s _ _ h⟩, FL.same s t⟩
theorem FL.app {H : Hp} : ∀ {vs ws : List V} {r q : List (List V)}, FL H vs r → FL H ws q → FL H (vs ++ ws) (r ++ q)
  | [], _, [], _, _, h => h
  | v :: vs, _, f :: r, _, ⟨x, t⟩, h => ⟨x, FL.app t h⟩
theorem FL.at_ {H : Hp} : ∀ {vs : List V} {r : List (List V)} {i : Nat} {f : List V}, FL H vs r → r[i]? = some f → ∃ a, vs[i]? = some (.ref a) ∧ H a = some (.lst f)
  | [], [], i, f, _, e => by cases e
  | v :: vs, g :: r, 0, f, ⟨⟨a, e1, h⟩, _⟩, e => by
    cases e
    exact ⟨a, congrArg some e1, h⟩
  | v :: vs, g :: r, i + 1, f, ⟨_, t⟩, e => FL.at_ (i := i) t (by simpa using e)
theorem FL.len {H : Hp} : ∀ {vs : List V} {r : List (List V)}, FL H vs r → vs.length = r.length
  | [], [], _ => rfl
  | v :: vs, g :: r, ⟨_, t⟩ => by rw [List.length_cons, List.length_cons, FL.len t]
def fldS (v w : V) : List (List V) := [[v], [v], [v], [v], [v], [v], [v], [v], [v], [v, w], [v], [v, w], [v], [], [v], [v, w], [v, w], [v]]
def spFields (J0 J1 J2 J3 J4 J5 J6 J7 J8 J9 J10 J11 J12 J13 J14 J15 J16 J17 : Addr) : Sp := fun vs H Q _ => ∃ (l : Addr) (xs : List V) (v w : V), vs = [.ref l] ∧ H l = some (.lst xs) ∧ EL H xs (erS J0 J1 J2 J3 J4 J5 J6 J7 J8 J9 J10 J11 J12 J13 J14 J15 J16 J17 v w) ∧ ∀ H' f ys, Same H H' → H' f = some (.lst ys) → FL H' ys (fldS v w) → Q (.ref f) H'
theorem el_open {J0 J1 J2 J3 J4 J5 J6 J7 J8 J9 J10 J11 J12 J13 J14 J15 J16 J17 : Addr} {H : Hp} {xs : List V} {v w : V} (h : EL H xs (erS J0 J1 J2 J3 J4 J5 J6 J7 J8 J9 J10 J11 J12 J13 J14 J15 J16 J17 v w)) : ∃ a0 d0 a1 d1 a2 d2 a3 d3 a4 d4 a5 d5 a6 d6 a7 d7 a8 d8 a9 d9 a10 d10 a11 d11 a12 d12 a13 a14 d14 a15 d15 a16 d16 a17 d17 : Addr, xs = [V.ref a0, V.ref a1, V.ref a2, V.ref a3, V.ref a4, V.ref a5, V.ref a6, V.ref a7, V.ref a8, V.ref a9, V.ref a10, V.ref a11, V.ref a12, V.ref a13, V.ref a14, V.ref a15, V.ref a16, V.ref a17] ∧ ErrV J0 H a0 d0 [("part", v)] ∧ ErrV J1 H a1 d1 [("at", v)] ∧ ErrV J2 H a2 d2 [("value", v)] ∧ ErrV J3 H a3 d3 [("part", v)] ∧ ErrV J4 H a4 d4 [("part", v)] ∧ ErrV J5 H a5 d5 [("value", v)] ∧ ErrV J6 H a6 d6 [("number", v)] ∧ ErrV J7 H a7 d7 [("index", v)] ∧ ErrV J8 H a8 d8 [("rule", v)] ∧ ErrV J9 H a9 d9 [("left", w), ("heap", v)] ∧ ErrV J10 H a10 d10 [("rule", v)] ∧ ErrV J11 H a11 d11 [("worth", w), ("heap", v)] ∧ ErrV J12 H a12 d12 [("rule", v)] ∧ H a13 = some (exo a13 J13 none) ∧ ErrV J14 H a14 d14 [("value", v)] ∧ ErrV J15 H a15 d15 [("most", w), ("what", v)] ∧ ErrV J16 H a16 d16 [("word", w), ("line", v)] ∧ ErrV J17 H a17 d17 [("word", v)] := by
  rcases xs with _ | ⟨x, xs⟩
  · exact False.elim h
  obtain ⟨⟨a0, d0, rfl, e0⟩, h⟩ := h
  rcases xs with _ | ⟨x, xs⟩
  · exact False.elim h
  obtain ⟨⟨a1, d1, rfl, e1⟩, h⟩ := h
  rcases xs with _ | ⟨x, xs⟩
  · exact False.elim h
  obtain ⟨⟨a2, d2, rfl, e2⟩, h⟩ := h
  rcases xs with _ | ⟨x, xs⟩
  · exact False.elim h
  obtain ⟨⟨a3, d3, rfl, e3⟩, h⟩ := h
  rcases xs with _ | ⟨x, xs⟩
  · exact False.elim h
  obtain ⟨⟨a4, d4, rfl, e4⟩, h⟩ := h
  rcases xs with _ | ⟨x, xs⟩
  · exact False.elim h
  obtain ⟨⟨a5, d5, rfl, e5⟩, h⟩ := h
  rcases xs with _ | ⟨x, xs⟩
  · exact False.elim h
  obtain ⟨⟨a6, d6, rfl, e6⟩, h⟩ := h
  rcases xs with _ | ⟨x, xs⟩
  · exact False.elim h
  obtain ⟨⟨a7, d7, rfl, e7⟩, h⟩ := h
  rcases xs with _ | ⟨x, xs⟩
  · exact False.elim h
  obtain ⟨⟨a8, d8, rfl, e8⟩, h⟩ := h
  rcases xs with _ | ⟨x, xs⟩
  · exact False.elim h
  obtain ⟨⟨a9, d9, rfl, e9⟩, h⟩ := h
  rcases xs with _ | ⟨x, xs⟩
  · exact False.elim h
  obtain ⟨⟨a10, d10, rfl, e10⟩, h⟩ := h
  rcases xs with _ | ⟨x, xs⟩
  · exact False.elim h
  obtain ⟨⟨a11, d11, rfl, e11⟩, h⟩ := h
  rcases xs with _ | ⟨x, xs⟩
  · exact False.elim h
  obtain ⟨⟨a12, d12, rfl, e12⟩, h⟩ := h
  rcases xs with _ | ⟨x, xs⟩
  · exact False.elim h
  obtain ⟨⟨a13, rfl, e13⟩, h⟩ := h
  rcases xs with _ | ⟨x, xs⟩
  · exact False.elim h
  obtain ⟨⟨a14, d14, rfl, e14⟩, h⟩ := h
  rcases xs with _ | ⟨x, xs⟩
  · exact False.elim h
  obtain ⟨⟨a15, d15, rfl, e15⟩, h⟩ := h
  rcases xs with _ | ⟨x, xs⟩
  · exact False.elim h
  obtain ⟨⟨a16, d16, rfl, e16⟩, h⟩ := h
  rcases xs with _ | ⟨x, xs⟩
  · exact False.elim h
  obtain ⟨⟨a17, d17, rfl, e17⟩, h⟩ := h
  rcases xs with _ | ⟨x, xs⟩
  · exact ⟨a0, d0, a1, d1, a2, d2, a3, d3, a4, d4, a5, d5, a6, d6, a7, d7, a8, d8, a9, d9, a10, d10, a11, d11, a12, d12, a13, a14, d14, a15, d15, a16, d16, a17, d17, rfl, e0, e1, e2, e3, e4, e5, e6, e7, e8, e9, e10, e11, e12, e13, e14, e15, e16, e17⟩
  · exact False.elim h
section
variable {P : Program} {w : World} {K : PySem.W.Frag} {mg : Str → Option Value} {base : Heap}

abbrev s_fields : Stmt := topS 47
theorem sc_fields : FnScope ["_law_some", "_law_found"] ["_law_some"] (defScope s_fields) := ⟨rfl, rfl, rfl, by decide +kernel, rfl, by decide +kernel, by decide +kernel⟩
theorem ok_fields {f J0 J1 J2 J3 J4 J5 J6 J7 J8 J9 J10 J11 J12 J13 J14 J15 J16 J17 f0 f1 f2 f3 f4 f5 f6 f7 f8 f9 f10 f11 f12 f14 f15 f16 f17 : Addr} {fd : FuncData} (F : Fun K "_law_fields" "_law_fields" s_fields f fd)
    (E0 : ErC K J0 f0 ["part"]) (X0 : XfC K J0) (E1 : ErC K J1 f1 ["at"]) (X1 : XfC K J1) (E2 : ErC K J2 f2 ["value"]) (X2 : XfC K J2) (E3 : ErC K J3 f3 ["part"]) (X3 : XfC K J3) (E4 : ErC K J4 f4 ["part"]) (X4 : XfC K J4) (E5 : ErC K J5 f5 ["value"]) (X5 : XfC K J5) (E6 : ErC K J6 f6 ["number"]) (X6 : XfC K J6) (E7 : ErC K J7 f7 ["index"]) (X7 : XfC K J7) (E8 : ErC K J8 f8 ["rule"]) (X8 : XfC K J8) (E9 : ErC K J9 f9 ["heap", "left"]) (X9 : XfC K J9) (E10 : ErC K J10 f10 ["rule"]) (X10 : XfC K J10) (E11 : ErC K J11 f11 ["heap", "worth"]) (X11 : XfC K J11) (E12 : ErC K J12 f12 ["rule"]) (X12 : XfC K J12) (E14 : ErC K J14 f14 ["value"]) (X14 : XfC K J14) (E15 : ErC K J15 f15 ["what", "most"]) (X15 : XfC K J15) (E16 : ErC K J16 f16 ["line", "word"]) (X16 : XfC K J16) (E17 : ErC K J17 f17 ["word"]) (X17 : XfC K J17) : FnOk P w K mg base CX0 1 f fd ["_law_some"] (spFields J0 J1 J2 J3 J4 J5 J6 J7 J8 J9 J10 J11 J12 J13 J14 J15 J16 J17) := by
  refine F.ok sc_fields (fun vs H Q E h => ?_) (fun cdv A outer s H vs Q E hr h => ?_)
  · obtain ⟨l, xs, v, w, rfl, _⟩ := h
    rfl
  · obtain ⟨l, xs, v, w, rfl, hl, el, fin⟩ := h
    refine ⟨_, (C8.pss_cut (ps_set (i := 1) sc_fields.nd rfl (Or.inl rfl) (pe_lst (pa_cons (pe_lst (pa_cons (pe_errFV (pe_ix ix_list (pv 0) pe_int (fun _ _ => rfl))) pa_nil)) (pa_cons (pe_lst (pa_cons (pe_errFV (pe_ix ix_list (pv 0) pe_int (fun _ _ => rfl))) pa_nil)) (pa_cons (pe_lst (pa_cons (pe_errFV (pe_ix ix_list (pv 0) pe_int (fun _ _ => rfl))) pa_nil)) (pa_cons (pe_lst (pa_cons (pe_errFV (pe_ix ix_list (pv 0) pe_int (fun _ _ => rfl))) pa_nil)) (pa_cons (pe_lst (pa_cons (pe_errFV (pe_ix ix_list (pv 0) pe_int (fun _ _ => rfl))) pa_nil)) (pa_cons (pe_lst (pa_cons (pe_errFV (pe_ix ix_list (pv 0) pe_int (fun _ _ => rfl))) pa_nil)) pa_nil))))))))
  (C8.pss_cut (ps_set (i := 1) sc_fields.nd rfl (Or.inl rfl) (pe_op op_cat (pv 1) (pe_lst (pa_cons (pe_lst (pa_cons (pe_errFV (pe_ix ix_list (pv 0) pe_int (fun _ _ => rfl))) pa_nil)) (pa_cons (pe_lst (pa_cons (pe_errFV (pe_ix ix_list (pv 0) pe_int (fun _ _ => rfl))) pa_nil)) (pa_cons (pe_lst (pa_cons (pe_errFV (pe_ix ix_list (pv 0) pe_int (fun _ _ => rfl))) pa_nil)) (pa_cons (pe_lst (pa_cons (pe_errFV (pe_ix ix_list (pv 0) pe_int (fun _ _ => rfl))) (pa_cons (pe_errFV (pe_ix ix_list (pv 0) pe_int (fun _ _ => rfl))) pa_nil))) pa_nil)))))))
  (C8.pss_cut (ps_set (i := 1) sc_fields.nd rfl (Or.inl rfl) (pe_op op_cat (pv 1) (pe_lst (pa_cons (pe_lst (pa_cons (pe_errFV (pe_ix ix_list (pv 0) pe_int (fun _ _ => rfl))) pa_nil)) (pa_cons (pe_lst (pa_cons (pe_errFV (pe_ix ix_list (pv 0) pe_int (fun _ _ => rfl))) (pa_cons (pe_errFV (pe_ix ix_list (pv 0) pe_int (fun _ _ => rfl))) pa_nil))) (pa_cons (pe_lst (pa_cons (pe_errFV (pe_ix ix_list (pv 0) pe_int (fun _ _ => rfl))) pa_nil)) (pa_cons (pe_lst pa_nil) pa_nil)))))))
  (C8.pss_cut (ps_set (i := 1) sc_fields.nd rfl (Or.inl rfl) (pe_op op_cat (pv 1) (pe_lst (pa_cons (pe_lst (pa_cons (pe_errFV (pe_ix ix_list (pv 0) pe_int (fun _ _ => rfl))) pa_nil)) (pa_cons (pe_lst (pa_cons (pe_errFV (pe_ix ix_list (pv 0) pe_int (fun _ _ => rfl))) (pa_cons (pe_errFV (pe_ix ix_list (pv 0) pe_int (fun _ _ => rfl))) pa_nil))) (pa_cons (pe_lst (pa_cons (pe_errFV (pe_ix ix_list (pv 0) pe_int (fun _ _ => rfl))) (pa_cons (pe_errFV (pe_ix ix_list (pv 0) pe_int (fun _ _ => rfl))) pa_nil))) pa_nil))))))
  (pss_one (ps_ret (pe_op op_cat (pv 1) (pe_lst (pa_cons (pe_lst (pa_cons (pe_errFV (pe_ix ix_list (pv 0) pe_int (fun _ _ => rfl))) pa_nil)) pa_nil))))))))), ?_⟩
    have sz : (10000 : Nat) ≤ sizeLine := by show 10000 ≤ 16777216; decide
    obtain ⟨a0, d0, a1, d1, a2, d2, a3, d3, a4, d4, a5, d5, a6, d6, a7, d7, a8, d8, a9, d9, a10, d10, a11, d11, a12, d12, a13, a14, d14, a15, d15, a16, d16, a17, d17, rfl, e0, e1, e2, e3, e4, e5, e6, e7, e8, e9, e10, e11, e12, e13, e14, e15, e16, e17⟩ := el_open el
    have s0 : Same H H := fun _ _ z => z
    refine ⟨fun σ' H' => ∃ (f : Addr) (ys : List V), σ' = [some (.ref l), some (.ref f)] ∧ Same H H' ∧ H' f = some (.lst ys) ∧ ys.length ≤ 100 ∧ FL H' ys [[v], [v], [v], [v], [v], [v]], ?_, ?_⟩
    · refine ⟨_, rfl, l, _, _, _, rfl, rfl, SqL.of (s0 _ _ hl), rfl, a0, J0, d0, _, _, rfl, e0.same s0, X0, E0.nF _ (by simp), rfl, ?_⟩
      refine ⟨by show 1 ≤ sizeLine; omega, fun g0 hg0 => ?_⟩
      have tg0 := Same.new (o := .lst [v]) hg0
      have cg0 := s0.trans tg0
      refine ⟨_, rfl, l, _, _, _, rfl, rfl, SqL.of (cg0 _ _ hl), rfl, a1, J1, d1, _, _, rfl, e1.same cg0, X1, E1.nF _ (by simp), rfl, ?_⟩
      refine ⟨by show 1 ≤ sizeLine; omega, fun g1 hg1 => ?_⟩
      have tg1 := Same.new (o := .lst [v]) hg1
      have cg1 := cg0.trans tg1
      refine ⟨_, rfl, l, _, _, _, rfl, rfl, SqL.of (cg1 _ _ hl), rfl, a2, J2, d2, _, _, rfl, e2.same cg1, X2, E2.nF _ (by simp), rfl, ?_⟩
      refine ⟨by show 1 ≤ sizeLine; omega, fun g2 hg2 => ?_⟩
      have tg2 := Same.new (o := .lst [v]) hg2
      have cg2 := cg1.trans tg2
      refine ⟨_, rfl, l, _, _, _, rfl, rfl, SqL.of (cg2 _ _ hl), rfl, a3, J3, d3, _, _, rfl, e3.same cg2, X3, E3.nF _ (by simp), rfl, ?_⟩
      refine ⟨by show 1 ≤ sizeLine; omega, fun g3 hg3 => ?_⟩
      have tg3 := Same.new (o := .lst [v]) hg3
      have cg3 := cg2.trans tg3
      refine ⟨_, rfl, l, _, _, _, rfl, rfl, SqL.of (cg3 _ _ hl), rfl, a4, J4, d4, _, _, rfl, e4.same cg3, X4, E4.nF _ (by simp), rfl, ?_⟩
      refine ⟨by show 1 ≤ sizeLine; omega, fun g4 hg4 => ?_⟩
      have tg4 := Same.new (o := .lst [v]) hg4
      have cg4 := cg3.trans tg4
      refine ⟨_, rfl, l, _, _, _, rfl, rfl, SqL.of (cg4 _ _ hl), rfl, a5, J5, d5, _, _, rfl, e5.same cg4, X5, E5.nF _ (by simp), rfl, ?_⟩
      refine ⟨by show 1 ≤ sizeLine; omega, fun g5 hg5 => ?_⟩
      have tg5 := Same.new (o := .lst [v]) hg5
      have cg5 := cg4.trans tg5
      refine ⟨by show 6 ≤ sizeLine; omega, fun q hq => ?_⟩
      have u := Same.new (o := .lst [V.ref g0, V.ref g1, V.ref g2, V.ref g3, V.ref g4, V.ref g5]) hq
      exact ⟨q, _, rfl, cg5.trans u, upd_same, by show 6 ≤ 100; decide, ⟨⟨g0, rfl, u _ _ (tg5 _ _ (tg4 _ _ (tg3 _ _ (tg2 _ _ (tg1 _ _ upd_same)))))⟩, ⟨g1, rfl, u _ _ (tg5 _ _ (tg4 _ _ (tg3 _ _ (tg2 _ _ upd_same))))⟩, ⟨g2, rfl, u _ _ (tg5 _ _ (tg4 _ _ (tg3 _ _ upd_same)))⟩, ⟨g3, rfl, u _ _ (tg5 _ _ (tg4 _ _ upd_same))⟩, ⟨g4, rfl, u _ _ (tg5 _ _ upd_same)⟩, ⟨g5, rfl, u _ _ upd_same⟩, True.intro⟩⟩
    rintro σ' Hk0 ⟨f, ys, rfl, sk, hf, few, fl⟩
    refine ⟨fun σ' H' => ∃ (f : Addr) (ys : List V), σ' = [some (.ref l), some (.ref f)] ∧ Same H H' ∧ H' f = some (.lst ys) ∧ ys.length ≤ 120 ∧ FL H' ys [[v], [v], [v], [v], [v], [v], [v], [v], [v], [v, w]], ?_, ?_⟩
    · refine ⟨_, rfl, ?_⟩
      refine ⟨_, rfl, l, _, _, _, rfl, rfl, SqL.of (sk _ _ hl), rfl, a6, J6, d6, _, _, rfl, e6.same sk, X6, E6.nF _ (by simp), rfl, ?_⟩
      refine ⟨by show 1 ≤ sizeLine; omega, fun g6 hg6 => ?_⟩
      have tg6 := Same.new (o := .lst [v]) hg6
      have cg6 := sk.trans tg6
      refine ⟨_, rfl, l, _, _, _, rfl, rfl, SqL.of (cg6 _ _ hl), rfl, a7, J7, d7, _, _, rfl, e7.same cg6, X7, E7.nF _ (by simp), rfl, ?_⟩
      refine ⟨by show 1 ≤ sizeLine; omega, fun g7 hg7 => ?_⟩
      have tg7 := Same.new (o := .lst [v]) hg7
      have cg7 := cg6.trans tg7
      refine ⟨_, rfl, l, _, _, _, rfl, rfl, SqL.of (cg7 _ _ hl), rfl, a8, J8, d8, _, _, rfl, e8.same cg7, X8, E8.nF _ (by simp), rfl, ?_⟩
      refine ⟨by show 1 ≤ sizeLine; omega, fun g8 hg8 => ?_⟩
      have tg8 := Same.new (o := .lst [v]) hg8
      have cg8 := cg7.trans tg8
      refine ⟨_, rfl, l, _, _, _, rfl, rfl, SqL.of (cg8 _ _ hl), rfl, a9, J9, d9, _, _, rfl, e9.same cg8, X9, E9.nF _ (by simp), rfl, ?_⟩
      refine ⟨_, rfl, l, _, _, _, rfl, rfl, SqL.of (cg8 _ _ hl), rfl, a9, J9, d9, _, _, rfl, e9.same cg8, X9, E9.nF _ (by simp), rfl, ?_⟩
      refine ⟨by show 2 ≤ sizeLine; omega, fun g9 hg9 => ?_⟩
      have tg9 := Same.new (o := .lst [v, w]) hg9
      have cg9 := cg8.trans tg9
      refine ⟨by show 4 ≤ sizeLine; omega, fun q hq => ?_⟩
      have u := Same.new (o := .lst [V.ref g6, V.ref g7, V.ref g8, V.ref g9]) hq
      have tA := (((tg6.trans tg7).trans tg8).trans tg9).trans u
      refine ⟨f, q, _, _, rfl, rfl, tA _ _ hf, upd_same, by show ys.length + 4 ≤ sizeLine; omega, fun q2 hq2 => ?_⟩
      have u2 := Same.new (o := .lst (ys ++ [V.ref g6, V.ref g7, V.ref g8, V.ref g9])) hq2
      have fn : FL _ [V.ref g6, V.ref g7, V.ref g8, V.ref g9] [[v], [v], [v], [v, w]] := ⟨⟨g6, rfl, u _ _ (tg9 _ _ (tg8 _ _ (tg7 _ _ upd_same)))⟩, ⟨g7, rfl, u _ _ (tg9 _ _ (tg8 _ _ upd_same))⟩, ⟨g8, rfl, u _ _ (tg9 _ _ upd_same)⟩, ⟨g9, rfl, u _ _ upd_same⟩, True.intro⟩
      exact ⟨q2, _, rfl, (sk.trans tA).trans u2, upd_same, by rw [List.length_append]; show ys.length + 4 ≤ 120; omega, (((fl.same tA).app fn).same u2)⟩
    rintro σ' Hk1 ⟨f, ys, rfl, sk, hf, few, fl⟩
    refine ⟨fun σ' H' => ∃ (f : Addr) (ys : List V), σ' = [some (.ref l), some (.ref f)] ∧ Same H H' ∧ H' f = some (.lst ys) ∧ ys.length ≤ 140 ∧ FL H' ys [[v], [v], [v], [v], [v], [v], [v], [v], [v], [v, w], [v], [v, w], [v], []], ?_, ?_⟩
    · refine ⟨_, rfl, ?_⟩
      refine ⟨_, rfl, l, _, _, _, rfl, rfl, SqL.of (sk _ _ hl), rfl, a10, J10, d10, _, _, rfl, e10.same sk, X10, E10.nF _ (by simp), rfl, ?_⟩
      refine ⟨by show 1 ≤ sizeLine; omega, fun g10 hg10 => ?_⟩
      have tg10 := Same.new (o := .lst [v]) hg10
      have cg10 := sk.trans tg10
      refine ⟨_, rfl, l, _, _, _, rfl, rfl, SqL.of (cg10 _ _ hl), rfl, a11, J11, d11, _, _, rfl, e11.same cg10, X11, E11.nF _ (by simp), rfl, ?_⟩
      refine ⟨_, rfl, l, _, _, _, rfl, rfl, SqL.of (cg10 _ _ hl), rfl, a11, J11, d11, _, _, rfl, e11.same cg10, X11, E11.nF _ (by simp), rfl, ?_⟩
      refine ⟨by show 2 ≤ sizeLine; omega, fun g11 hg11 => ?_⟩
      have tg11 := Same.new (o := .lst [v, w]) hg11
      have cg11 := cg10.trans tg11
      refine ⟨_, rfl, l, _, _, _, rfl, rfl, SqL.of (cg11 _ _ hl), rfl, a12, J12, d12, _, _, rfl, e12.same cg11, X12, E12.nF _ (by simp), rfl, ?_⟩
      refine ⟨by show 1 ≤ sizeLine; omega, fun g12 hg12 => ?_⟩
      have tg12 := Same.new (o := .lst [v]) hg12
      have cg12 := cg11.trans tg12
      refine ⟨by show 0 ≤ sizeLine; omega, fun g13 hg13 => ?_⟩
      have tg13 := Same.new (o := .lst []) hg13
      have cg13 := cg12.trans tg13
      refine ⟨by show 4 ≤ sizeLine; omega, fun q hq => ?_⟩
      have u := Same.new (o := .lst [V.ref g10, V.ref g11, V.ref g12, V.ref g13]) hq
      have tA := (((tg10.trans tg11).trans tg12).trans tg13).trans u
      refine ⟨f, q, _, _, rfl, rfl, tA _ _ hf, upd_same, by show ys.length + 4 ≤ sizeLine; omega, fun q2 hq2 => ?_⟩
      have u2 := Same.new (o := .lst (ys ++ [V.ref g10, V.ref g11, V.ref g12, V.ref g13])) hq2
      have fn : FL _ [V.ref g10, V.ref g11, V.ref g12, V.ref g13] [[v], [v, w], [v], []] := ⟨⟨g10, rfl, u _ _ (tg13 _ _ (tg12 _ _ (tg11 _ _ upd_same)))⟩, ⟨g11, rfl, u _ _ (tg13 _ _ (tg12 _ _ upd_same))⟩, ⟨g12, rfl, u _ _ (tg13 _ _ upd_same)⟩, ⟨g13, rfl, u _ _ upd_same⟩, True.intro⟩
      exact ⟨q2, _, rfl, (sk.trans tA).trans u2, upd_same, by rw [List.length_append]; show ys.length + 4 ≤ 140; omega, (((fl.same tA).app fn).same u2)⟩
    rintro σ' Hk2 ⟨f, ys, rfl, sk, hf, few, fl⟩
    refine ⟨fun σ' H' => ∃ (f : Addr) (ys : List V), σ' = [some (.ref l), some (.ref f)] ∧ Same H H' ∧ H' f = some (.lst ys) ∧ ys.length ≤ 160 ∧ FL H' ys [[v], [v], [v], [v], [v], [v], [v], [v], [v], [v, w], [v], [v, w], [v], [], [v], [v, w], [v, w]], ?_, ?_⟩
    · refine ⟨_, rfl, ?_⟩
      refine ⟨_, rfl, l, _, _, _, rfl, rfl, SqL.of (sk _ _ hl), rfl, a14, J14, d14, _, _, rfl, e14.same sk, X14, E14.nF _ (by simp), rfl, ?_⟩
      refine ⟨by show 1 ≤ sizeLine; omega, fun g14 hg14 => ?_⟩
      have tg14 := Same.new (o := .lst [v]) hg14
      have cg14 := sk.trans tg14
      refine ⟨_, rfl, l, _, _, _, rfl, rfl, SqL.of (cg14 _ _ hl), rfl, a15, J15, d15, _, _, rfl, e15.same cg14, X15, E15.nF _ (by simp), rfl, ?_⟩
      refine ⟨_, rfl, l, _, _, _, rfl, rfl, SqL.of (cg14 _ _ hl), rfl, a15, J15, d15, _, _, rfl, e15.same cg14, X15, E15.nF _ (by simp), rfl, ?_⟩
      refine ⟨by show 2 ≤ sizeLine; omega, fun g15 hg15 => ?_⟩
      have tg15 := Same.new (o := .lst [v, w]) hg15
      have cg15 := cg14.trans tg15
      refine ⟨_, rfl, l, _, _, _, rfl, rfl, SqL.of (cg15 _ _ hl), rfl, a16, J16, d16, _, _, rfl, e16.same cg15, X16, E16.nF _ (by simp), rfl, ?_⟩
      refine ⟨_, rfl, l, _, _, _, rfl, rfl, SqL.of (cg15 _ _ hl), rfl, a16, J16, d16, _, _, rfl, e16.same cg15, X16, E16.nF _ (by simp), rfl, ?_⟩
      refine ⟨by show 2 ≤ sizeLine; omega, fun g16 hg16 => ?_⟩
      have tg16 := Same.new (o := .lst [v, w]) hg16
      have cg16 := cg15.trans tg16
      refine ⟨by show 3 ≤ sizeLine; omega, fun q hq => ?_⟩
      have u := Same.new (o := .lst [V.ref g14, V.ref g15, V.ref g16]) hq
      have tA := ((tg14.trans tg15).trans tg16).trans u
      refine ⟨f, q, _, _, rfl, rfl, tA _ _ hf, upd_same, by show ys.length + 3 ≤ sizeLine; omega, fun q2 hq2 => ?_⟩
      have u2 := Same.new (o := .lst (ys ++ [V.ref g14, V.ref g15, V.ref g16])) hq2
      have fn : FL _ [V.ref g14, V.ref g15, V.ref g16] [[v], [v, w], [v, w]] := ⟨⟨g14, rfl, u _ _ (tg16 _ _ (tg15 _ _ upd_same))⟩, ⟨g15, rfl, u _ _ (tg16 _ _ upd_same)⟩, ⟨g16, rfl, u _ _ upd_same⟩, True.intro⟩
      exact ⟨q2, _, rfl, (sk.trans tA).trans u2, upd_same, by rw [List.length_append]; show ys.length + 3 ≤ 160; omega, (((fl.same tA).app fn).same u2)⟩
    rintro σ' Hk3 ⟨f, ys, rfl, sk, hf, few, fl⟩
    refine ⟨_, rfl, ?_⟩
    refine ⟨_, rfl, l, _, _, _, rfl, rfl, SqL.of (sk _ _ hl), rfl, a17, J17, d17, _, _, rfl, e17.same sk, X17, E17.nF _ (by simp), rfl, ?_⟩
    refine ⟨by show 1 ≤ sizeLine; omega, fun g17 hg17 => ?_⟩
    have tg17 := Same.new (o := .lst [v]) hg17
    have cg17 := sk.trans tg17
    refine ⟨by show 1 ≤ sizeLine; omega, fun q hq => ?_⟩
    have u := Same.new (o := .lst [V.ref g17]) hq
    have tA := tg17.trans u
    refine ⟨f, q, _, _, rfl, rfl, tA _ _ hf, upd_same, by show ys.length + 1 ≤ sizeLine; omega, fun q2 hq2 => ?_⟩
    have u2 := Same.new (o := .lst (ys ++ [V.ref g17])) hq2
    have fn : FL _ [V.ref g17] [[v]] := ⟨⟨g17, rfl, u _ _ upd_same⟩, True.intro⟩
    exact fin _ q2 _ ((sk.trans tA).trans u2) upd_same (((fl.same tA).app fn).same u2)
abbrev s_classes : Stmt := topS 48
theorem sc_classes : FnScope ["_law_error", "_law_found"] ["_law_error"] (defScope s_classes) := ⟨rfl, rfl, rfl, by decide +kernel, rfl, by decide +kernel, by decide +kernel⟩
/-- of which of these classes -/
def Kits (K : PySem.W.Frag) (CE : Addr) (J0 J1 J2 J3 J4 J5 J6 J7 J8 J9 J10 J11 J12 J13 J14 J15 J16 J17 : Addr) (b : Nat → Bool) : Prop := PySem.W.kitOne K (.ref CE) (.ref J0) = some (b 0) ∧ PySem.W.kitOne K (.ref CE) (.ref J1) = some (b 1) ∧ PySem.W.kitOne K (.ref CE) (.ref J2) = some (b 2) ∧ PySem.W.kitOne K (.ref CE) (.ref J3) = some (b 3) ∧ PySem.W.kitOne K (.ref CE) (.ref J4) = some (b 4) ∧ PySem.W.kitOne K (.ref CE) (.ref J5) = some (b 5) ∧ PySem.W.kitOne K (.ref CE) (.ref J6) = some (b 6) ∧ PySem.W.kitOne K (.ref CE) (.ref J7) = some (b 7) ∧ PySem.W.kitOne K (.ref CE) (.ref J8) = some (b 8) ∧ PySem.W.kitOne K (.ref CE) (.ref J9) = some (b 9) ∧ PySem.W.kitOne K (.ref CE) (.ref J10) = some (b 10) ∧ PySem.W.kitOne K (.ref CE) (.ref J11) = some (b 11) ∧ PySem.W.kitOne K (.ref CE) (.ref J12) = some (b 12) ∧ PySem.W.kitOne K (.ref CE) (.ref J13) = some (b 13) ∧ PySem.W.kitOne K (.ref CE) (.ref J14) = some (b 14) ∧ PySem.W.kitOne K (.ref CE) (.ref J15) = some (b 15) ∧ PySem.W.kitOne K (.ref CE) (.ref J16) = some (b 16) ∧ PySem.W.kitOne K (.ref CE) (.ref J17) = some (b 17)
def spClasses (K : PySem.W.Frag) (J0 J1 J2 J3 J4 J5 J6 J7 J8 J9 J10 J11 J12 J13 J14 J15 J16 J17 : Addr) : Sp := fun vs H Q _ => ∃ (a CE : Addr) (d : Option Addr) (b : Nat → Bool), vs = [.ref a] ∧ H a = some (exo a CE d) ∧ (∀ dd, d = some dd → ∃ fs, H dd = some (exd dd fs)) ∧ ExcC K CE ∧ Kits K CE J0 J1 J2 J3 J4 J5 J6 J7 J8 J9 J10 J11 J12 J13 J14 J15 J16 J17 b ∧
  ∀ H' q, Same H H' → H' q = some (.lst [V.bl (b 0), V.bl (b 1), V.bl (b 2), V.bl (b 3), V.bl (b 4), V.bl (b 5), V.bl (b 6), V.bl (b 7), V.bl (b 8), V.bl (b 9), V.bl (b 10), V.bl (b 11), V.bl (b 12), V.bl (b 13), V.bl (b 14), V.bl (b 15), V.bl (b 16), V.bl (b 17)]) → Q (.ref q) H'
theorem ok_classes {f J0 J1 J2 J3 J4 J5 J6 J7 J8 J9 J10 J11 J12 J13 J14 J15 J16 J17 : Addr} {fd : FuncData} (F : Fun K "_law_classes" "_law_classes" s_classes f fd) (U : Blt mg) (g0 : mg "BadRule" = some (.ref J0)) (g1 : mg "BadBook" = some (.ref J1)) (g2 : mg "BadSize" = some (.ref J2)) (g3 : mg "BadTable" = some (.ref J3)) (g4 : mg "BadSizes" = some (.ref J4)) (g5 : mg "BadNumber" = some (.ref J5)) (g6 : mg "NoTake" = some (.ref J6)) (g7 : mg "NoPile" = some (.ref J7)) (g8 : mg "NotFree" = some (.ref J8)) (g9 : mg "Meets" = some (.ref J9)) (g10 : mg "Needed" = some (.ref J10)) (g11 : mg "Lacks" = some (.ref J11)) (g12 : mg "NotIn" = some (.ref J12)) (g13 : mg "Nothing" = some (.ref J13)) (g14 : mg "BadLimit" = some (.ref J14)) (g15 : mg "TooMany" = some (.ref J15)) (g16 : mg "BadText" = some (.ref J16)) (g17 : mg "NoLine" = some (.ref J17)) : FnOk P w K mg base CX0 1 f fd ["_law_error"] (spClasses K J0 J1 J2 J3 J4 J5 J6 J7 J8 J9 J10 J11 J12 J13 J14 J15 J16 J17) := by
  refine F.ok sc_classes (fun vs H Q E h => ?_) (fun cdv A outer s H vs Q E hr h => ?_)
  · obtain ⟨a, CE, d, b, rfl, _⟩ := h
    rfl
  · obtain ⟨a, CE, d, b, rfl, ha, hd, ec, ⟨kt0, kt1, kt2, kt3, kt4, kt5, kt6, kt7, kt8, kt9, kt10, kt11, kt12, kt13, kt14, kt15, kt16, kt17⟩, fin⟩ := h
    refine ⟨_, (C8.pss_cut (ps_set (i := 1) sc_classes.nd rfl (Or.inl rfl) (pe_lst (pa_cons (pe_callB call_isV rfl U.z_isinstance (by decide +kernel) (pa_cons (pv 0) (pa_cons (pe_glob (v := .ref _) rfl g0 rfl) pa_nil))) (pa_cons (pe_callB call_isV rfl U.z_isinstance (by decide +kernel) (pa_cons (pv 0) (pa_cons (pe_glob (v := .ref _) rfl g1 rfl) pa_nil))) (pa_cons (pe_callB call_isV rfl U.z_isinstance (by decide +kernel) (pa_cons (pv 0) (pa_cons (pe_glob (v := .ref _) rfl g2 rfl) pa_nil))) pa_nil)))))
  (C8.pss_cut (ps_set (i := 1) sc_classes.nd rfl (Or.inl rfl) (pe_op op_cat (pv 1) (pe_lst (pa_cons (pe_callB call_isV rfl U.z_isinstance (by decide +kernel) (pa_cons (pv 0) (pa_cons (pe_glob (v := .ref _) rfl g3 rfl) pa_nil))) (pa_cons (pe_callB call_isV rfl U.z_isinstance (by decide +kernel) (pa_cons (pv 0) (pa_cons (pe_glob (v := .ref _) rfl g4 rfl) pa_nil))) (pa_cons (pe_callB call_isV rfl U.z_isinstance (by decide +kernel) (pa_cons (pv 0) (pa_cons (pe_glob (v := .ref _) rfl g5 rfl) pa_nil))) pa_nil))))))
  (C8.pss_cut (ps_set (i := 1) sc_classes.nd rfl (Or.inl rfl) (pe_op op_cat (pv 1) (pe_lst (pa_cons (pe_callB call_isV rfl U.z_isinstance (by decide +kernel) (pa_cons (pv 0) (pa_cons (pe_glob (v := .ref _) rfl g6 rfl) pa_nil))) (pa_cons (pe_callB call_isV rfl U.z_isinstance (by decide +kernel) (pa_cons (pv 0) (pa_cons (pe_glob (v := .ref _) rfl g7 rfl) pa_nil))) (pa_cons (pe_callB call_isV rfl U.z_isinstance (by decide +kernel) (pa_cons (pv 0) (pa_cons (pe_glob (v := .ref _) rfl g8 rfl) pa_nil))) pa_nil))))))
  (C8.pss_cut (ps_set (i := 1) sc_classes.nd rfl (Or.inl rfl) (pe_op op_cat (pv 1) (pe_lst (pa_cons (pe_callB call_isV rfl U.z_isinstance (by decide +kernel) (pa_cons (pv 0) (pa_cons (pe_glob (v := .ref _) rfl g9 rfl) pa_nil))) (pa_cons (pe_callB call_isV rfl U.z_isinstance (by decide +kernel) (pa_cons (pv 0) (pa_cons (pe_glob (v := .ref _) rfl g10 rfl) pa_nil))) (pa_cons (pe_callB call_isV rfl U.z_isinstance (by decide +kernel) (pa_cons (pv 0) (pa_cons (pe_glob (v := .ref _) rfl g11 rfl) pa_nil))) pa_nil))))))
  (C8.pss_cut (ps_set (i := 1) sc_classes.nd rfl (Or.inl rfl) (pe_op op_cat (pv 1) (pe_lst (pa_cons (pe_callB call_isV rfl U.z_isinstance (by decide +kernel) (pa_cons (pv 0) (pa_cons (pe_glob (v := .ref _) rfl g12 rfl) pa_nil))) (pa_cons (pe_callB call_isV rfl U.z_isinstance (by decide +kernel) (pa_cons (pv 0) (pa_cons (pe_glob (v := .ref _) rfl g13 rfl) pa_nil))) (pa_cons (pe_callB call_isV rfl U.z_isinstance (by decide +kernel) (pa_cons (pv 0) (pa_cons (pe_glob (v := .ref _) rfl g14 rfl) pa_nil))) pa_nil))))))
  (pss_one (ps_ret (pe_op op_cat (pv 1) (pe_lst (pa_cons (pe_callB call_isV rfl U.z_isinstance (by decide +kernel) (pa_cons (pv 0) (pa_cons (pe_glob (v := .ref _) rfl g15 rfl) pa_nil))) (pa_cons (pe_callB call_isV rfl U.z_isinstance (by decide +kernel) (pa_cons (pv 0) (pa_cons (pe_glob (v := .ref _) rfl g16 rfl) pa_nil))) (pa_cons (pe_callB call_isV rfl U.z_isinstance (by decide +kernel) (pa_cons (pv 0) (pa_cons (pe_glob (v := .ref _) rfl g17 rfl) pa_nil))) pa_nil)))))))))))), ?_⟩
    have sz : (10000 : Nat) ≤ sizeLine := by show 10000 ≤ 16777216; decide
    have s0 : Same H H := fun _ _ z => z
    refine ⟨fun σ' H' => ∃ q : Addr, σ' = [some (.ref a), some (.ref q)] ∧ Same H H' ∧ H' q = some (.lst [V.bl (b 0), V.bl (b 1), V.bl (b 2)]), ?_, ?_⟩
    · refine ⟨_, rfl, a, CE, d, _, _, _, rfl, s0 _ _ ha, fun dd e => (hd dd e).imp fun fs z => s0 _ _ z, ec, .own J0, kt0, ?_⟩
      refine ⟨_, rfl, a, CE, d, _, _, _, rfl, s0 _ _ ha, fun dd e => (hd dd e).imp fun fs z => s0 _ _ z, ec, .own J1, kt1, ?_⟩
      refine ⟨_, rfl, a, CE, d, _, _, _, rfl, s0 _ _ ha, fun dd e => (hd dd e).imp fun fs z => s0 _ _ z, ec, .own J2, kt2, ?_⟩
      refine ⟨by show 3 ≤ sizeLine; omega, fun q2 hq2 => ?_⟩
      have u := Same.new (o := .lst [V.bl (b 0), V.bl (b 1), V.bl (b 2)]) hq2
      exact ⟨q2, rfl, u, upd_same⟩
    rintro σ' Hk0 ⟨q, rfl, sk, hq⟩
    refine ⟨fun σ' H' => ∃ q : Addr, σ' = [some (.ref a), some (.ref q)] ∧ Same H H' ∧ H' q = some (.lst [V.bl (b 0), V.bl (b 1), V.bl (b 2), V.bl (b 3), V.bl (b 4), V.bl (b 5)]), ?_, ?_⟩
    · refine ⟨_, rfl, ?_⟩
      refine ⟨_, rfl, a, CE, d, _, _, _, rfl, sk _ _ ha, fun dd e => (hd dd e).imp fun fs z => sk _ _ z, ec, .own J3, kt3, ?_⟩
      refine ⟨_, rfl, a, CE, d, _, _, _, rfl, sk _ _ ha, fun dd e => (hd dd e).imp fun fs z => sk _ _ z, ec, .own J4, kt4, ?_⟩
      refine ⟨_, rfl, a, CE, d, _, _, _, rfl, sk _ _ ha, fun dd e => (hd dd e).imp fun fs z => sk _ _ z, ec, .own J5, kt5, ?_⟩
      refine ⟨by show 3 ≤ sizeLine; omega, fun q2 hq2 => ?_⟩
      have u := Same.new (o := .lst [V.bl (b 3), V.bl (b 4), V.bl (b 5)]) hq2
      refine ⟨q, q2, _, _, rfl, rfl, u _ _ hq, upd_same, by show 3 + 3 ≤ sizeLine; omega, fun q3 hq3 => ?_⟩
      have u3 := Same.new (o := .lst [V.bl (b 0), V.bl (b 1), V.bl (b 2), V.bl (b 3), V.bl (b 4), V.bl (b 5)]) hq3
      exact ⟨q3, rfl, (sk.trans u).trans u3, upd_same⟩
    rintro σ' Hk1 ⟨q, rfl, sk, hq⟩
    refine ⟨fun σ' H' => ∃ q : Addr, σ' = [some (.ref a), some (.ref q)] ∧ Same H H' ∧ H' q = some (.lst [V.bl (b 0), V.bl (b 1), V.bl (b 2), V.bl (b 3), V.bl (b 4), V.bl (b 5), V.bl (b 6), V.bl (b 7), V.bl (b 8)]), ?_, ?_⟩
    · refine ⟨_, rfl, ?_⟩
      refine ⟨_, rfl, a, CE, d, _, _, _, rfl, sk _ _ ha, fun dd e => (hd dd e).imp fun fs z => sk _ _ z, ec, .own J6, kt6, ?_⟩
      refine ⟨_, rfl, a, CE, d, _, _, _, rfl, sk _ _ ha, fun dd e => (hd dd e).imp fun fs z => sk _ _ z, ec, .own J7, kt7, ?_⟩
      refine ⟨_, rfl, a, CE, d, _, _, _, rfl, sk _ _ ha, fun dd e => (hd dd e).imp fun fs z => sk _ _ z, ec, .own J8, kt8, ?_⟩
      refine ⟨by show 3 ≤ sizeLine; omega, fun q2 hq2 => ?_⟩
      have u := Same.new (o := .lst [V.bl (b 6), V.bl (b 7), V.bl (b 8)]) hq2
      refine ⟨q, q2, _, _, rfl, rfl, u _ _ hq, upd_same, by show 6 + 3 ≤ sizeLine; omega, fun q3 hq3 => ?_⟩
      have u3 := Same.new (o := .lst [V.bl (b 0), V.bl (b 1), V.bl (b 2), V.bl (b 3), V.bl (b 4), V.bl (b 5), V.bl (b 6), V.bl (b 7), V.bl (b 8)]) hq3
      exact ⟨q3, rfl, (sk.trans u).trans u3, upd_same⟩
    rintro σ' Hk2 ⟨q, rfl, sk, hq⟩
    refine ⟨fun σ' H' => ∃ q : Addr, σ' = [some (.ref a), some (.ref q)] ∧ Same H H' ∧ H' q = some (.lst [V.bl (b 0), V.bl (b 1), V.bl (b 2), V.bl (b 3), V.bl (b 4), V.bl (b 5), V.bl (b 6), V.bl (b 7), V.bl (b 8), V.bl (b 9), V.bl (b 10), V.bl (b 11)]), ?_, ?_⟩
    · refine ⟨_, rfl, ?_⟩
      refine ⟨_, rfl, a, CE, d, _, _, _, rfl, sk _ _ ha, fun dd e => (hd dd e).imp fun fs z => sk _ _ z, ec, .own J9, kt9, ?_⟩
      refine ⟨_, rfl, a, CE, d, _, _, _, rfl, sk _ _ ha, fun dd e => (hd dd e).imp fun fs z => sk _ _ z, ec, .own J10, kt10, ?_⟩
      refine ⟨_, rfl, a, CE, d, _, _, _, rfl, sk _ _ ha, fun dd e => (hd dd e).imp fun fs z => sk _ _ z, ec, .own J11, kt11, ?_⟩
      refine ⟨by show 3 ≤ sizeLine; omega, fun q2 hq2 => ?_⟩
      have u := Same.new (o := .lst [V.bl (b 9), V.bl (b 10), V.bl (b 11)]) hq2
      refine ⟨q, q2, _, _, rfl, rfl, u _ _ hq, upd_same, by show 9 + 3 ≤ sizeLine; omega, fun q3 hq3 => ?_⟩
      have u3 := Same.new (o := .lst [V.bl (b 0), V.bl (b 1), V.bl (b 2), V.bl (b 3), V.bl (b 4), V.bl (b 5), V.bl (b 6), V.bl (b 7), V.bl (b 8), V.bl (b 9), V.bl (b 10), V.bl (b 11)]) hq3
      exact ⟨q3, rfl, (sk.trans u).trans u3, upd_same⟩
    rintro σ' Hk3 ⟨q, rfl, sk, hq⟩
    refine ⟨fun σ' H' => ∃ q : Addr, σ' = [some (.ref a), some (.ref q)] ∧ Same H H' ∧ H' q = some (.lst [V.bl (b 0), V.bl (b 1), V.bl (b 2), V.bl (b 3), V.bl (b 4), V.bl (b 5), V.bl (b 6), V.bl (b 7), V.bl (b 8), V.bl (b 9), V.bl (b 10), V.bl (b 11), V.bl (b 12), V.bl (b 13), V.bl (b 14)]), ?_, ?_⟩
    · refine ⟨_, rfl, ?_⟩
      refine ⟨_, rfl, a, CE, d, _, _, _, rfl, sk _ _ ha, fun dd e => (hd dd e).imp fun fs z => sk _ _ z, ec, .own J12, kt12, ?_⟩
      refine ⟨_, rfl, a, CE, d, _, _, _, rfl, sk _ _ ha, fun dd e => (hd dd e).imp fun fs z => sk _ _ z, ec, .own J13, kt13, ?_⟩
      refine ⟨_, rfl, a, CE, d, _, _, _, rfl, sk _ _ ha, fun dd e => (hd dd e).imp fun fs z => sk _ _ z, ec, .own J14, kt14, ?_⟩
      refine ⟨by show 3 ≤ sizeLine; omega, fun q2 hq2 => ?_⟩
      have u := Same.new (o := .lst [V.bl (b 12), V.bl (b 13), V.bl (b 14)]) hq2
      refine ⟨q, q2, _, _, rfl, rfl, u _ _ hq, upd_same, by show 12 + 3 ≤ sizeLine; omega, fun q3 hq3 => ?_⟩
      have u3 := Same.new (o := .lst [V.bl (b 0), V.bl (b 1), V.bl (b 2), V.bl (b 3), V.bl (b 4), V.bl (b 5), V.bl (b 6), V.bl (b 7), V.bl (b 8), V.bl (b 9), V.bl (b 10), V.bl (b 11), V.bl (b 12), V.bl (b 13), V.bl (b 14)]) hq3
      exact ⟨q3, rfl, (sk.trans u).trans u3, upd_same⟩
    rintro σ' Hk4 ⟨q, rfl, sk, hq⟩
    refine ⟨_, rfl, ?_⟩
    refine ⟨_, rfl, a, CE, d, _, _, _, rfl, sk _ _ ha, fun dd e => (hd dd e).imp fun fs z => sk _ _ z, ec, .own J15, kt15, ?_⟩
    refine ⟨_, rfl, a, CE, d, _, _, _, rfl, sk _ _ ha, fun dd e => (hd dd e).imp fun fs z => sk _ _ z, ec, .own J16, kt16, ?_⟩
    refine ⟨_, rfl, a, CE, d, _, _, _, rfl, sk _ _ ha, fun dd e => (hd dd e).imp fun fs z => sk _ _ z, ec, .own J17, kt17, ?_⟩
    refine ⟨by show 3 ≤ sizeLine; omega, fun q2 hq2 => ?_⟩
    have u := Same.new (o := .lst [V.bl (b 15), V.bl (b 16), V.bl (b 17)]) hq2
    refine ⟨q, q2, _, _, rfl, rfl, u _ _ hq, upd_same, by show 15 + 3 ≤ sizeLine; omega, fun q3 hq3 => ?_⟩
    have u3 := Same.new (o := .lst [V.bl (b 0), V.bl (b 1), V.bl (b 2), V.bl (b 3), V.bl (b 4), V.bl (b 5), V.bl (b 6), V.bl (b 7), V.bl (b 8), V.bl (b 9), V.bl (b 10), V.bl (b 11), V.bl (b 12), V.bl (b 13), V.bl (b 14), V.bl (b 15), V.bl (b 16), V.bl (b 17)]) hq3
    exact fin _ q3 ((sk.trans u).trans u3) upd_same
end
end Fz
set_option Elab.async false
set_option linter.all false
set_option maxRecDepth 100000
set_option maxHeartbeats 2000000
namespace Fz
open PySem PySem.Spec PyProof.Rows L2
/-- one step of a reading -/
local macro_rules | `(tactic| walk_at "st") => `(tactic| first
  | refine ⟨_, rfl, ?_⟩
  | refine Or.inl ⟨_, rfl, ?_⟩
  | refine Or.inr ⟨_, rfl, ?_⟩
  | refine ⟨_, _, _, _, rfl, rfl, SqL.of (by first | assumption | exact upd_same), rfl, ?_⟩
  | refine ⟨_, _, _, _, rfl, rfl, (by first | assumption | exact upd_same), rfl, ?_⟩
  | refine ⟨_, _, rfl, .inl ⟨_, SqL.of (by first | assumption | exact upd_same), rfl⟩, ?_⟩
  | refine ⟨_, _, rfl, rfl, (show (0 : Int) < _ by first | decide | omega), ?_⟩
  | refine ⟨_, _, rfl, rfl, (show (0 : Int) < _ ∧ _ < _ by first | exact ⟨by decide, by decide⟩ | omega), ?_⟩
  | refine ⟨_, _, rfl, rfl, (show (_ < _ ∧ _ < _) ∨ (_ < _ ∧ _ < _) by first | exact .inl ⟨by decide, by decide⟩ | omega), ?_⟩
  | refine ⟨_, _, rfl, rfl, (show (0 : Int) ≤ _ ∧ _ ≤ _ ∧ _ < _ by first | exact ⟨by decide, by decide, by decide⟩ | exact ⟨by decide, by decide, by omega⟩), ?_⟩
  | refine ⟨_, _, rfl, rfl, ?_⟩)

abbrev s_law : Stmt := topS 50
theorem sc_law : FnScope ["_law_script", "_law_pen_here", "_law_turn", "_law_base", "_law_due", "_law_some", "_law_first", "_law_second", "_law_told", "_law_spot", "_law_k"] ["_law_script"] (defScope s_law) := ⟨rfl, rfl, rfl, by decide +kernel, rfl, by decide +kernel, by decide +kernel⟩
theorem EL.at_ {H : Hp} : ∀ {vs : List V} {r : List (Addr × Option (List (Str × V)))} {i : Nat} {C : Addr}, EL H vs r → (r.map (·.1))[i]? = some C → ∃ (a : Addr) (d : Option Addr), vs[i]? = some (.ref a) ∧ H a = some (exo a C d) ∧ ∀ dd, d = some dd → ∃ fs, H dd = some (exd dd fs)
  | [], [], i, C, _, e => by cases e
  | v :: vs, (C, some fs) :: r, 0, C', ⟨⟨a, d, e1, h⟩, _⟩, e => by
    cases e
    exact ⟨a, some d, congrArg some e1, h.at_, fun dd z => ⟨fs, by cases z; exact h.dict⟩⟩
  | v :: vs, (C, none) :: r, 0, C', ⟨⟨a, e1, h⟩, _⟩, e => by
    cases e
    exact ⟨a, none, congrArg some e1, h, fun dd z => by cases z⟩
  | v :: vs, (C, some fs) :: r, i + 1, C', ⟨_, t⟩, e => EL.at_ (i := i) t (by simpa using e)
  | v :: vs, (C, none) :: r, i + 1, C', ⟨_, t⟩, e => EL.at_ (i := i) t (by simpa using e)
theorem eqv_bools : ∀ bs : List Bool, PyData.eqvAll (bs.map PyData.bool) (bs.map PyData.bool) = true
  | [] => by simp [PyData.eqvAll]
  | b :: bs => by
    have q := eqv_bools bs
    simp only [List.map_cons, PyData.eqvAll, q, Bool.and_true]
    cases b <;> rfl
theorem ne_bools {K : PySem.W.Frag} {H : Hp} {Q : VK} {a b : Addr} {bs : List Bool} (ha : H a = some (.lst (bs.map V.bl))) (hb : H b = some (.lst (bs.map V.bl))) (fin : Q (.bl false) H) : rNeD K (.ref a) (.ref b) H Q := by
  refine ⟨.list (bs.map PyData.bool), .list (bs.map PyData.bool), Dp.lst (SqL.of ha) (dp_bools bs), Dp.lst (SqL.of hb) (dp_bools bs), shaped_bools bs, shaped_bools bs, ?_⟩
  rw [show PyData.eqv (.list (bs.map PyData.bool)) (.list (bs.map PyData.bool)) = PyData.eqvAll (bs.map PyData.bool) (bs.map PyData.bool) from by simp [PyData.eqv], eqv_bools]
  exact fin
/-- what is asked of each class: its place among them, its bases -/
structure ClsS (K : PySem.W.Frag) (CX : Addr) (J0 J1 J2 J3 J4 J5 J6 J7 J8 J9 J10 J11 J12 J13 J14 J15 J16 J17 : Addr) : Prop where
  each : ∀ (i : Nat) (C : Addr), [J0, J1, J2, J3, J4, J5, J6, J7, J8, J9, J10, J11, J12, J13, J14, J15, J16, J17][i]? = some C → ExcC K C ∧ Kits K C J0 J1 J2 J3 J4 J5 J6 J7 J8 J9 J10 J11 J12 J13 J14 J15 J16 J17 (fun j => decide (j = i)) ∧ PySem.W.kitOne K (.ref C) (.ref CX) = some true ∧ PySem.W.kitOne K (.ref C) (.type "ValueError") = some true
  base : ExcC K CX ∧ Kits K CX J0 J1 J2 J3 J4 J5 J6 J7 J8 J9 J10 J11 J12 J13 J14 J15 J16 J17 (fun _ => false) ∧ PySem.W.kitOne K (.ref CX) (.type "ValueError") = some true

section
variable {P : Program} {w : World} {K : PySem.W.Frag} {mg : Str → Option Value} {base : Heap}

def spLawE (K : PySem.W.Frag) : Sp := fun vs H Q _ => ∃ (a : Addr) (ns : List Int), vs = [.ref a] ∧ SqL K H a (ns.map V.int) ∧ ns.length ≤ 63 ∧ ∀ H', Q (.bl true) H'
theorem ok_law {f fPn fVa fOd fNa fFi fCl fSa CF CX J0 J1 J2 J3 J4 J5 J6 J7 J8 J9 J10 J11 J12 J13 J14 J15 J16 J17 : Addr} {fd fdPn fdVa fdOd fdNa fdFi fdCl fdSa : FuncData} (F : Fun K "law" "law" s_law f fd) (U : Blt mg) (zVE : mg "ValueError" = none) (g_X : mg "FreeError" = some (.ref CX)) (NX : PySem.W.excIn K CX bmVE "ValueError.__new__" = true) (kX : PySem.W.keepIn K (.ref CX) = true) (CL : ClsS K CX J0 J1 J2 J3 J4 J5 J6 J7 J8 J9 J10 J11 J12 J13 J14 J15 J16 J17)
    (Pn : Fun K "_law_pen" "_law_pen" s_pen fPn fdPn) (g_pen : mg "_law_pen" = some (.ref fPn)) (b_pen : L2.Binds K fdPn ["_law_script"] [])
    (Va : Fun K "_law_value" "_law_value" s_value fVa fdVa) (g_value : mg "_law_value" = some (.ref fVa)) (b_value : L2.Binds K fdVa ["_law_pen_here"] [])
    (Od : Fun K "_law_ordered" "_law_ordered" s_ordered fOd fdOd) (g_ordered : mg "_law_ordered" = some (.ref fOd)) (b_ordered : L2.Binds K fdOd ["_law_first", "_law_second"] [])
    (Na : Fun K "_law_named" "_law_named" s_named fNa fdNa) (g_named : mg "_law_named" = some (.ref fNa)) (b_named : L2.Binds K fdNa ["_law_first", "_law_second"] [])
    (Fi : Fun K "_law_fields" "_law_fields" s_fields fFi fdFi) (g_fields : mg "_law_fields" = some (.ref fFi)) (b_fields : L2.Binds K fdFi ["_law_some"] [])
    (Cl : Fun K "_law_classes" "_law_classes" s_classes fCl fdCl) (g_classes : mg "_law_classes" = some (.ref fCl)) (b_classes : L2.Binds K fdCl ["_law_error"] [])
    (Sa : Fun K "_law_is_same" "_law_is_same" s_same fSa fdSa) (g_same : mg "_law_is_same" = some (.ref fSa)) (b_same : L2.Binds K fdSa ["_law_one", "_law_other"] [])
    (G_value : FnOk P w K mg base CX0 7 fVa fdVa ["_law_pen_here"] (spValue K CF)) (G_ordered : FnOk P w K mg base CX0 3 fOd fdOd ["_law_first", "_law_second"] (spMade J0 J1 J2 J3 J4 J5 J6 J7 J8 J9 J10 J11 J12 J13 J14 J15 J16 J17)) (G_named : FnOk P w K mg base CX0 3 fNa fdNa ["_law_first", "_law_second"] (spMade J0 J1 J2 J3 J4 J5 J6 J7 J8 J9 J10 J11 J12 J13 J14 J15 J16 J17)) (G_fields : FnOk P w K mg base CX0 1 fFi fdFi ["_law_some"] (spFields J0 J1 J2 J3 J4 J5 J6 J7 J8 J9 J10 J11 J12 J13 J14 J15 J16 J17))
    (G_classes : FnOk P w K mg base CX0 1 fCl fdCl ["_law_error"] (spClasses K J0 J1 J2 J3 J4 J5 J6 J7 J8 J9 J10 J11 J12 J13 J14 J15 J16 J17)) (G_same : FnG P w K mg base CX0 3 fSa fdSa ["_law_one", "_law_other"] (spSame K CF)) : FnG P w K mg base CX0 9 f fd ["_law_script"] (spLawE K) := by
  have G_pen : FnOk P w K mg base CX0 1 fPn fdPn ["_law_script"] (spPen K) := ok_pen Pn U
  refine funG F sc_law (fun vs H Q E h => ?_) (fun cdv A outer s H vs Q E _ hr hg h => ?_)
  · obtain ⟨a, ns, rfl, _⟩ := h
    rfl
  · obtain ⟨a, ns, rfl, hs, few, fin⟩ := h
    refine ⟨_, (pss_cons (ps_set (i := 1) sc_law.nd rfl (Or.inl rfl) (pe_call G_pen (hr.mono (by decide)) rfl g_pen Pn.kp b_pen .nil pass0 (by exact (pa_cons (pv 0) pa_nil))))
  (C8.pss_cut (ps_for PassesOwn.never rfl (pi_range1 rfl U.z_range (by exact (pa_cons pe_int pa_nil))) (pg_name (i := 2) sc_law.nd rfl (Or.inl rfl)) (pss_cons (ps_par (i := 6) (j := 7) (by rfl) sc_law.nd rfl rfl (by decide) rfl rfl (pa_cons (pe_call G_value (hr.mono (by decide)) rfl g_value Va.kp b_value .nil pass0 (by exact (pa_cons (pv 1) pa_nil))) (pa_cons (pe_call G_value (hr.mono (by decide)) rfl g_value Va.kp b_value .nil pass0 (by exact (pa_cons (pv 1) pa_nil))) pa_nil)) (by rfl))
  (C8.pss_cut (ps_set (i := 4) sc_law.nd rfl (Or.inr rfl) (pe_op op_cat (pe_op op_rep (pe_lst (pa_cons (pe_lst (pa_cons (pv 6) pa_nil)) pa_nil)) pe_int) (pe_lst (pa_cons (pe_lst (pa_cons (pv 6) (pa_cons (pv 7) pa_nil))) (pa_cons (pe_lst (pa_cons (pv 6) pa_nil)) (pa_cons (pe_lst (pa_cons (pv 6) (pa_cons (pv 7) pa_nil))) (pa_cons (pe_lst (pa_cons (pv 6) pa_nil)) (pa_cons (pe_lst pa_nil) (pa_cons (pe_lst (pa_cons (pv 6) pa_nil)) pa_nil)))))))))
  (C8.pss_cut (ps_set (i := 4) sc_law.nd rfl (Or.inr rfl) (pe_op op_cat (pv 4) (pe_lst (pa_cons (pe_lst (pa_cons (pv 6) (pa_cons (pv 7) pa_nil))) (pa_cons (pe_lst (pa_cons (pv 6) (pa_cons (pv 7) pa_nil))) (pa_cons (pe_lst (pa_cons (pv 6) pa_nil)) pa_nil))))))
  (pss_one (ps_for PassesOwn.never rfl (pi_list (pe_lst (pa_cons (pe_call G_ordered (hr.mono (by decide)) rfl g_ordered Od.kp b_ordered .nil pass0 (by exact (pa_cons (pv 6) (pa_cons (pv 7) pa_nil)))) (pa_cons (pe_call G_named (hr.mono (by decide)) rfl g_named Na.kp b_named .nil pass0 (by exact (pa_cons (pv 6) (pa_cons (pv 7) pa_nil)))) pa_nil)))) (pg_name (i := 5) sc_law.nd rfl (Or.inl rfl)) (C8.pss_cut (ps_set (i := 8) sc_law.nd rfl (Or.inr rfl) (pe_call G_fields (hr.mono (by decide)) rfl g_fields Fi.kp b_fields .nil pass0 (by exact (pa_cons (pv 5) pa_nil))))
  (pss_one (ps_for PassesOwn.never rfl (pi_range1 rfl U.z_range (by exact (pa_cons pe_int pa_nil))) (pg_name (i := 9) sc_law.nd rfl (Or.inr rfl)) (pss_cons (ps_if (pt_cmpR op_ne (pe_callB call_len rfl U.z_len (by decide +kernel) (pa_cons (pe_ix ix_list (pv 8) (pv 9) (fun _ _ => rfl)) pa_nil)) (pe_callB call_len rfl U.z_len (by decide +kernel) (pa_cons (pe_ix ix_list (pv 4) (pv 9) (fun _ _ => rfl)) pa_nil)) (nomark _)) (pss_one (ps_ret pe_bl)) pss_nil)
  (pss_cons (ps_if (pt_cmpR (op_neD hr.units) (pe_lc (own := [("_law_k", 10)]) rfl sc_law.nd (pi_range1 rfl U.z_range (by exact (pa_cons (pe_callB call_len rfl U.z_len (by decide +kernel) (pa_cons (pe_ix ix_list (pv 4) (pv 9) (fun _ _ => rfl)) pa_nil)) pa_nil))) (blkOk_by (by kernel_rfl)) (fun s_ H_ C_ cl_ fp_ => (pg_name (i := 10) sc_law.nd rfl (Or.inl rfl))) (fun s_ H_ C_ cl_ fp_ => (pts_one (pt_not (pt_val (pe_callG G_same (hr.mono (by decide)) hg rfl g_same Sa.kp b_same .nil pass0 (by exact (pa_cons (pe_ix (show IxR _ (rIxL K) from ix_list) (pe_ix (show IxR _ (rIxL K) from ix_list) (pv 8) (pv 9) (fun _ _ => rfl)) (pv 10) (fun _ _ => rfl)) (pa_cons (pe_ix (show IxR _ (rIxL K) from ix_list) (pe_ix (show IxR _ (rIxL K) from ix_list) (pv 4) (pv 9) (fun _ _ => rfl)) (pv 10) (fun _ _ => rfl)) pa_nil)))))))) (fun s_ H_ C_ cl_ fp_ => pe_int)) (pe_lst pa_nil) (nomark _)) (pss_one (ps_ret pe_bl)) pss_nil)
  (pss_cons (ps_if (pt_cmpR (op_neD hr.units) (pe_call G_classes (hr.mono (by decide)) rfl g_classes Cl.kp b_classes .nil pass0 (by exact (pa_cons (pe_ix ix_list (pv 5) (pv 9) (fun _ _ => rfl)) pa_nil))) (pe_lc (own := [("_law_k", 10)]) rfl sc_law.nd (pi_range1 rfl U.z_range (by exact (pa_cons pe_int pa_nil))) (blkOk_by (by kernel_rfl)) (fun s_ H_ C_ cl_ fp_ => (pg_name (i := 10) sc_law.nd rfl (Or.inl rfl))) (fun s_ H_ C_ cl_ fp_ => pts_nil) (fun s_ H_ C_ cl_ fp_ => (pe_cmpR op_eq (pv 10) (pv 9) (nomark _)))) (nomark _)) (pss_one (ps_ret pe_bl)) pss_nil)
  (pss_one (ps_if (PW.pt (pw_or (pt_not (pt_val (pe_callB call_isV rfl U.z_isinstance (by decide +kernel) (pa_cons (pe_ix ix_list (pv 5) (pv 9) (fun _ _ => rfl)) (pa_cons (pe_glob (v := .ref _) rfl g_X rfl) pa_nil))))) (pw_or1 (pt_not (pt_val (pe_callB call_isV rfl U.z_isinstance (by decide +kernel) (pa_cons (pe_ix ix_list (pv 5) (pv 9) (fun _ _ => rfl)) (pa_cons (pe_bltn (v := .ty "ValueError") rfl zVE (by decide +kernel) rfl) pa_nil)))))))) (pss_one (ps_ret pe_bl)) pss_nil))))))))))))))
  (pss_cons (ps_set (i := 3) sc_law.nd rfl (Or.inl rfl) (pe_box (pe_mkV0 PySem.F.excBase_ValueError NX rfl g_X kX rfl)))
  (pss_one (ps_ret (pe_and (pe_callB call_isV rfl U.z_isinstance (by decide +kernel) (pa_cons (pv 3) (pa_cons (pe_bltn (v := .ty "ValueError") rfl zVE (by decide +kernel) rfl) pa_nil))) (pe_one (pe_cmpR op_notIn_seq pe_bl (pe_call G_classes (hr.mono (by decide)) rfl g_classes Cl.kp b_classes .nil pass0 (by exact (pa_cons (pv 3) pa_nil))) (by rfl))))))))), ?_⟩
    have sz : (10000 : Nat) ≤ sizeLine := by show 10000 ≤ 16777216; decide
    refine ⟨_, rfl, a, ns, rfl, hs, few, fun H0 p q hp0 hq0 pen0 same0 => ?_⟩
    refine ⟨fun σ' H' => ∃ v2 v4 v5 v6 v7 v8 v9 v10 : Option V, σ' = [some (.ref a), some (.ref p), v2, none, v4, v5, v6, v7, v8, v9, v10] ∧ PenAt 12 H' p q, ?_, ?_⟩
    · refine ⟨6, rfl, by decide, by decide, for_range (lo := 0) (n := 6) (fun i σ' H' => ∃ v2 v4 v5 v6 v7 v8 v9 v10 : Option V, σ' = [some (.ref a), some (.ref p), v2, none, v4, v5, v6, v7, v8, v9, v10] ∧ PenAt (2 * i) H' p q) ⟨_, _, _, _, _, _, _, _, rfl, pen0⟩ ?_ (fun _ _ z => z)⟩
      rintro i σ' H1 hi ⟨v2, v4, v5, v6, v7, v8, v9, v10, rfl, pen1⟩
      refine ⟨_, rfl, 2 * i, p, q, rfl, pen1, by omega, fun H2 v p2 m2 vn gv => ?_⟩
      refine ⟨_, rfl, 2 * i + 1, p, q, rfl, p2, by omega, fun H3 w p3 m3 wn gw => ?_⟩
      refine ⟨_, _, rfl, ?_⟩
      have gv3 := gv.mv m3
      refine ⟨fun σ' H' => ∃ (dl : Addr) (ys : List V), σ' = [some (.ref a), some (.ref p), some (.int (0 + i)), none, some (.ref dl), v5, some v, some w, v8, v9, v10] ∧ Same H3 H' ∧ H' dl = some (.lst ys) ∧ ys.length = 15 ∧ FL H' ys [[v], [v], [v], [v], [v], [v], [v], [v], [v], [v, w], [v], [v, w], [v], [], [v]], ?_, ?_⟩
      · refine ⟨_, rfl, by show 1 ≤ sizeLine; omega, fun g0 h0 => ⟨by show 1 ≤ sizeLine; omega, fun l0 hl0 => ⟨l0, _, _, rfl, rfl, upd_same, by decide, by decide, by show 1 * 9 ≤ sizeLine; omega, fun r1 hr1 => ?_⟩⟩⟩
        have er : (List.replicate (9 : Int).toNat [V.ref g0]).flatten = [V.ref g0, V.ref g0, V.ref g0, V.ref g0, V.ref g0, V.ref g0, V.ref g0, V.ref g0, V.ref g0] := rfl
        rw [er]
        refine ⟨_, rfl, _, rfl, by show 2 ≤ sizeLine; omega, fun g1 h1 => ⟨_, rfl, by show 1 ≤ sizeLine; omega, fun g2 h2 => ⟨_, rfl, _, rfl, by show 2 ≤ sizeLine; omega, fun g3 h3 => ⟨_, rfl, by show 1 ≤ sizeLine; omega, fun g4 h4 => ⟨by show 0 ≤ sizeLine; omega, fun g5 h5 => ⟨_, rfl, by show 1 ≤ sizeLine; omega, fun g6 h6 => ⟨by show 6 ≤ sizeLine; omega, fun l1 hl1 => ?_⟩⟩⟩⟩⟩⟩⟩
        have t0 := Same.new (o := .lst [v]) h0
        have tl0 := Same.new (o := .lst [V.ref g0]) hl0
        have tr1 := Same.new (o := .lst [V.ref g0, V.ref g0, V.ref g0, V.ref g0, V.ref g0, V.ref g0, V.ref g0, V.ref g0, V.ref g0]) hr1
        have t1 := Same.new (o := .lst [v, w]) h1
        have t2 := Same.new (o := .lst [v]) h2
        have t3 := Same.new (o := .lst [v, w]) h3
        have t4 := Same.new (o := .lst [v]) h4
        have t5 := Same.new (o := .lst []) h5
        have t6 := Same.new (o := .lst [v]) h6
        have tl1 := Same.new (o := .lst [V.ref g1, .ref g2, .ref g3, .ref g4, .ref g5, .ref g6]) hl1
        have x6 := t6.trans tl1
        have x5 := t5.trans x6
        have x4 := t4.trans x5
        have x3 := t3.trans x4
        have x2 := t2.trans x3
        have x1 := t1.trans x2
        have xr := tr1.trans x1
        have xl := tl0.trans xr
        refine ⟨r1, l1, _, _, rfl, rfl, x1 _ _ upd_same, upd_same, by show 9 + 6 ≤ sizeLine; omega, fun l2 hl2 => ?_⟩
        have tl2 := Same.new (o := .lst ([V.ref g0, V.ref g0, V.ref g0, V.ref g0, V.ref g0, V.ref g0, V.ref g0, V.ref g0, V.ref g0] ++ [V.ref g1, .ref g2, .ref g3, .ref g4, .ref g5, .ref g6])) hl2
        have c0 := tl2 _ _ (xl _ _ (upd_same (H := H3) (a := g0) (o := .lst [v])))
        exact ⟨l2, _, rfl, (t0.trans xl).trans tl2, upd_same, rfl, ⟨⟨g0, rfl, c0⟩, ⟨g0, rfl, c0⟩, ⟨g0, rfl, c0⟩, ⟨g0, rfl, c0⟩, ⟨g0, rfl, c0⟩, ⟨g0, rfl, c0⟩, ⟨g0, rfl, c0⟩, ⟨g0, rfl, c0⟩, ⟨g0, rfl, c0⟩, ⟨g1, rfl, tl2 _ _ (x2 _ _ upd_same)⟩, ⟨g2, rfl, tl2 _ _ (x3 _ _ upd_same)⟩, ⟨g3, rfl, tl2 _ _ (x4 _ _ upd_same)⟩, ⟨g4, rfl, tl2 _ _ (x5 _ _ upd_same)⟩, ⟨g5, rfl, tl2 _ _ (x6 _ _ upd_same)⟩, ⟨g6, rfl, tl2 _ _ (tl1 _ _ upd_same)⟩, True.intro⟩⟩
      rintro σ' H4 ⟨dl, ys, rfl, s4, hdl, l15, fl⟩
      refine ⟨fun σ' H' => ∃ (dl : Addr) (ys : List V), σ' = [some (.ref a), some (.ref p), some (.int (0 + i)), none, some (.ref dl), v5, some v, some w, v8, v9, v10] ∧ Same H4 H' ∧ H' dl = some (.lst ys) ∧ FL H' ys (fldS v w), ?_, ?_⟩
      · refine ⟨_, rfl, _, rfl, _, rfl, by show 2 ≤ sizeLine; omega, fun g1 h1 => ⟨_, rfl, _, rfl, by show 2 ≤ sizeLine; omega, fun g2 h2 => ⟨_, rfl, by show 1 ≤ sizeLine; omega, fun g3 h3 => ⟨by show 3 ≤ sizeLine; omega, fun l1 hl1 => ?_⟩⟩⟩⟩
        have t1 := Same.new (o := .lst [v, w]) h1
        have t2 := Same.new (o := .lst [v, w]) h2
        have t3 := Same.new (o := .lst [v]) h3
        have tl1 := Same.new (o := .lst [V.ref g1, .ref g2, .ref g3]) hl1
        have x3 := t3.trans tl1
        have x2 := t2.trans x3
        have xA := t1.trans x2
        refine ⟨dl, l1, _, _, rfl, rfl, xA _ _ hdl, upd_same, by rw [l15]; show 15 + 3 ≤ sizeLine; omega, fun l2 hl2 => ?_⟩
        have tl2 := Same.new (o := .lst (ys ++ [V.ref g1, .ref g2, .ref g3])) hl2
        have fn : FL _ [V.ref g1, .ref g2, .ref g3] [[v, w], [v, w], [v]] := ⟨⟨g1, rfl, x2 _ _ upd_same⟩, ⟨g2, rfl, x3 _ _ upd_same⟩, ⟨g3, rfl, tl1 _ _ upd_same⟩, True.intro⟩
        exact ⟨l2, _, rfl, xA.trans tl2, upd_same, ((fl.same xA).app fn).same tl2⟩
      rintro σ' H5 ⟨dl2, zs, rfl, s5, hdl2, fl2⟩
      clear hdl fl l15
      refine ⟨_, rfl, _, rfl, v, w, rfl, fun H6 lA xsA s6 hA eA => ?_⟩
      refine ⟨_, rfl, _, rfl, v, w, rfl, fun H7 lB xsB s7 hB eB => ?_⟩
      refine ⟨by show 2 ≤ sizeLine; omega, fun lt hlt => ?_⟩
      have s8 := Same.new (o := .lst [V.ref lA, .ref lB]) hlt
      have s58 := (s6.trans s7).trans s8
      have s38 := (s4.trans s5).trans s58
      have gv8 := gv3.same s38
      have gw8 := gw.same s38
      have p8 := (p3.same s38).more (show 2 * i + 2 ≤ 2 * (i + 1) by omega)
      have hdl8 := s58 _ _ hdl2
      have fl8 := fl2.same s58
      have hA8 := (s7.trans s8) _ _ hA
      have eA8 := eA.same (s7.trans s8)
      have hB8 := s8 _ _ hB
      have eB8 := eB.same s8
      have hlt8 : upd H7 lt (.lst [V.ref lA, .ref lB]) lt = some (.lst [V.ref lA, .ref lB]) := upd_same
      generalize upd H7 lt (.lst [V.ref lA, .ref lB]) = H8 at *
      refine ⟨lt, rfl, ⟨_, SqL.of hlt8⟩, for_list (K := K) (a := lt) (xs := [V.ref lA, .ref lB]) (fun j σ' H' => ∃ v5 v8 v9 v10 : Option V, σ' = [some (.ref a), some (.ref p), some (.int (0 + i)), none, some (.ref dl2), v5, some v, some w, v8, v9, v10] ∧ Same H8 H') ⟨_, _, _, _, rfl, fun _ _ z => z⟩ (fun j σ' H' _ ⟨_, _, _, _, _, s⟩ => SqL.of (s _ _ hlt8)) ?_ ?_⟩
      rotate_left
      · rintro σ' H' ⟨v5, v8, v9, v10, rfl, s⟩
        exact ⟨_, _, _, _, _, _, _, _, rfl, p8.same s⟩
      rintro j x σ' H9 hx ⟨v5, v8, v9, v10, rfl, s9⟩
      obtain ⟨ls, xs, rfl, hls, el⟩ : ∃ (ls : Addr) (xs : List V), x = .ref ls ∧ H9 ls = some (.lst xs) ∧ EL H9 xs (erS J0 J1 J2 J3 J4 J5 J6 J7 J8 J9 J10 J11 J12 J13 J14 J15 J16 J17 v w) := by
        match j, hx with
        | 0, hx => cases hx; exact ⟨lA, xsA, rfl, s9 _ _ hA8, eA8.same s9⟩
        | 1, hx => cases hx; exact ⟨lB, xsB, rfl, s9 _ _ hB8, eB8.same s9⟩
        | n + 2, hx => cases hx
      refine ⟨fun σ' H' => ∃ (tl : Addr) (ts : List V), σ' = [some (.ref a), some (.ref p), some (.int (0 + i)), none, some (.ref dl2), some (.ref ls), some v, some w, some (.ref tl), v9, v10] ∧ Same H9 H' ∧ H' tl = some (.lst ts) ∧ FL H' ts (fldS v w), ?_, ?_⟩
      · exact ⟨_, rfl, ls, xs, v, w, rfl, hls, el, fun H' f ys s hf fl => ⟨f, ys, rfl, s, hf, fl⟩⟩
      rintro σ' HA ⟨tl, ts, rfl, sA, htl, flt⟩
      refine ⟨18, rfl, by decide, by decide, for_range (lo := 0) (n := 18) (fun t σ' H' => ∃ v9 v10 : Option V, σ' = [some (.ref a), some (.ref p), some (.int (0 + i)), none, some (.ref dl2), some (.ref ls), some v, some w, some (.ref tl), v9, v10] ∧ Same HA H') ⟨_, _, rfl, fun _ _ z => z⟩ ?_ ?_⟩
      rotate_left
      · rintro σ' H' ⟨v9, v10, rfl, s⟩
        exact ⟨_, _, _, _, rfl, s9.trans (sA.trans s)⟩
      rintro t σ' HB ht ⟨v9, v10, rfl, sB⟩
      have e0 : (0 : Int) + (t : Int) = ((t : Nat) : Int) := by omega
      obtain ⟨fs, hf⟩ : ∃ fs, (fldS v w)[t]? = some fs := ⟨_, List.getElem?_eq_getElem (show t < (fldS v w).length from ht)⟩
      have fsOk : ∀ g ∈ fldS v w, g.length ≤ 2 ∧ ∀ y ∈ g, y = v ∨ y = w := by
        unfold fldS
        simp
      obtain ⟨fs2, fsvw⟩ := fsOk fs (List.mem_of_getElem? hf)
      obtain ⟨fa, ha1, ha2⟩ := flt.at_ hf
      obtain ⟨fb, hb1, hb2⟩ := fl8.at_ hf
      have sAB := sA.trans sB
      have s8B := s9.trans sAB
      have htl' := sB _ _ htl
      have hdl' := s8B _ _ hdl8
      have ha2' := sB _ _ ha2
      have hb2' := s8B _ _ hb2
      have getT : atI ts (0 + (t : Int)) = some (.ref fa) := by rw [e0]; exact at_nat' ha1
      have getD : atI zs (0 + (t : Int)) = some (.ref fb) := by rw [e0]; exact at_nat' hb1
      refine ⟨_, rfl, _, rfl, tl, _, _, _, rfl, rfl, SqL.of htl', getT, _, _, rfl, SeqAt2.len (.inl ha2'), _, rfl, _, rfl, dl2, _, _, _, rfl, rfl, SqL.of hdl', getD, _, _, rfl, SeqAt2.len (.inl hb2'), rfl, _, rfl, ?_⟩
      rw [decide_eq_true rfl]
      refine iteF ?_
      refine ⟨_, rfl, _, rfl, dl2, _, _, _, rfl, rfl, SqL.of hdl', getD, _, _, rfl, SeqAt2.len (.inl hb2'), _, rfl, by omega, by omega, fun D hD => ?_⟩
      refine lc_range (lo := 0) (n := ((fs.length : Nat) : Int).toNat) (fun _ H' => Same (upd HB D (.lst [])) H') (fun _ _ z => z) (fun k H' hk sq => ?_) (fun H' sq => ?_)
      · have sC := (Same.new hD).trans sq
        have kl : k < fs.length := by omega
        have e1 : (0 : Int) + (k : Int) = ((k : Nat) : Int) := by omega
        have getk : atI fs (0 + (k : Int)) = some fs[k] := by rw [e1]; exact at_nat' (List.getElem?_eq_getElem kl)
        have gk : GoodV K CF p H' fs[k] := by
          rcases fsvw _ (List.getElem_mem kl) with z | z
          · rw [z]; exact (gv8.same s8B).same sC
          · rw [z]; exact (gw8.same s8B).same sC
        refine ⟨rfl, _, rfl, _, rfl, tl, _, _, _, rfl, rfl, SqL.of (sC _ _ htl'), getT, _, rfl, fa, _, _, _, rfl, rfl, SqL.of (sC _ _ ha2'), getk, ?_⟩
        refine ⟨_, rfl, _, rfl, dl2, _, _, _, rfl, rfl, SqL.of (sC _ _ hdl'), getD, _, rfl, fb, _, _, _, rfl, rfl, SqL.of (sC _ _ hb2'), getk, ?_⟩
        exact ⟨p, fs[k], rfl, gk, ⟨_, rfl, iteF sq⟩⟩
      have sC := (Same.new hD).trans sq
      refine ⟨Nat.zero_le _, fun l5 hl5 => ?_⟩
      have u5 := Same.new (o := .lst []) hl5
      refine ⟨.list [], .list [], Dp.lst (SqL.of (u5 _ _ (sq D _ upd_same))) .nil, Dp.lst (SqL.of upd_same) .nil, shaped_ints [], shaped_ints [], _, rfl, iteF ?_⟩
      have sD := sC.trans u5
      obtain ⟨C, hC⟩ : ∃ C, [J0, J1, J2, J3, J4, J5, J6, J7, J8, J9, J10, J11, J12, J13, J14, J15, J16, J17][t]? = some C := ⟨_, List.getElem?_eq_getElem (show t < [J0, J1, J2, J3, J4, J5, J6, J7, J8, J9, J10, J11, J12, J13, J14, J15, J16, J17].length from ht)⟩
      obtain ⟨a1, d1, hx1, hx2, hx3⟩ := el.at_ (i := t) (C := C) hC
      obtain ⟨ec, kits, kx, kv⟩ := CL.each t C hC
      have sE := sAB.trans sD
      have hls' := sE _ _ hls
      have hx2' := sE _ _ hx2
      have hx3' : ∀ dd, d1 = some dd → ∃ fs, (upd H' l5 (.lst [])) dd = some (exd dd fs) := fun dd e => (hx3 dd e).imp fun g z => sE _ _ z
      have getS : atI xs (0 + (t : Int)) = some (.ref a1) := by rw [e0]; exact at_nat' hx1
      refine ⟨_, rfl, _, rfl, ls, _, _, _, rfl, rfl, SqL.of hls', getS, a1, C, d1, (fun j => decide (j = t)), rfl, hx2', hx3', ec, kits, fun HE qb sF hqb => ?_⟩
      refine ⟨_, rfl, by decide, by decide, fun D2 hD2 => ?_⟩
      refine lc_range (lo := 0) (n := (18 : Int).toNat) (fun k H' => Same HE H' ∧ H' D2 = some (.lst (((List.range k).map fun j => decide (j = t)).map V.bl))) ⟨Same.new hD2, upd_same⟩ (fun k H' hk sq => ?_) (fun H' sq => ?_)
      · refine ⟨rfl, ?_⟩
        refine iteT (B := Same HE H' ∧ H' D2 = some (.lst (((List.range (k + 1)).map fun j => decide (j = t)).map V.bl))) ?_
        refine ⟨_, rfl, _, rfl, rfl, _, sq.2, by rw [List.length_map, List.length_map, List.length_range]; omega, fun b o e => ?_, ?_⟩
        · have nb : b ≠ D2 := fun z => by rw [z, hD2] at e; cases e
          rw [upd_ne nb]
          exact sq.1 b o e
        · have ek : decide (V.int (0 + (k : Int)) = V.int (0 + (t : Int))) = decide (k = t) := by
            by_cases z : k = t
            · rw [z, decide_eq_true rfl, decide_eq_true rfl]
            · rw [decide_eq_false z, decide_eq_false fun y => z (by have := V.int.inj y; omega)]
          rw [upd_same, List.range_succ, List.map_append, List.map_append, ek]
          rfl
      refine ne_bools (bs := (List.range 18).map fun j => decide (j = t)) (sq.1 _ _ hqb) sq.2 ⟨_, rfl, iteF ?_⟩
      have sG := sF.trans sq.1
      have hx3'' : ∀ dd, d1 = some dd → ∃ fs, H' dd = some (exd dd fs) := fun dd e => (hx3' dd e).imp fun g z => sG _ _ z
      refine ⟨_, rfl, _, rfl, ls, _, _, _, rfl, rfl, SqL.of (sG _ _ hls'), getS, a1, C, d1, _, _, true, rfl, sG _ _ hx2', hx3'', ec, .own CX, kx, _, rfl, iteF ?_⟩
      refine ⟨_, rfl, _, rfl, ls, _, _, _, rfl, rfl, SqL.of (sG _ _ hls'), getS, a1, C, d1, _, _, true, rfl, sG _ _ hx2', hx3'', ec, .ty _, kv, _, rfl, iteF ?_⟩
      exact ⟨_, _, rfl, sB.trans (sD.trans sG)⟩
    rintro σ' H1 ⟨v2, v4, v5, v6, v7, v8, v9, v10, rfl, pen1⟩
    obtain ⟨ecX, kitX, kvX⟩ := CL.base
    refine mkV0_box fun H2 ab s2 hab => ?_
    have noD : ∀ (Hx : Hp) dd, (none : Option Addr) = some dd → ∃ fs, Hx dd = some (exd dd fs) := fun Hx dd e => by cases e
    refine ⟨_, rfl, ab, CX, none, _, _, true, rfl, hab, noD _, ecX, .ty _, kvX, _, rfl, iteT ?_⟩
    refine ⟨_, rfl, ab, CX, none, (fun _ => false), rfl, hab, noD _, ecX, kitX, fun H3 qb s3 hqb => ?_⟩
    refine ⟨qb, List.replicate 18 (V.bl false), rfl, .inl (SqL.of hqb), rfl, by decide +kernel, ?_⟩
    rw [show (if (true : Bool) = true then !inV (V.bl true) (List.replicate 18 (V.bl false)) else inV (V.bl true) (List.replicate 18 (V.bl false))) = true from by decide +kernel]
    exact fin _

end
end Fz
set_option Elab.async false
set_option linter.all false
set_option maxRecDepth 100000
set_option maxHeartbeats 2000000
namespace Fz
open PySem PySem.Spec PyProof.Rows L2
/-- one step of a reading -/
local macro_rules | `(tactic| walk_at "st") => `(tactic| first
  | refine ⟨_, rfl, ?_⟩
  | refine Or.inl ⟨_, rfl, ?_⟩
  | refine Or.inr ⟨_, rfl, ?_⟩
  | refine ⟨_, _, _, _, rfl, rfl, SqL.of (by first | assumption | exact upd_same), rfl, ?_⟩
  | refine ⟨_, _, _, _, rfl, rfl, (by first | assumption | exact upd_same), rfl, ?_⟩
  | refine ⟨_, _, rfl, .inl ⟨_, SqL.of (by first | assumption | exact upd_same), rfl⟩, ?_⟩
  | refine ⟨_, _, rfl, rfl, (show (0 : Int) < _ by first | decide | omega), ?_⟩
  | refine ⟨_, _, rfl, rfl, (show (0 : Int) < _ ∧ _ < _ by first | exact ⟨by decide, by decide⟩ | omega), ?_⟩
  | refine ⟨_, _, rfl, rfl, (show (_ < _ ∧ _ < _) ∨ (_ < _ ∧ _ < _) by first | exact .inl ⟨by decide, by decide⟩ | omega), ?_⟩
  | refine ⟨_, _, rfl, rfl, (show (0 : Int) ≤ _ ∧ _ ≤ _ ∧ _ < _ by first | exact ⟨by decide, by decide, by decide⟩ | exact ⟨by decide, by decide, by omega⟩), ?_⟩
  | refine ⟨_, _, rfl, rfl, ?_⟩)

/-- of which of these classes, as a check -/
def kitRow (K : PySem.W.Frag) (C : Addr) : List Addr → List Bool → Bool
  | [], [] => true
  | a :: r, b :: q => (PySem.W.kitOne K (.ref C) (.ref a) == some b) && kitRow K C r q
  | _, _ => false
def clsB (K : PySem.W.Frag) (C : Addr) (js : List Addr) (bs : List Bool) : Bool :=
  decide (PySem.W.findIn K (.ref C) "__getattribute__" = some (some (.builtin "BaseException.__getattribute__"))) && (decide (PySem.W.findIn K (.ref C) "__getattr__" = some none) && (decide (PySem.W.subIn K (.ref C) (.type "BaseException") = some true) && (PySem.W.hasDictIn K C && (decide (PySem.W.findIn K (.ref C) "__class__" = some (some (.builtin "object.__class__"))) &&
  (decide (PySem.W.specialIn K (.builtin "object.__class__") "__get__" = some (some (.builtin "getset_descriptor.__get__"))) && (decide (PySem.W.takesIn K (.builtin "object.__class__") = some true) && (decide (PySem.W.mroIn K C (.type "object") = some true) && (decide (PySem.W.kitOne K (.ref C) (.type "ValueError") = some true) && kitRow K C js bs))))))))
theorem clsB_ok {K : PySem.W.Frag} {C : Addr} {js : List Addr} {bs : List Bool} (h : clsB K C js bs = true) : ExcC K C ∧ XfC K C ∧ PySem.W.kitOne K (.ref C) (.type "ValueError") = some true ∧ kitRow K C js bs = true := by
  unfold clsB at h
  obtain ⟨h1, h⟩ := Bool.and_eq_true_iff.mp h
  obtain ⟨h2, h⟩ := Bool.and_eq_true_iff.mp h
  obtain ⟨h3, h⟩ := Bool.and_eq_true_iff.mp h
  obtain ⟨h4, h⟩ := Bool.and_eq_true_iff.mp h
  obtain ⟨h5, h⟩ := Bool.and_eq_true_iff.mp h
  obtain ⟨h6, h⟩ := Bool.and_eq_true_iff.mp h
  obtain ⟨h7, h⟩ := Bool.and_eq_true_iff.mp h
  obtain ⟨h8, h⟩ := Bool.and_eq_true_iff.mp h
  obtain ⟨h9, h⟩ := Bool.and_eq_true_iff.mp h
  exact ⟨⟨of_decide_eq_true h1, of_decide_eq_true h2, of_decide_eq_true h3, h4, of_decide_eq_true h5, of_decide_eq_true h6, of_decide_eq_true h7, of_decide_eq_true h8⟩, ⟨of_decide_eq_true h1, of_decide_eq_true h2, of_decide_eq_true h3, h4⟩, of_decide_eq_true h9, h⟩
theorem bf_three {K : PySem.W.Frag} {f : Addr} {fd : FuncData} (F : FunFixed K f fd) : ∃ ds, Vals [V.int 0] ds ∧ L2.Binds K fd pFx ds :=
  F.binds1 (ps := pFx) 4 2 (by simp) rfl (fun T kV doc pm an cdv ct us its l1 l2 => match us, l1, its, l2 with | [_, _, _, _], _, [_, _, _], _ => ⟨_, rfl, rfl⟩)
theorem nf1 {K : PySem.W.Frag} {C : Addr} {f : Str} (h : PySem.W.findIn K (.ref C) f = some none) : ∀ g ∈ [f], PySem.W.findIn K (.ref C) g = some none := fun g hg => by
  rw [List.mem_singleton.mp hg]
  exact h
theorem nf2 {K : PySem.W.Frag} {C : Addr} {f f2 : Str} (h : PySem.W.findIn K (.ref C) f = some none) (h2 : PySem.W.findIn K (.ref C) f2 = some none) : ∀ g ∈ [f, f2], PySem.W.findIn K (.ref C) g = some none := fun g hg => by
  simp only [List.mem_cons, List.not_mem_nil, or_false] at hg
  rcases hg with rfl | rfl
  · exact h
  · exact h2
theorem kitRow_at {K : PySem.W.Frag} {C a : Addr} {r : List Addr} {b : Bool} {q : List Bool} (h : kitRow K C (a :: r) (b :: q) = true) : PySem.W.kitOne K (.ref C) (.ref a) = some b ∧ kitRow K C r q = true := by
  obtain ⟨h1, h2⟩ := Bool.and_eq_true_iff.mp (show ((PySem.W.kitOne K (.ref C) (.ref a) == some b) && kitRow K C r q) = true from h)
  exact ⟨eq_of_beq h1, h2⟩
theorem kits_of {K : PySem.W.Frag} {C CX J0 J1 J2 J3 J4 J5 J6 J7 J8 J9 J10 J11 J12 J13 J14 J15 J16 J17 : Addr} {x : Bool} {b : Nat → Bool} (h : kitRow K C [CX, J0, J1, J2, J3, J4, J5, J6, J7, J8, J9, J10, J11, J12, J13, J14, J15, J16, J17] [x, b 0, b 1, b 2, b 3, b 4, b 5, b 6, b 7, b 8, b 9, b 10, b 11, b 12, b 13, b 14, b 15, b 16, b 17] = true) : PySem.W.kitOne K (.ref C) (.ref CX) = some x ∧ Kits K C J0 J1 J2 J3 J4 J5 J6 J7 J8 J9 J10 J11 J12 J13 J14 J15 J16 J17 b := by
  obtain ⟨hx, h⟩ := kitRow_at h
  obtain ⟨h0, h⟩ := kitRow_at h
  obtain ⟨h1, h⟩ := kitRow_at h
  obtain ⟨h2, h⟩ := kitRow_at h
  obtain ⟨h3, h⟩ := kitRow_at h
  obtain ⟨h4, h⟩ := kitRow_at h
  obtain ⟨h5, h⟩ := kitRow_at h
  obtain ⟨h6, h⟩ := kitRow_at h
  obtain ⟨h7, h⟩ := kitRow_at h
  obtain ⟨h8, h⟩ := kitRow_at h
  obtain ⟨h9, h⟩ := kitRow_at h
  obtain ⟨h10, h⟩ := kitRow_at h
  obtain ⟨h11, h⟩ := kitRow_at h
  obtain ⟨h12, h⟩ := kitRow_at h
  obtain ⟨h13, h⟩ := kitRow_at h
  obtain ⟨h14, h⟩ := kitRow_at h
  obtain ⟨h15, h⟩ := kitRow_at h
  obtain ⟨h16, h⟩ := kitRow_at h
  obtain ⟨h17, h⟩ := kitRow_at h
  exact ⟨hx, h0, h1, h2, h3, h4, h5, h6, h7, h8, h9, h10, h11, h12, h13, h14, h15, h16, h17⟩

theorem kb0 {K : PySem.W.Frag} {f : Addr} {fd : FuncData} (F : Fun K "__init__" "BadRule.__init__" s_eBadRule f fd) : KBn K fd ["self", "part"] 1 ["part"] (fun us ws => us ++ ws) (fun vs zs => vs ++ zs) := by
  obtain ⟨oc, od, kV, doc, pm, an, cdv, ct, osl, rfl, lk, hcd⟩ := F.ex
  exact ⟨fun s us ws _ l1 l2 => match us, l1, ws, l2 with | [_], _, [_], _ => .of_eq rfl, fun r1 r2 => r1.append r2⟩
theorem kb1 {K : PySem.W.Frag} {f : Addr} {fd : FuncData} (F : Fun K "__init__" "BadBook.__init__" s_eBadBook f fd) : KBn K fd ["self", "at"] 1 ["at"] (fun us ws => us ++ ws) (fun vs zs => vs ++ zs) := by
  obtain ⟨oc, od, kV, doc, pm, an, cdv, ct, osl, rfl, lk, hcd⟩ := F.ex
  exact ⟨fun s us ws _ l1 l2 => match us, l1, ws, l2 with | [_], _, [_], _ => .of_eq rfl, fun r1 r2 => r1.append r2⟩
theorem kb2 {K : PySem.W.Frag} {f : Addr} {fd : FuncData} (F : Fun K "__init__" "BadSize.__init__" s_eBadSize f fd) : KBn K fd ["self", "value"] 1 ["value"] (fun us ws => us ++ ws) (fun vs zs => vs ++ zs) := by
  obtain ⟨oc, od, kV, doc, pm, an, cdv, ct, osl, rfl, lk, hcd⟩ := F.ex
  exact ⟨fun s us ws _ l1 l2 => match us, l1, ws, l2 with | [_], _, [_], _ => .of_eq rfl, fun r1 r2 => r1.append r2⟩
theorem kb3 {K : PySem.W.Frag} {f : Addr} {fd : FuncData} (F : Fun K "__init__" "BadTable.__init__" s_eBadTable f fd) : KBn K fd ["self", "part"] 1 ["part"] (fun us ws => us ++ ws) (fun vs zs => vs ++ zs) := by
  obtain ⟨oc, od, kV, doc, pm, an, cdv, ct, osl, rfl, lk, hcd⟩ := F.ex
  exact ⟨fun s us ws _ l1 l2 => match us, l1, ws, l2 with | [_], _, [_], _ => .of_eq rfl, fun r1 r2 => r1.append r2⟩
theorem kb4 {K : PySem.W.Frag} {f : Addr} {fd : FuncData} (F : Fun K "__init__" "BadSizes.__init__" s_eBadSizes f fd) : KBn K fd ["self", "part"] 1 ["part"] (fun us ws => us ++ ws) (fun vs zs => vs ++ zs) := by
  obtain ⟨oc, od, kV, doc, pm, an, cdv, ct, osl, rfl, lk, hcd⟩ := F.ex
  exact ⟨fun s us ws _ l1 l2 => match us, l1, ws, l2 with | [_], _, [_], _ => .of_eq rfl, fun r1 r2 => r1.append r2⟩
theorem kb5 {K : PySem.W.Frag} {f : Addr} {fd : FuncData} (F : Fun K "__init__" "BadNumber.__init__" s_eBadNumber f fd) : KBn K fd ["self", "value"] 1 ["value"] (fun us ws => us ++ ws) (fun vs zs => vs ++ zs) := by
  obtain ⟨oc, od, kV, doc, pm, an, cdv, ct, osl, rfl, lk, hcd⟩ := F.ex
  exact ⟨fun s us ws _ l1 l2 => match us, l1, ws, l2 with | [_], _, [_], _ => .of_eq rfl, fun r1 r2 => r1.append r2⟩
theorem kb6 {K : PySem.W.Frag} {f : Addr} {fd : FuncData} (F : Fun K "__init__" "NoTake.__init__" s_eNoTake f fd) : KBn K fd ["self", "number"] 1 ["number"] (fun us ws => us ++ ws) (fun vs zs => vs ++ zs) := by
  obtain ⟨oc, od, kV, doc, pm, an, cdv, ct, osl, rfl, lk, hcd⟩ := F.ex
  exact ⟨fun s us ws _ l1 l2 => match us, l1, ws, l2 with | [_], _, [_], _ => .of_eq rfl, fun r1 r2 => r1.append r2⟩
theorem kb7 {K : PySem.W.Frag} {f : Addr} {fd : FuncData} (F : Fun K "__init__" "NoPile.__init__" s_eNoPile f fd) : KBn K fd ["self", "index"] 1 ["index"] (fun us ws => us ++ ws) (fun vs zs => vs ++ zs) := by
  obtain ⟨oc, od, kV, doc, pm, an, cdv, ct, osl, rfl, lk, hcd⟩ := F.ex
  exact ⟨fun s us ws _ l1 l2 => match us, l1, ws, l2 with | [_], _, [_], _ => .of_eq rfl, fun r1 r2 => r1.append r2⟩
theorem kb8 {K : PySem.W.Frag} {f : Addr} {fd : FuncData} (F : Fun K "__init__" "NotFree.__init__" s_eNotFree f fd) : KBn K fd ["self", "rule"] 1 ["rule"] (fun us ws => us ++ ws) (fun vs zs => vs ++ zs) := by
  obtain ⟨oc, od, kV, doc, pm, an, cdv, ct, osl, rfl, lk, hcd⟩ := F.ex
  exact ⟨fun s us ws _ l1 l2 => match us, l1, ws, l2 with | [_], _, [_], _ => .of_eq rfl, fun r1 r2 => r1.append r2⟩
theorem kb9 {K : PySem.W.Frag} {f : Addr} {fd : FuncData} (F : Fun K "__init__" "Meets.__init__" s_eMeets f fd) : KBn K fd ["self", "heap", "left"] 1 ["left", "heap"] (fun us ws => us ++ ws.reverse) (fun vs zs => vs ++ zs.reverse) := by
  obtain ⟨oc, od, kV, doc, pm, an, cdv, ct, osl, rfl, lk, hcd⟩ := F.ex
  exact ⟨fun s us ws _ l1 l2 => match us, l1, ws, l2 with | [_], _, [_, _], _ => .of_eq rfl, fun r1 r2 => r1.append r2.reverse⟩
theorem kb10 {K : PySem.W.Frag} {f : Addr} {fd : FuncData} (F : Fun K "__init__" "Needed.__init__" s_eNeeded f fd) : KBn K fd ["self", "rule"] 1 ["rule"] (fun us ws => us ++ ws) (fun vs zs => vs ++ zs) := by
  obtain ⟨oc, od, kV, doc, pm, an, cdv, ct, osl, rfl, lk, hcd⟩ := F.ex
  exact ⟨fun s us ws _ l1 l2 => match us, l1, ws, l2 with | [_], _, [_], _ => .of_eq rfl, fun r1 r2 => r1.append r2⟩
theorem kb11 {K : PySem.W.Frag} {f : Addr} {fd : FuncData} (F : Fun K "__init__" "Lacks.__init__" s_eLacks f fd) : KBn K fd ["self", "heap", "worth"] 1 ["worth", "heap"] (fun us ws => us ++ ws.reverse) (fun vs zs => vs ++ zs.reverse) := by
  obtain ⟨oc, od, kV, doc, pm, an, cdv, ct, osl, rfl, lk, hcd⟩ := F.ex
  exact ⟨fun s us ws _ l1 l2 => match us, l1, ws, l2 with | [_], _, [_, _], _ => .of_eq rfl, fun r1 r2 => r1.append r2.reverse⟩
theorem kb12 {K : PySem.W.Frag} {f : Addr} {fd : FuncData} (F : Fun K "__init__" "NotIn.__init__" s_eNotIn f fd) : KBn K fd ["self", "rule"] 1 ["rule"] (fun us ws => us ++ ws) (fun vs zs => vs ++ zs) := by
  obtain ⟨oc, od, kV, doc, pm, an, cdv, ct, osl, rfl, lk, hcd⟩ := F.ex
  exact ⟨fun s us ws _ l1 l2 => match us, l1, ws, l2 with | [_], _, [_], _ => .of_eq rfl, fun r1 r2 => r1.append r2⟩
theorem kb14 {K : PySem.W.Frag} {f : Addr} {fd : FuncData} (F : Fun K "__init__" "BadLimit.__init__" s_eBadLimit f fd) : KBn K fd ["self", "value"] 1 ["value"] (fun us ws => us ++ ws) (fun vs zs => vs ++ zs) := by
  obtain ⟨oc, od, kV, doc, pm, an, cdv, ct, osl, rfl, lk, hcd⟩ := F.ex
  exact ⟨fun s us ws _ l1 l2 => match us, l1, ws, l2 with | [_], _, [_], _ => .of_eq rfl, fun r1 r2 => r1.append r2⟩
theorem kb15 {K : PySem.W.Frag} {f : Addr} {fd : FuncData} (F : Fun K "__init__" "TooMany.__init__" s_eTooMany f fd) : KBn K fd ["self", "what", "most"] 1 ["most", "what"] (fun us ws => us ++ ws.reverse) (fun vs zs => vs ++ zs.reverse) := by
  obtain ⟨oc, od, kV, doc, pm, an, cdv, ct, osl, rfl, lk, hcd⟩ := F.ex
  exact ⟨fun s us ws _ l1 l2 => match us, l1, ws, l2 with | [_], _, [_, _], _ => .of_eq rfl, fun r1 r2 => r1.append r2.reverse⟩
theorem kb16 {K : PySem.W.Frag} {f : Addr} {fd : FuncData} (F : Fun K "__init__" "BadText.__init__" s_eBadText f fd) : KBn K fd ["self", "line", "word"] 1 ["word", "line"] (fun us ws => us ++ ws.reverse) (fun vs zs => vs ++ zs.reverse) := by
  obtain ⟨oc, od, kV, doc, pm, an, cdv, ct, osl, rfl, lk, hcd⟩ := F.ex
  exact ⟨fun s us ws _ l1 l2 => match us, l1, ws, l2 with | [_], _, [_, _], _ => .of_eq rfl, fun r1 r2 => r1.append r2.reverse⟩
theorem kb17 {K : PySem.W.Frag} {f : Addr} {fd : FuncData} (F : Fun K "__init__" "NoLine.__init__" s_eNoLine f fd) : KBn K fd ["self", "word"] 1 ["word"] (fun us ws => us ++ ws) (fun vs zs => vs ++ zs) := by
  obtain ⟨oc, od, kV, doc, pm, an, cdv, ct, osl, rfl, lk, hcd⟩ := F.ex
  exact ⟨fun s us ws _ l1 l2 => match us, l1, ws, l2 with | [_], _, [_], _ => .of_eq rfl, fun r1 r2 => r1.append r2⟩
theorem all_mk {l : PySem.W.OpenLaw} {w : World} {K : PySem.W.Frag} {h : Heap} {mg mb : Str → Option Value} {fa : Addr} {qp : Program} {lo : List Str} {mean : ExcName → Option Value} (X : K.In h) (Tp : Top qp lo mean mg mb h) (hfa : mg "law" = some (.ref fa))
    {CRl : Addr}
    {CRs : Addr}
    {CF : Addr}
    {CD : Addr}
    {CSz : Addr}
    {CB : Addr}
    {CX : Addr}
    {fN : Addr}
    {odN anN : Option Addr} {slN : Array (Option Value)} {ocN kVN dcN pmN cdN ctN : Value}
    {fRK : Addr}
    {odRK anRK : Option Addr} {slRK : Array (Option Value)} {ocRK kVRK dcRK pmRK cdRK ctRK : Value}
    {fB : Addr}
    {odB anB : Option Addr} {slB : Array (Option Value)} {ocB kVB dcB pmB cdB ctB : Value}
    {fRs : Addr}
    {odRs anRs : Option Addr} {slRs : Array (Option Value)} {ocRs kVRs dcRs pmRs cdRs ctRs : Value}
    {fSz : Addr}
    {odSz anSz : Option Addr} {slSz : Array (Option Value)} {ocSz kVSz dcSz pmSz cdSz ctSz : Value}
    {fFx : Addr}
    {odFx anFx : Option Addr} {slFx : Array (Option Value)} {ocFx kVFx dcFx pmFx cdFx ctFx : Value}
    {fDn : Addr}
    {odDn anDn : Option Addr} {slDn : Array (Option Value)} {ocDn kVDn dcDn pmDn cdDn ctDn : Value}
    {TdFx : Addr} {ocdFx : Value} {oddFx : Option Addr} {ndFx : Nat} {sldFx : Array (Option Value)} {tdFx0 tdFx1 tdFx2 : Tok}
    {TdDn : Addr} {ocdDn : Value} {oddDn : Option Addr} {ndDn : Nat} {sldDn : Array (Option Value)} {tdDn0 tdDn1 : Tok}
    {t_CRl_MOST : Tok}
    {t_CRl_MOST_MODULUS : Tok}
    {nmCB q_CB : Str} {N_CB : Addr} {bsCB bmCB : List Value} {snCB : List Str} {subCB : List Value} {abCB : Bool} {colCB : Option Bool} {ddCB : Option Addr} {m0CB m1CB m2CB m3CB m5CB : Option Value}
    {fEF : Addr}
    {odEF anEF : Option Addr} {slEF : Array (Option Value)} {ocEF kVEF dcEF pmEF cdEF ctEF : Value}
    {fPn : Addr}
    {odPn anPn : Option Addr} {slPn : Array (Option Value)} {ocPn kVPn dcPn pmPn cdPn ctPn : Value}
    {fD : Addr}
    {odD anD : Option Addr} {slD : Array (Option Value)} {ocD kVD dcD pmD cdD ctD : Value}
    {fPk : Addr}
    {odPk anPk : Option Addr} {slPk : Array (Option Value)} {ocPk kVPk dcPk pmPk cdPk ctPk : Value}
    {fVa : Addr}
    {odVa anVa : Option Addr} {slVa : Array (Option Value)} {ocVa kVVa dcVa pmVa cdVa ctVa : Value}
    {fOd : Addr}
    {odOd anOd : Option Addr} {slOd : Array (Option Value)} {ocOd kVOd dcOd pmOd cdOd ctOd : Value}
    {fNa : Addr}
    {odNa anNa : Option Addr} {slNa : Array (Option Value)} {ocNa kVNa dcNa pmNa cdNa ctNa : Value}
    {fFi : Addr}
    {odFi anFi : Option Addr} {slFi : Array (Option Value)} {ocFi kVFi dcFi pmFi cdFi ctFi : Value}
    {fCl : Addr}
    {odCl anCl : Option Addr} {slCl : Array (Option Value)} {ocCl kVCl dcCl pmCl cdCl ctCl : Value}
    {fSa : Addr}
    {odSa anSa : Option Addr} {slSa : Array (Option Value)} {ocSa kVSa dcSa pmSa cdSa ctSa : Value}
    {J1 : Addr}
    {fe1 : Addr}
    {ode1 ane1 : Option Addr} {sle1 : Array (Option Value)} {oce1 kVe1 dce1 pme1 cde1 cte1 : Value}
    {nmJ1 q_J1 : Str} {N_J1 : Addr} {bsJ1 bmJ1 : List Value} {snJ1 : List Str} {subJ1 : List Value} {abJ1 : Bool} {colJ1 : Option Bool} {ddJ1 : Option Addr} {m0J1 m1J1 m2J1 m3J1 m5J1 : Option Value}
    {J2 : Addr}
    {fe2 : Addr}
    {ode2 ane2 : Option Addr} {sle2 : Array (Option Value)} {oce2 kVe2 dce2 pme2 cde2 cte2 : Value}
    {nmJ2 q_J2 : Str} {N_J2 : Addr} {bsJ2 bmJ2 : List Value} {snJ2 : List Str} {subJ2 : List Value} {abJ2 : Bool} {colJ2 : Option Bool} {ddJ2 : Option Addr} {m0J2 m1J2 m2J2 m3J2 m5J2 : Option Value}
    {J3 : Addr}
    {fe3 : Addr}
    {ode3 ane3 : Option Addr} {sle3 : Array (Option Value)} {oce3 kVe3 dce3 pme3 cde3 cte3 : Value}
    {nmJ3 q_J3 : Str} {N_J3 : Addr} {bsJ3 bmJ3 : List Value} {snJ3 : List Str} {subJ3 : List Value} {abJ3 : Bool} {colJ3 : Option Bool} {ddJ3 : Option Addr} {m0J3 m1J3 m2J3 m3J3 m5J3 : Option Value}
    {J4 : Addr}
    {fe4 : Addr}
    {ode4 ane4 : Option Addr} {sle4 : Array (Option Value)} {oce4 kVe4 dce4 pme4 cde4 cte4 : Value}
    {nmJ4 q_J4 : Str} {N_J4 : Addr} {bsJ4 bmJ4 : List Value} {snJ4 : List Str} {subJ4 : List Value} {abJ4 : Bool} {colJ4 : Option Bool} {ddJ4 : Option Addr} {m0J4 m1J4 m2J4 m3J4 m5J4 : Option Value}
    {J5 : Addr}
    {fe5 : Addr}
    {ode5 ane5 : Option Addr} {sle5 : Array (Option Value)} {oce5 kVe5 dce5 pme5 cde5 cte5 : Value}
    {nmJ5 q_J5 : Str} {N_J5 : Addr} {bsJ5 bmJ5 : List Value} {snJ5 : List Str} {subJ5 : List Value} {abJ5 : Bool} {colJ5 : Option Bool} {ddJ5 : Option Addr} {m0J5 m1J5 m2J5 m3J5 m5J5 : Option Value}
    {J6 : Addr}
    {fe6 : Addr}
    {ode6 ane6 : Option Addr} {sle6 : Array (Option Value)} {oce6 kVe6 dce6 pme6 cde6 cte6 : Value}
    {nmJ6 q_J6 : Str} {N_J6 : Addr} {bsJ6 bmJ6 : List Value} {snJ6 : List Str} {subJ6 : List Value} {abJ6 : Bool} {colJ6 : Option Bool} {ddJ6 : Option Addr} {m0J6 m1J6 m2J6 m3J6 m5J6 : Option Value}
    {J7 : Addr}
    {fe7 : Addr}
    {ode7 ane7 : Option Addr} {sle7 : Array (Option Value)} {oce7 kVe7 dce7 pme7 cde7 cte7 : Value}
    {nmJ7 q_J7 : Str} {N_J7 : Addr} {bsJ7 bmJ7 : List Value} {snJ7 : List Str} {subJ7 : List Value} {abJ7 : Bool} {colJ7 : Option Bool} {ddJ7 : Option Addr} {m0J7 m1J7 m2J7 m3J7 m5J7 : Option Value}
    {J8 : Addr}
    {fe8 : Addr}
    {ode8 ane8 : Option Addr} {sle8 : Array (Option Value)} {oce8 kVe8 dce8 pme8 cde8 cte8 : Value}
    {nmJ8 q_J8 : Str} {N_J8 : Addr} {bsJ8 bmJ8 : List Value} {snJ8 : List Str} {subJ8 : List Value} {abJ8 : Bool} {colJ8 : Option Bool} {ddJ8 : Option Addr} {m0J8 m1J8 m2J8 m3J8 m5J8 : Option Value}
    {J9 : Addr}
    {fe9 : Addr}
    {ode9 ane9 : Option Addr} {sle9 : Array (Option Value)} {oce9 kVe9 dce9 pme9 cde9 cte9 : Value}
    {nmJ9 q_J9 : Str} {N_J9 : Addr} {bsJ9 bmJ9 : List Value} {snJ9 : List Str} {subJ9 : List Value} {abJ9 : Bool} {colJ9 : Option Bool} {ddJ9 : Option Addr} {m0J9 m1J9 m2J9 m3J9 m5J9 : Option Value}
    {J10 : Addr}
    {fe10 : Addr}
    {ode10 ane10 : Option Addr} {sle10 : Array (Option Value)} {oce10 kVe10 dce10 pme10 cde10 cte10 : Value}
    {nmJ10 q_J10 : Str} {N_J10 : Addr} {bsJ10 bmJ10 : List Value} {snJ10 : List Str} {subJ10 : List Value} {abJ10 : Bool} {colJ10 : Option Bool} {ddJ10 : Option Addr} {m0J10 m1J10 m2J10 m3J10 m5J10 : Option Value}
    {J11 : Addr}
    {fe11 : Addr}
    {ode11 ane11 : Option Addr} {sle11 : Array (Option Value)} {oce11 kVe11 dce11 pme11 cde11 cte11 : Value}
    {nmJ11 q_J11 : Str} {N_J11 : Addr} {bsJ11 bmJ11 : List Value} {snJ11 : List Str} {subJ11 : List Value} {abJ11 : Bool} {colJ11 : Option Bool} {ddJ11 : Option Addr} {m0J11 m1J11 m2J11 m3J11 m5J11 : Option Value}
    {J12 : Addr}
    {fe12 : Addr}
    {ode12 ane12 : Option Addr} {sle12 : Array (Option Value)} {oce12 kVe12 dce12 pme12 cde12 cte12 : Value}
    {nmJ12 q_J12 : Str} {N_J12 : Addr} {bsJ12 bmJ12 : List Value} {snJ12 : List Str} {subJ12 : List Value} {abJ12 : Bool} {colJ12 : Option Bool} {ddJ12 : Option Addr} {m0J12 m1J12 m2J12 m3J12 m5J12 : Option Value}
    {J13 : Addr}
    {J14 : Addr}
    {fe14 : Addr}
    {ode14 ane14 : Option Addr} {sle14 : Array (Option Value)} {oce14 kVe14 dce14 pme14 cde14 cte14 : Value}
    {nmJ14 q_J14 : Str} {N_J14 : Addr} {bsJ14 bmJ14 : List Value} {snJ14 : List Str} {subJ14 : List Value} {abJ14 : Bool} {colJ14 : Option Bool} {ddJ14 : Option Addr} {m0J14 m1J14 m2J14 m3J14 m5J14 : Option Value}
    {J15 : Addr}
    {fe15 : Addr}
    {ode15 ane15 : Option Addr} {sle15 : Array (Option Value)} {oce15 kVe15 dce15 pme15 cde15 cte15 : Value}
    {nmJ15 q_J15 : Str} {N_J15 : Addr} {bsJ15 bmJ15 : List Value} {snJ15 : List Str} {subJ15 : List Value} {abJ15 : Bool} {colJ15 : Option Bool} {ddJ15 : Option Addr} {m0J15 m1J15 m2J15 m3J15 m5J15 : Option Value}
    {J16 : Addr}
    {fe16 : Addr}
    {ode16 ane16 : Option Addr} {sle16 : Array (Option Value)} {oce16 kVe16 dce16 pme16 cde16 cte16 : Value}
    {nmJ16 q_J16 : Str} {N_J16 : Addr} {bsJ16 bmJ16 : List Value} {snJ16 : List Str} {subJ16 : List Value} {abJ16 : Bool} {colJ16 : Option Bool} {ddJ16 : Option Addr} {m0J16 m1J16 m2J16 m3J16 m5J16 : Option Value}
    {J17 : Addr}
    {fe17 : Addr}
    {ode17 ane17 : Option Addr} {sle17 : Array (Option Value)} {oce17 kVe17 dce17 pme17 cde17 cte17 : Value}
    {nmJ17 q_J17 : Str} {N_J17 : Addr} {bsJ17 bmJ17 : List Value} {snJ17 : List Str} {subJ17 : List Value} {abJ17 : Bool} {colJ17 : Option Bool} {ddJ17 : Option Addr} {m0J17 m1J17 m2J17 m3J17 m5J17 : Option Value}
    {fL : Addr}
    {odL anL : Option Addr} {slL : Array (Option Value)} {ocL kVL dcL pmL cdL ctL : Value}
    (gRl : PySem.W.nsIn K mainGlobals "Rule" = some (some (.ref CRl)))
    (gRs : PySem.W.nsIn K mainGlobals "Rested" = some (some (.ref CRs)))
    (gF : PySem.W.nsIn K mainGlobals "Fixed" = some (some (.ref CF)))
    (gDn : PySem.W.nsIn K mainGlobals "Down" = some (some (.ref CD)))
    (gSz : PySem.W.nsIn K mainGlobals "Sized" = some (some (.ref CSz)))
    (gB : PySem.W.nsIn K mainGlobals "BadRule" = some (some (.ref CB)))
    (gX : PySem.W.nsIn K mainGlobals "FreeError" = some (some (.ref CX)))
    (aN : PySem.W.nsIn K mainGlobals "is_number" = some (some (.ref fN)))
    (lN : K.lookup fN = some ⟨ocN, odN, .func (PySem.W.fnOf "is_number" "is_number" (defArgs s_is_number) (defBody s_is_number) (defScope s_is_number) .none kVN dcN pmN anN cdN ctN), slN⟩)
    (cN : PySem.W.codeIn K cdN "is_number" = true)
    (kN : PySem.W.keepIn K (.ref fN) = true)
    (aRK : PySem.W.nsIn K mainGlobals "rank_of" = some (some (.ref fRK)))
    (lRK : K.lookup fRK = some ⟨ocRK, odRK, .func (PySem.W.fnOf "rank_of" "rank_of" (defArgs s_rank_of) (defBody s_rank_of) (defScope s_rank_of) .none kVRK dcRK pmRK anRK cdRK ctRK), slRK⟩)
    (cRK : PySem.W.codeIn K cdRK "rank_of" = true)
    (kRK : PySem.W.keepIn K (.ref fRK) = true)
    (aB : PySem.W.findIn K (.ref CB) "__init__" = some (some (.ref fB)))
    (lB : K.lookup fB = some ⟨ocB, odB, .func (PySem.W.fnOf "__init__" "BadRule.__init__" (defArgs s_badI) (defBody s_badI) (defScope s_badI) .none kVB dcB pmB anB cdB ctB), slB⟩)
    (cB : PySem.W.codeIn K cdB "BadRule.__init__" = true)
    (kB : PySem.W.keepIn K (.ref fB) = true)
    (aRs : PySem.W.findCls K (.ref CRs) (.type "type") "__init__" = some (.val (.ref fRs)))
    (lRs : K.lookup fRs = some ⟨ocRs, odRs, .func (PySem.W.fnOf "__init__" "Rested.__init__" (defArgs s_rested) (defBody s_rested) (defScope s_rested) .none kVRs dcRs pmRs anRs cdRs ctRs), slRs⟩)
    (cRs : PySem.W.codeIn K cdRs "Rested.__init__" = true)
    (kRs : PySem.W.keepIn K (.ref fRs) = true)
    (aSz : PySem.W.findCls K (.ref CSz) (.type "type") "__init__" = some (.val (.ref fSz)))
    (lSz : K.lookup fSz = some ⟨ocSz, odSz, .func (PySem.W.fnOf "__init__" "Sized.__init__" (defArgs s_sized) (defBody s_sized) (defScope s_sized) .none kVSz dcSz pmSz anSz cdSz ctSz), slSz⟩)
    (cSz : PySem.W.codeIn K cdSz "Sized.__init__" = true)
    (kSz : PySem.W.keepIn K (.ref fSz) = true)
    (aFx : PySem.W.findIn K (.ref CF) "__init__" = some (some (.ref fFx)))
    (lFx : K.lookup fFx = some ⟨ocFx, odFx, .func (PySem.W.fnOf "__init__" "Fixed.__init__" (defArgs s_fixed) (defBody s_fixed) (defScope s_fixed) (.ref TdFx) kVFx dcFx pmFx anFx cdFx ctFx), slFx⟩)
    (cFx : PySem.W.codeIn K cdFx "Fixed.__init__" = true)
    (kFx : PySem.W.keepIn K (.ref fFx) = true)
    (aDn : PySem.W.findIn K (.ref CD) "__init__" = some (some (.ref fDn)))
    (lDn : K.lookup fDn = some ⟨ocDn, odDn, .func (PySem.W.fnOf "__init__" "Down.__init__" (defArgs s_down) (defBody s_down) (defScope s_down) (.ref TdDn) kVDn dcDn pmDn anDn cdDn ctDn), slDn⟩)
    (cDn : PySem.W.codeIn K cdDn "Down.__init__" = true)
    (kDn : PySem.W.keepIn K (.ref fDn) = true)
    (ldFx : K.lookup TdFx = some ⟨ocdFx, oddFx, .seq ([.int 0 tdFx0, .int 1 tdFx1, .int 0 tdFx2] : List Value).toArray ndFx, sldFx⟩)
    (ldDn : K.lookup TdDn = some ⟨ocdDn, oddDn, .seq ([.int 0 tdDn0, .int 1 tdDn1] : List Value).toArray ndDn, sldDn⟩)
    (rdCRl : PySem.W.readsIn K CRl (.type "type") = true)
    (gaCRl : PySem.W.specialIn K (.ref CRl) "__getattribute__" = some (some (.builtin "type.__getattribute__")))
    (rdCRs : PySem.W.readsIn K CRs (.type "type") = true)
    (gaCRs : PySem.W.specialIn K (.ref CRs) "__getattribute__" = some (some (.builtin "type.__getattribute__")))
    (rdCSz : PySem.W.readsIn K CSz (.type "type") = true)
    (gaCSz : PySem.W.specialIn K (.ref CSz) "__getattribute__" = some (some (.builtin "type.__getattribute__")))
    (pgCF : PySem.W.plainGet K CF Str.empty = true)
    (hdCF : PySem.W.hasDictIn K CF = true)
    (poCF : PySem.W.plainOver K CF = true)
    (saCF : PySem.W.findIn K (.ref CF) "__setattr__" = some (some (.builtin "object.__setattr__")))
    (ntoCF : PySem.W.findIn K (.ref CF) "to" = some none)
    (nsizeCF : PySem.W.findIn K (.ref CF) "size" = some none)
    (nleaveCF : PySem.W.findIn K (.ref CF) "leave" = some none)
    (nrestCF : PySem.W.findIn K (.ref CF) "rest" = some none)
    (nmodulusCF : PySem.W.findIn K (.ref CF) "modulus" = some none)
    (nstartCF : PySem.W.findIn K (.ref CF) "start" = some none)
    (nrankCF : PySem.W.findIn K (.ref CF) "rank" = some none)
    (pgCD : PySem.W.plainGet K CD Str.empty = true)
    (hdCD : PySem.W.hasDictIn K CD = true)
    (poCD : PySem.W.plainOver K CD = true)
    (saCD : PySem.W.findIn K (.ref CD) "__setattr__" = some (some (.builtin "object.__setattr__")))
    (ntoCD : PySem.W.findIn K (.ref CD) "to" = some none)
    (nsizeCD : PySem.W.findIn K (.ref CD) "size" = some none)
    (nleaveCD : PySem.W.findIn K (.ref CD) "leave" = some none)
    (nrestCD : PySem.W.findIn K (.ref CD) "rest" = some none)
    (nmodulusCD : PySem.W.findIn K (.ref CD) "modulus" = some none)
    (nstartCD : PySem.W.findIn K (.ref CD) "start" = some none)
    (nrankCD : PySem.W.findIn K (.ref CD) "rank" = some none)
    (haCF : PySem.W.findIn K (.ref CF) "__class__" = some (some (.builtin "object.__class__")))
    (hn : PySem.W.specialIn K (.builtin "object.__class__") "__get__" = some (some (.builtin "getset_descriptor.__get__")))
    (htk : PySem.W.takesIn K (.builtin "object.__class__") = some true)
    (hmCF : PySem.W.mroIn K CF (.type "object") = some true)
    (haCD : PySem.W.findIn K (.ref CD) "__class__" = some (some (.builtin "object.__class__")))
    (hmCD : PySem.W.mroIn K CD (.type "object") = some true)
    (mkCF : PySem.W.makesIn K CF = true)
    (kpCF : PySem.W.keepIn K (.ref CF) = true)
    (iFFx : PySem.W.isFn K (.ref fFx) = true)
    (mkCD : PySem.W.makesIn K CD = true)
    (kpCD : PySem.W.keepIn K (.ref CD) = true)
    (iFDn : PySem.W.isFn K (.ref fDn) = true)
    (m_CRl_MOST : PySem.W.findCls K (.ref CRl) (.type "type") "MOST" = some (.val (.int 400 t_CRl_MOST)))
    (m_CRl_MOST_MODULUS : PySem.W.findCls K (.ref CRl) (.type "type") "MOST_MODULUS" = some (.val (.int 6 t_CRl_MOST_MODULUS)))
    (xBCB : K.lookup CB = some (excClassObj nmCB q_CB CB N_CB bsCB bmCB true snCB subCB abCB colCB ddCB m0CB m1CB m2CB m3CB m5CB "ValueError.__new__"))
    (rBCB : PySem.HandSPX.refsVE bmCB = true)
    (saCB : PySem.W.findIn K (.ref CB) "__setattr__" = some (some (.builtin "object.__setattr__")))
    (exCB : PySem.W.subIn K (.ref CB) (.type "BaseException") = some true)
    (tyCB : PySem.W.typeIn K (.ref CB) = some (.type "type"))
    (kpCB : PySem.W.keepIn K (.ref CB) = true)
    (npCB : PySem.W.findIn K (.ref CB) "part" = some none)
    (tfCB : PySem.W.typeIn K (.ref fB) = some (.type "function"))
    (gaCB : PySem.W.findIn K (.ref CB) "__getattribute__" = some (some (.builtin "BaseException.__getattribute__")))
    (ggCB : PySem.W.findIn K (.ref CB) "__getattr__" = some none)
    (hdCB : PySem.W.hasDictIn K CB = true)
    (haCB : PySem.W.findIn K (.ref CB) "__class__" = some (some (.builtin "object.__class__")))
    (hmCB : PySem.W.mroIn K CB (.type "object") = some true)
    (exCX : PySem.W.subIn K (.ref CX) (.type "BaseException") = some true)
    (hdCX : PySem.W.hasDictIn K CX = true)
    (tyCX : PySem.W.typeIn K (.ref CX) = some (.type "type"))
    (s_CB_CX : PySem.W.subIn K (.ref CB) (.ref CX) = some true)
    (kt_CB_CB : PySem.W.kitOne K (.ref CB) (.ref CB) = some true)
    (z_int : PySem.W.nsIn K mainGlobals "int" = some none)
    (z_len : PySem.W.nsIn K mainGlobals "len" = some none)
    (z_abs : PySem.W.nsIn K mainGlobals "abs" = some none)
    (z_list : PySem.W.nsIn K mainGlobals "list" = some none)
    (z_range : PySem.W.nsIn K mainGlobals "range" = some none)
    (z_isinstance : PySem.W.nsIn K mainGlobals "isinstance" = some none)
    (z_repr : PySem.W.nsIn K mainGlobals "repr" = some none)
    (z_bool : PySem.W.nsIn K mainGlobals "bool" = some none)
    (z_tuple : PySem.W.nsIn K mainGlobals "tuple" = some none)
    (z_str : PySem.W.nsIn K mainGlobals "str" = some none)
    (z_max : PySem.W.nsIn K mainGlobals "max" = some none)
    (z_min : PySem.W.nsIn K mainGlobals "min" = some none)
    (z_dict : PySem.W.nsIn K mainGlobals "dict" = some none)
    (z_set : PySem.W.nsIn K mainGlobals "set" = some none)
    (z_sorted : PySem.W.nsIn K mainGlobals "sorted" = some none)
    (z_sum : PySem.W.nsIn K mainGlobals "sum" = some none)
    (z_all : PySem.W.nsIn K mainGlobals "all" = some none)
    (z_any : PySem.W.nsIn K mainGlobals "any" = some none)
    (z_zip : PySem.W.nsIn K mainGlobals "zip" = some none)
    (z_enumerate : PySem.W.nsIn K mainGlobals "enumerate" = some none)
    (z_reversed : PySem.W.nsIn K mainGlobals "reversed" = some none)
    (aEF : PySem.W.findIn K (.ref CF) "__eq__" = some (some (.ref fEF)))
    (lEF : K.lookup fEF = some ⟨ocEF, odEF, .func (PySem.W.fnOf "__eq__" "Fixed.__eq__" (defArgs s_eqF) (defBody s_eqF) (defScope s_eqF) .none kVEF dcEF pmEF anEF cdEF ctEF), slEF⟩)
    (cEF : PySem.W.codeIn K cdEF "Fixed.__eq__" = true)
    (kEF : PySem.W.keepIn K (.ref fEF) = true)
    (iFEF : PySem.W.isFn K (.ref fEF) = true)
    (tyCF : PySem.W.typeIn K (.ref CF) = some (.type "type"))
    (kt_CF_CF : PySem.W.kitOne K (.ref CF) (.ref CF) = some true)
    (aPn : PySem.W.nsIn K mainGlobals "_law_pen" = some (some (.ref fPn)))
    (lPn : K.lookup fPn = some ⟨ocPn, odPn, .func (PySem.W.fnOf "_law_pen" "_law_pen" (defArgs s_pen) (defBody s_pen) (defScope s_pen) .none kVPn dcPn pmPn anPn cdPn ctPn), slPn⟩)
    (cPn : PySem.W.codeIn K cdPn "_law_pen" = true)
    (kPn : PySem.W.keepIn K (.ref fPn) = true)
    (aD : PySem.W.nsIn K mainGlobals "_law_draw" = some (some (.ref fD)))
    (lD : K.lookup fD = some ⟨ocD, odD, .func (PySem.W.fnOf "_law_draw" "_law_draw" (defArgs s_draw) (defBody s_draw) (defScope s_draw) .none kVD dcD pmD anD cdD ctD), slD⟩)
    (cD : PySem.W.codeIn K cdD "_law_draw" = true)
    (kD : PySem.W.keepIn K (.ref fD) = true)
    (aPk : PySem.W.nsIn K mainGlobals "_law_pick" = some (some (.ref fPk)))
    (lPk : K.lookup fPk = some ⟨ocPk, odPk, .func (PySem.W.fnOf "_law_pick" "_law_pick" (defArgs s_pick) (defBody s_pick) (defScope s_pick) .none kVPk dcPk pmPk anPk cdPk ctPk), slPk⟩)
    (cPk : PySem.W.codeIn K cdPk "_law_pick" = true)
    (kPk : PySem.W.keepIn K (.ref fPk) = true)
    (aVa : PySem.W.nsIn K mainGlobals "_law_value" = some (some (.ref fVa)))
    (lVa : K.lookup fVa = some ⟨ocVa, odVa, .func (PySem.W.fnOf "_law_value" "_law_value" (defArgs s_value) (defBody s_value) (defScope s_value) .none kVVa dcVa pmVa anVa cdVa ctVa), slVa⟩)
    (cVa : PySem.W.codeIn K cdVa "_law_value" = true)
    (kVa : PySem.W.keepIn K (.ref fVa) = true)
    (aOd : PySem.W.nsIn K mainGlobals "_law_ordered" = some (some (.ref fOd)))
    (lOd : K.lookup fOd = some ⟨ocOd, odOd, .func (PySem.W.fnOf "_law_ordered" "_law_ordered" (defArgs s_ordered) (defBody s_ordered) (defScope s_ordered) .none kVOd dcOd pmOd anOd cdOd ctOd), slOd⟩)
    (cOd : PySem.W.codeIn K cdOd "_law_ordered" = true)
    (kOd : PySem.W.keepIn K (.ref fOd) = true)
    (aNa : PySem.W.nsIn K mainGlobals "_law_named" = some (some (.ref fNa)))
    (lNa : K.lookup fNa = some ⟨ocNa, odNa, .func (PySem.W.fnOf "_law_named" "_law_named" (defArgs s_named) (defBody s_named) (defScope s_named) .none kVNa dcNa pmNa anNa cdNa ctNa), slNa⟩)
    (cNa : PySem.W.codeIn K cdNa "_law_named" = true)
    (kNa : PySem.W.keepIn K (.ref fNa) = true)
    (aFi : PySem.W.nsIn K mainGlobals "_law_fields" = some (some (.ref fFi)))
    (lFi : K.lookup fFi = some ⟨ocFi, odFi, .func (PySem.W.fnOf "_law_fields" "_law_fields" (defArgs s_fields) (defBody s_fields) (defScope s_fields) .none kVFi dcFi pmFi anFi cdFi ctFi), slFi⟩)
    (cFi : PySem.W.codeIn K cdFi "_law_fields" = true)
    (kFi : PySem.W.keepIn K (.ref fFi) = true)
    (aCl : PySem.W.nsIn K mainGlobals "_law_classes" = some (some (.ref fCl)))
    (lCl : K.lookup fCl = some ⟨ocCl, odCl, .func (PySem.W.fnOf "_law_classes" "_law_classes" (defArgs s_classes) (defBody s_classes) (defScope s_classes) .none kVCl dcCl pmCl anCl cdCl ctCl), slCl⟩)
    (cCl : PySem.W.codeIn K cdCl "_law_classes" = true)
    (kCl : PySem.W.keepIn K (.ref fCl) = true)
    (aSa : PySem.W.nsIn K mainGlobals "_law_is_same" = some (some (.ref fSa)))
    (lSa : K.lookup fSa = some ⟨ocSa, odSa, .func (PySem.W.fnOf "_law_is_same" "_law_is_same" (defArgs s_same) (defBody s_same) (defScope s_same) .none kVSa dcSa pmSa anSa cdSa ctSa), slSa⟩)
    (cSa : PySem.W.codeIn K cdSa "_law_is_same" = true)
    (kSa : PySem.W.keepIn K (.ref fSa) = true)
    (cb0 : clsB K CB [CX, CB, J1, J2, J3, J4, J5, J6, J7, J8, J9, J10, J11, J12, J13, J14, J15, J16, J17] [true, true, false, false, false, false, false, false, false, false, false, false, false, false, false, false, false, false, false] = true)
    (g1 : PySem.W.nsIn K mainGlobals "BadBook" = some (some (.ref J1)))
    (cb1 : clsB K J1 [CX, CB, J1, J2, J3, J4, J5, J6, J7, J8, J9, J10, J11, J12, J13, J14, J15, J16, J17] [true, false, true, false, false, false, false, false, false, false, false, false, false, false, false, false, false, false, false] = true)
    (ae1 : PySem.W.findIn K (.ref J1) "__init__" = some (some (.ref fe1)))
    (le1 : K.lookup fe1 = some ⟨oce1, ode1, .func (PySem.W.fnOf "__init__" "BadBook.__init__" (defArgs s_eBadBook) (defBody s_eBadBook) (defScope s_eBadBook) .none kVe1 dce1 pme1 ane1 cde1 cte1), sle1⟩)
    (ce1 : PySem.W.codeIn K cde1 "BadBook.__init__" = true)
    (ke1 : PySem.W.keepIn K (.ref fe1) = true)
    (xBJ1 : K.lookup J1 = some (excClassObj nmJ1 q_J1 J1 N_J1 bsJ1 bmJ1 true snJ1 subJ1 abJ1 colJ1 ddJ1 m0J1 m1J1 m2J1 m3J1 m5J1 "ValueError.__new__"))
    (rBJ1 : PySem.HandSPX.refsVE bmJ1 = true)
    (saJ1 : PySem.W.findIn K (.ref J1) "__setattr__" = some (some (.builtin "object.__setattr__")))
    (exJ1 : PySem.W.subIn K (.ref J1) (.type "BaseException") = some true)
    (tyJ1 : PySem.W.typeIn K (.ref J1) = some (.type "type"))
    (kpJ1 : PySem.W.keepIn K (.ref J1) = true)
    (npJ1 : PySem.W.findIn K (.ref J1) "at" = some none)
    (tfJ1 : PySem.W.typeIn K (.ref fe1) = some (.type "function"))
    (g2 : PySem.W.nsIn K mainGlobals "BadSize" = some (some (.ref J2)))
    (cb2 : clsB K J2 [CX, CB, J1, J2, J3, J4, J5, J6, J7, J8, J9, J10, J11, J12, J13, J14, J15, J16, J17] [true, false, false, true, false, false, false, false, false, false, false, false, false, false, false, false, false, false, false] = true)
    (ae2 : PySem.W.findIn K (.ref J2) "__init__" = some (some (.ref fe2)))
    (le2 : K.lookup fe2 = some ⟨oce2, ode2, .func (PySem.W.fnOf "__init__" "BadSize.__init__" (defArgs s_eBadSize) (defBody s_eBadSize) (defScope s_eBadSize) .none kVe2 dce2 pme2 ane2 cde2 cte2), sle2⟩)
    (ce2 : PySem.W.codeIn K cde2 "BadSize.__init__" = true)
    (ke2 : PySem.W.keepIn K (.ref fe2) = true)
    (xBJ2 : K.lookup J2 = some (excClassObj nmJ2 q_J2 J2 N_J2 bsJ2 bmJ2 true snJ2 subJ2 abJ2 colJ2 ddJ2 m0J2 m1J2 m2J2 m3J2 m5J2 "ValueError.__new__"))
    (rBJ2 : PySem.HandSPX.refsVE bmJ2 = true)
    (saJ2 : PySem.W.findIn K (.ref J2) "__setattr__" = some (some (.builtin "object.__setattr__")))
    (exJ2 : PySem.W.subIn K (.ref J2) (.type "BaseException") = some true)
    (tyJ2 : PySem.W.typeIn K (.ref J2) = some (.type "type"))
    (kpJ2 : PySem.W.keepIn K (.ref J2) = true)
    (npJ2 : PySem.W.findIn K (.ref J2) "value" = some none)
    (tfJ2 : PySem.W.typeIn K (.ref fe2) = some (.type "function"))
    (g3 : PySem.W.nsIn K mainGlobals "BadTable" = some (some (.ref J3)))
    (cb3 : clsB K J3 [CX, CB, J1, J2, J3, J4, J5, J6, J7, J8, J9, J10, J11, J12, J13, J14, J15, J16, J17] [true, false, false, false, true, false, false, false, false, false, false, false, false, false, false, false, false, false, false] = true)
    (ae3 : PySem.W.findIn K (.ref J3) "__init__" = some (some (.ref fe3)))
    (le3 : K.lookup fe3 = some ⟨oce3, ode3, .func (PySem.W.fnOf "__init__" "BadTable.__init__" (defArgs s_eBadTable) (defBody s_eBadTable) (defScope s_eBadTable) .none kVe3 dce3 pme3 ane3 cde3 cte3), sle3⟩)
    (ce3 : PySem.W.codeIn K cde3 "BadTable.__init__" = true)
    (ke3 : PySem.W.keepIn K (.ref fe3) = true)
    (xBJ3 : K.lookup J3 = some (excClassObj nmJ3 q_J3 J3 N_J3 bsJ3 bmJ3 true snJ3 subJ3 abJ3 colJ3 ddJ3 m0J3 m1J3 m2J3 m3J3 m5J3 "ValueError.__new__"))
    (rBJ3 : PySem.HandSPX.refsVE bmJ3 = true)
    (saJ3 : PySem.W.findIn K (.ref J3) "__setattr__" = some (some (.builtin "object.__setattr__")))
    (exJ3 : PySem.W.subIn K (.ref J3) (.type "BaseException") = some true)
    (tyJ3 : PySem.W.typeIn K (.ref J3) = some (.type "type"))
    (kpJ3 : PySem.W.keepIn K (.ref J3) = true)
    (npJ3 : PySem.W.findIn K (.ref J3) "part" = some none)
    (tfJ3 : PySem.W.typeIn K (.ref fe3) = some (.type "function"))
    (g4 : PySem.W.nsIn K mainGlobals "BadSizes" = some (some (.ref J4)))
    (cb4 : clsB K J4 [CX, CB, J1, J2, J3, J4, J5, J6, J7, J8, J9, J10, J11, J12, J13, J14, J15, J16, J17] [true, false, false, false, false, true, false, false, false, false, false, false, false, false, false, false, false, false, false] = true)
    (ae4 : PySem.W.findIn K (.ref J4) "__init__" = some (some (.ref fe4)))
    (le4 : K.lookup fe4 = some ⟨oce4, ode4, .func (PySem.W.fnOf "__init__" "BadSizes.__init__" (defArgs s_eBadSizes) (defBody s_eBadSizes) (defScope s_eBadSizes) .none kVe4 dce4 pme4 ane4 cde4 cte4), sle4⟩)
    (ce4 : PySem.W.codeIn K cde4 "BadSizes.__init__" = true)
    (ke4 : PySem.W.keepIn K (.ref fe4) = true)
    (xBJ4 : K.lookup J4 = some (excClassObj nmJ4 q_J4 J4 N_J4 bsJ4 bmJ4 true snJ4 subJ4 abJ4 colJ4 ddJ4 m0J4 m1J4 m2J4 m3J4 m5J4 "ValueError.__new__"))
    (rBJ4 : PySem.HandSPX.refsVE bmJ4 = true)
    (saJ4 : PySem.W.findIn K (.ref J4) "__setattr__" = some (some (.builtin "object.__setattr__")))
    (exJ4 : PySem.W.subIn K (.ref J4) (.type "BaseException") = some true)
    (tyJ4 : PySem.W.typeIn K (.ref J4) = some (.type "type"))
    (kpJ4 : PySem.W.keepIn K (.ref J4) = true)
    (npJ4 : PySem.W.findIn K (.ref J4) "part" = some none)
    (tfJ4 : PySem.W.typeIn K (.ref fe4) = some (.type "function"))
    (g5 : PySem.W.nsIn K mainGlobals "BadNumber" = some (some (.ref J5)))
    (cb5 : clsB K J5 [CX, CB, J1, J2, J3, J4, J5, J6, J7, J8, J9, J10, J11, J12, J13, J14, J15, J16, J17] [true, false, false, false, false, false, true, false, false, false, false, false, false, false, false, false, false, false, false] = true)
    (ae5 : PySem.W.findIn K (.ref J5) "__init__" = some (some (.ref fe5)))
    (le5 : K.lookup fe5 = some ⟨oce5, ode5, .func (PySem.W.fnOf "__init__" "BadNumber.__init__" (defArgs s_eBadNumber) (defBody s_eBadNumber) (defScope s_eBadNumber) .none kVe5 dce5 pme5 ane5 cde5 cte5), sle5⟩)
    (ce5 : PySem.W.codeIn K cde5 "BadNumber.__init__" = true)
    (ke5 : PySem.W.keepIn K (.ref fe5) = true)
    (xBJ5 : K.lookup J5 = some (excClassObj nmJ5 q_J5 J5 N_J5 bsJ5 bmJ5 true snJ5 subJ5 abJ5 colJ5 ddJ5 m0J5 m1J5 m2J5 m3J5 m5J5 "ValueError.__new__"))
    (rBJ5 : PySem.HandSPX.refsVE bmJ5 = true)
    (saJ5 : PySem.W.findIn K (.ref J5) "__setattr__" = some (some (.builtin "object.__setattr__")))
    (exJ5 : PySem.W.subIn K (.ref J5) (.type "BaseException") = some true)
    (tyJ5 : PySem.W.typeIn K (.ref J5) = some (.type "type"))
    (kpJ5 : PySem.W.keepIn K (.ref J5) = true)
    (npJ5 : PySem.W.findIn K (.ref J5) "value" = some none)
    (tfJ5 : PySem.W.typeIn K (.ref fe5) = some (.type "function"))
    (g6 : PySem.W.nsIn K mainGlobals "NoTake" = some (some (.ref J6)))
    (cb6 : clsB K J6 [CX, CB, J1, J2, J3, J4, J5, J6, J7, J8, J9, J10, J11, J12, J13, J14, J15, J16, J17] [true, false, false, false, false, false, false, true, false, false, false, false, false, false, false, false, false, false, false] = true)
    (ae6 : PySem.W.findIn K (.ref J6) "__init__" = some (some (.ref fe6)))
    (le6 : K.lookup fe6 = some ⟨oce6, ode6, .func (PySem.W.fnOf "__init__" "NoTake.__init__" (defArgs s_eNoTake) (defBody s_eNoTake) (defScope s_eNoTake) .none kVe6 dce6 pme6 ane6 cde6 cte6), sle6⟩)
    (ce6 : PySem.W.codeIn K cde6 "NoTake.__init__" = true)
    (ke6 : PySem.W.keepIn K (.ref fe6) = true)
    (xBJ6 : K.lookup J6 = some (excClassObj nmJ6 q_J6 J6 N_J6 bsJ6 bmJ6 true snJ6 subJ6 abJ6 colJ6 ddJ6 m0J6 m1J6 m2J6 m3J6 m5J6 "ValueError.__new__"))
    (rBJ6 : PySem.HandSPX.refsVE bmJ6 = true)
    (saJ6 : PySem.W.findIn K (.ref J6) "__setattr__" = some (some (.builtin "object.__setattr__")))
    (exJ6 : PySem.W.subIn K (.ref J6) (.type "BaseException") = some true)
    (tyJ6 : PySem.W.typeIn K (.ref J6) = some (.type "type"))
    (kpJ6 : PySem.W.keepIn K (.ref J6) = true)
    (npJ6 : PySem.W.findIn K (.ref J6) "number" = some none)
    (tfJ6 : PySem.W.typeIn K (.ref fe6) = some (.type "function"))
    (g7 : PySem.W.nsIn K mainGlobals "NoPile" = some (some (.ref J7)))
    (cb7 : clsB K J7 [CX, CB, J1, J2, J3, J4, J5, J6, J7, J8, J9, J10, J11, J12, J13, J14, J15, J16, J17] [true, false, false, false, false, false, false, false, true, false, false, false, false, false, false, false, false, false, false] = true)
    (ae7 : PySem.W.findIn K (.ref J7) "__init__" = some (some (.ref fe7)))
    (le7 : K.lookup fe7 = some ⟨oce7, ode7, .func (PySem.W.fnOf "__init__" "NoPile.__init__" (defArgs s_eNoPile) (defBody s_eNoPile) (defScope s_eNoPile) .none kVe7 dce7 pme7 ane7 cde7 cte7), sle7⟩)
    (ce7 : PySem.W.codeIn K cde7 "NoPile.__init__" = true)
    (ke7 : PySem.W.keepIn K (.ref fe7) = true)
    (xBJ7 : K.lookup J7 = some (excClassObj nmJ7 q_J7 J7 N_J7 bsJ7 bmJ7 true snJ7 subJ7 abJ7 colJ7 ddJ7 m0J7 m1J7 m2J7 m3J7 m5J7 "ValueError.__new__"))
    (rBJ7 : PySem.HandSPX.refsVE bmJ7 = true)
    (saJ7 : PySem.W.findIn K (.ref J7) "__setattr__" = some (some (.builtin "object.__setattr__")))
    (exJ7 : PySem.W.subIn K (.ref J7) (.type "BaseException") = some true)
    (tyJ7 : PySem.W.typeIn K (.ref J7) = some (.type "type"))
    (kpJ7 : PySem.W.keepIn K (.ref J7) = true)
    (npJ7 : PySem.W.findIn K (.ref J7) "index" = some none)
    (tfJ7 : PySem.W.typeIn K (.ref fe7) = some (.type "function"))
    (g8 : PySem.W.nsIn K mainGlobals "NotFree" = some (some (.ref J8)))
    (cb8 : clsB K J8 [CX, CB, J1, J2, J3, J4, J5, J6, J7, J8, J9, J10, J11, J12, J13, J14, J15, J16, J17] [true, false, false, false, false, false, false, false, false, true, false, false, false, false, false, false, false, false, false] = true)
    (ae8 : PySem.W.findIn K (.ref J8) "__init__" = some (some (.ref fe8)))
    (le8 : K.lookup fe8 = some ⟨oce8, ode8, .func (PySem.W.fnOf "__init__" "NotFree.__init__" (defArgs s_eNotFree) (defBody s_eNotFree) (defScope s_eNotFree) .none kVe8 dce8 pme8 ane8 cde8 cte8), sle8⟩)
    (ce8 : PySem.W.codeIn K cde8 "NotFree.__init__" = true)
    (ke8 : PySem.W.keepIn K (.ref fe8) = true)
    (xBJ8 : K.lookup J8 = some (excClassObj nmJ8 q_J8 J8 N_J8 bsJ8 bmJ8 true snJ8 subJ8 abJ8 colJ8 ddJ8 m0J8 m1J8 m2J8 m3J8 m5J8 "ValueError.__new__"))
    (rBJ8 : PySem.HandSPX.refsVE bmJ8 = true)
    (saJ8 : PySem.W.findIn K (.ref J8) "__setattr__" = some (some (.builtin "object.__setattr__")))
    (exJ8 : PySem.W.subIn K (.ref J8) (.type "BaseException") = some true)
    (tyJ8 : PySem.W.typeIn K (.ref J8) = some (.type "type"))
    (kpJ8 : PySem.W.keepIn K (.ref J8) = true)
    (npJ8 : PySem.W.findIn K (.ref J8) "rule" = some none)
    (tfJ8 : PySem.W.typeIn K (.ref fe8) = some (.type "function"))
    (g9 : PySem.W.nsIn K mainGlobals "Meets" = some (some (.ref J9)))
    (cb9 : clsB K J9 [CX, CB, J1, J2, J3, J4, J5, J6, J7, J8, J9, J10, J11, J12, J13, J14, J15, J16, J17] [true, false, false, false, false, false, false, false, false, false, true, false, false, false, false, false, false, false, false] = true)
    (ae9 : PySem.W.findIn K (.ref J9) "__init__" = some (some (.ref fe9)))
    (le9 : K.lookup fe9 = some ⟨oce9, ode9, .func (PySem.W.fnOf "__init__" "Meets.__init__" (defArgs s_eMeets) (defBody s_eMeets) (defScope s_eMeets) .none kVe9 dce9 pme9 ane9 cde9 cte9), sle9⟩)
    (ce9 : PySem.W.codeIn K cde9 "Meets.__init__" = true)
    (ke9 : PySem.W.keepIn K (.ref fe9) = true)
    (xBJ9 : K.lookup J9 = some (excClassObj nmJ9 q_J9 J9 N_J9 bsJ9 bmJ9 true snJ9 subJ9 abJ9 colJ9 ddJ9 m0J9 m1J9 m2J9 m3J9 m5J9 "ValueError.__new__"))
    (rBJ9 : PySem.HandSPX.refsVE bmJ9 = true)
    (saJ9 : PySem.W.findIn K (.ref J9) "__setattr__" = some (some (.builtin "object.__setattr__")))
    (exJ9 : PySem.W.subIn K (.ref J9) (.type "BaseException") = some true)
    (tyJ9 : PySem.W.typeIn K (.ref J9) = some (.type "type"))
    (kpJ9 : PySem.W.keepIn K (.ref J9) = true)
    (npJ9 : PySem.W.findIn K (.ref J9) "heap" = some none)
    (tfJ9 : PySem.W.typeIn K (.ref fe9) = some (.type "function"))
    (nqJ9 : PySem.W.findIn K (.ref J9) "left" = some none)
    (g10 : PySem.W.nsIn K mainGlobals "Needed" = some (some (.ref J10)))
    (cb10 : clsB K J10 [CX, CB, J1, J2, J3, J4, J5, J6, J7, J8, J9, J10, J11, J12, J13, J14, J15, J16, J17] [true, false, false, false, false, false, false, false, false, false, false, true, false, false, false, false, false, false, false] = true)
    (ae10 : PySem.W.findIn K (.ref J10) "__init__" = some (some (.ref fe10)))
    (le10 : K.lookup fe10 = some ⟨oce10, ode10, .func (PySem.W.fnOf "__init__" "Needed.__init__" (defArgs s_eNeeded) (defBody s_eNeeded) (defScope s_eNeeded) .none kVe10 dce10 pme10 ane10 cde10 cte10), sle10⟩)
    (ce10 : PySem.W.codeIn K cde10 "Needed.__init__" = true)
    (ke10 : PySem.W.keepIn K (.ref fe10) = true)
    (xBJ10 : K.lookup J10 = some (excClassObj nmJ10 q_J10 J10 N_J10 bsJ10 bmJ10 true snJ10 subJ10 abJ10 colJ10 ddJ10 m0J10 m1J10 m2J10 m3J10 m5J10 "ValueError.__new__"))
    (rBJ10 : PySem.HandSPX.refsVE bmJ10 = true)
    (saJ10 : PySem.W.findIn K (.ref J10) "__setattr__" = some (some (.builtin "object.__setattr__")))
    (exJ10 : PySem.W.subIn K (.ref J10) (.type "BaseException") = some true)
    (tyJ10 : PySem.W.typeIn K (.ref J10) = some (.type "type"))
    (kpJ10 : PySem.W.keepIn K (.ref J10) = true)
    (npJ10 : PySem.W.findIn K (.ref J10) "rule" = some none)
    (tfJ10 : PySem.W.typeIn K (.ref fe10) = some (.type "function"))
    (g11 : PySem.W.nsIn K mainGlobals "Lacks" = some (some (.ref J11)))
    (cb11 : clsB K J11 [CX, CB, J1, J2, J3, J4, J5, J6, J7, J8, J9, J10, J11, J12, J13, J14, J15, J16, J17] [true, false, false, false, false, false, false, false, false, false, false, false, true, false, false, false, false, false, false] = true)
    (ae11 : PySem.W.findIn K (.ref J11) "__init__" = some (some (.ref fe11)))
    (le11 : K.lookup fe11 = some ⟨oce11, ode11, .func (PySem.W.fnOf "__init__" "Lacks.__init__" (defArgs s_eLacks) (defBody s_eLacks) (defScope s_eLacks) .none kVe11 dce11 pme11 ane11 cde11 cte11), sle11⟩)
    (ce11 : PySem.W.codeIn K cde11 "Lacks.__init__" = true)
    (ke11 : PySem.W.keepIn K (.ref fe11) = true)
    (xBJ11 : K.lookup J11 = some (excClassObj nmJ11 q_J11 J11 N_J11 bsJ11 bmJ11 true snJ11 subJ11 abJ11 colJ11 ddJ11 m0J11 m1J11 m2J11 m3J11 m5J11 "ValueError.__new__"))
    (rBJ11 : PySem.HandSPX.refsVE bmJ11 = true)
    (saJ11 : PySem.W.findIn K (.ref J11) "__setattr__" = some (some (.builtin "object.__setattr__")))
    (exJ11 : PySem.W.subIn K (.ref J11) (.type "BaseException") = some true)
    (tyJ11 : PySem.W.typeIn K (.ref J11) = some (.type "type"))
    (kpJ11 : PySem.W.keepIn K (.ref J11) = true)
    (npJ11 : PySem.W.findIn K (.ref J11) "heap" = some none)
    (tfJ11 : PySem.W.typeIn K (.ref fe11) = some (.type "function"))
    (nqJ11 : PySem.W.findIn K (.ref J11) "worth" = some none)
    (g12 : PySem.W.nsIn K mainGlobals "NotIn" = some (some (.ref J12)))
    (cb12 : clsB K J12 [CX, CB, J1, J2, J3, J4, J5, J6, J7, J8, J9, J10, J11, J12, J13, J14, J15, J16, J17] [true, false, false, false, false, false, false, false, false, false, false, false, false, true, false, false, false, false, false] = true)
    (ae12 : PySem.W.findIn K (.ref J12) "__init__" = some (some (.ref fe12)))
    (le12 : K.lookup fe12 = some ⟨oce12, ode12, .func (PySem.W.fnOf "__init__" "NotIn.__init__" (defArgs s_eNotIn) (defBody s_eNotIn) (defScope s_eNotIn) .none kVe12 dce12 pme12 ane12 cde12 cte12), sle12⟩)
    (ce12 : PySem.W.codeIn K cde12 "NotIn.__init__" = true)
    (ke12 : PySem.W.keepIn K (.ref fe12) = true)
    (xBJ12 : K.lookup J12 = some (excClassObj nmJ12 q_J12 J12 N_J12 bsJ12 bmJ12 true snJ12 subJ12 abJ12 colJ12 ddJ12 m0J12 m1J12 m2J12 m3J12 m5J12 "ValueError.__new__"))
    (rBJ12 : PySem.HandSPX.refsVE bmJ12 = true)
    (saJ12 : PySem.W.findIn K (.ref J12) "__setattr__" = some (some (.builtin "object.__setattr__")))
    (exJ12 : PySem.W.subIn K (.ref J12) (.type "BaseException") = some true)
    (tyJ12 : PySem.W.typeIn K (.ref J12) = some (.type "type"))
    (kpJ12 : PySem.W.keepIn K (.ref J12) = true)
    (npJ12 : PySem.W.findIn K (.ref J12) "rule" = some none)
    (tfJ12 : PySem.W.typeIn K (.ref fe12) = some (.type "function"))
    (g13 : PySem.W.nsIn K mainGlobals "Nothing" = some (some (.ref J13)))
    (cb13 : clsB K J13 [CX, CB, J1, J2, J3, J4, J5, J6, J7, J8, J9, J10, J11, J12, J13, J14, J15, J16, J17] [true, false, false, false, false, false, false, false, false, false, false, false, false, false, true, false, false, false, false] = true)
    (nx13 : PySem.W.excIn K J13 bmVE "ValueError.__new__" = true)
    (kpJ13 : PySem.W.keepIn K (.ref J13) = true)
    (g14 : PySem.W.nsIn K mainGlobals "BadLimit" = some (some (.ref J14)))
    (cb14 : clsB K J14 [CX, CB, J1, J2, J3, J4, J5, J6, J7, J8, J9, J10, J11, J12, J13, J14, J15, J16, J17] [true, false, false, false, false, false, false, false, false, false, false, false, false, false, false, true, false, false, false] = true)
    (ae14 : PySem.W.findIn K (.ref J14) "__init__" = some (some (.ref fe14)))
    (le14 : K.lookup fe14 = some ⟨oce14, ode14, .func (PySem.W.fnOf "__init__" "BadLimit.__init__" (defArgs s_eBadLimit) (defBody s_eBadLimit) (defScope s_eBadLimit) .none kVe14 dce14 pme14 ane14 cde14 cte14), sle14⟩)
    (ce14 : PySem.W.codeIn K cde14 "BadLimit.__init__" = true)
    (ke14 : PySem.W.keepIn K (.ref fe14) = true)
    (xBJ14 : K.lookup J14 = some (excClassObj nmJ14 q_J14 J14 N_J14 bsJ14 bmJ14 true snJ14 subJ14 abJ14 colJ14 ddJ14 m0J14 m1J14 m2J14 m3J14 m5J14 "ValueError.__new__"))
    (rBJ14 : PySem.HandSPX.refsVE bmJ14 = true)
    (saJ14 : PySem.W.findIn K (.ref J14) "__setattr__" = some (some (.builtin "object.__setattr__")))
    (exJ14 : PySem.W.subIn K (.ref J14) (.type "BaseException") = some true)
    (tyJ14 : PySem.W.typeIn K (.ref J14) = some (.type "type"))
    (kpJ14 : PySem.W.keepIn K (.ref J14) = true)
    (npJ14 : PySem.W.findIn K (.ref J14) "value" = some none)
    (tfJ14 : PySem.W.typeIn K (.ref fe14) = some (.type "function"))
    (g15 : PySem.W.nsIn K mainGlobals "TooMany" = some (some (.ref J15)))
    (cb15 : clsB K J15 [CX, CB, J1, J2, J3, J4, J5, J6, J7, J8, J9, J10, J11, J12, J13, J14, J15, J16, J17] [true, false, false, false, false, false, false, false, false, false, false, false, false, false, false, false, true, false, false] = true)
    (ae15 : PySem.W.findIn K (.ref J15) "__init__" = some (some (.ref fe15)))
    (le15 : K.lookup fe15 = some ⟨oce15, ode15, .func (PySem.W.fnOf "__init__" "TooMany.__init__" (defArgs s_eTooMany) (defBody s_eTooMany) (defScope s_eTooMany) .none kVe15 dce15 pme15 ane15 cde15 cte15), sle15⟩)
    (ce15 : PySem.W.codeIn K cde15 "TooMany.__init__" = true)
    (ke15 : PySem.W.keepIn K (.ref fe15) = true)
    (xBJ15 : K.lookup J15 = some (excClassObj nmJ15 q_J15 J15 N_J15 bsJ15 bmJ15 true snJ15 subJ15 abJ15 colJ15 ddJ15 m0J15 m1J15 m2J15 m3J15 m5J15 "ValueError.__new__"))
    (rBJ15 : PySem.HandSPX.refsVE bmJ15 = true)
    (saJ15 : PySem.W.findIn K (.ref J15) "__setattr__" = some (some (.builtin "object.__setattr__")))
    (exJ15 : PySem.W.subIn K (.ref J15) (.type "BaseException") = some true)
    (tyJ15 : PySem.W.typeIn K (.ref J15) = some (.type "type"))
    (kpJ15 : PySem.W.keepIn K (.ref J15) = true)
    (npJ15 : PySem.W.findIn K (.ref J15) "what" = some none)
    (tfJ15 : PySem.W.typeIn K (.ref fe15) = some (.type "function"))
    (nqJ15 : PySem.W.findIn K (.ref J15) "most" = some none)
    (g16 : PySem.W.nsIn K mainGlobals "BadText" = some (some (.ref J16)))
    (cb16 : clsB K J16 [CX, CB, J1, J2, J3, J4, J5, J6, J7, J8, J9, J10, J11, J12, J13, J14, J15, J16, J17] [true, false, false, false, false, false, false, false, false, false, false, false, false, false, false, false, false, true, false] = true)
    (ae16 : PySem.W.findIn K (.ref J16) "__init__" = some (some (.ref fe16)))
    (le16 : K.lookup fe16 = some ⟨oce16, ode16, .func (PySem.W.fnOf "__init__" "BadText.__init__" (defArgs s_eBadText) (defBody s_eBadText) (defScope s_eBadText) .none kVe16 dce16 pme16 ane16 cde16 cte16), sle16⟩)
    (ce16 : PySem.W.codeIn K cde16 "BadText.__init__" = true)
    (ke16 : PySem.W.keepIn K (.ref fe16) = true)
    (xBJ16 : K.lookup J16 = some (excClassObj nmJ16 q_J16 J16 N_J16 bsJ16 bmJ16 true snJ16 subJ16 abJ16 colJ16 ddJ16 m0J16 m1J16 m2J16 m3J16 m5J16 "ValueError.__new__"))
    (rBJ16 : PySem.HandSPX.refsVE bmJ16 = true)
    (saJ16 : PySem.W.findIn K (.ref J16) "__setattr__" = some (some (.builtin "object.__setattr__")))
    (exJ16 : PySem.W.subIn K (.ref J16) (.type "BaseException") = some true)
    (tyJ16 : PySem.W.typeIn K (.ref J16) = some (.type "type"))
    (kpJ16 : PySem.W.keepIn K (.ref J16) = true)
    (npJ16 : PySem.W.findIn K (.ref J16) "line" = some none)
    (tfJ16 : PySem.W.typeIn K (.ref fe16) = some (.type "function"))
    (nqJ16 : PySem.W.findIn K (.ref J16) "word" = some none)
    (g17 : PySem.W.nsIn K mainGlobals "NoLine" = some (some (.ref J17)))
    (cb17 : clsB K J17 [CX, CB, J1, J2, J3, J4, J5, J6, J7, J8, J9, J10, J11, J12, J13, J14, J15, J16, J17] [true, false, false, false, false, false, false, false, false, false, false, false, false, false, false, false, false, false, true] = true)
    (ae17 : PySem.W.findIn K (.ref J17) "__init__" = some (some (.ref fe17)))
    (le17 : K.lookup fe17 = some ⟨oce17, ode17, .func (PySem.W.fnOf "__init__" "NoLine.__init__" (defArgs s_eNoLine) (defBody s_eNoLine) (defScope s_eNoLine) .none kVe17 dce17 pme17 ane17 cde17 cte17), sle17⟩)
    (ce17 : PySem.W.codeIn K cde17 "NoLine.__init__" = true)
    (ke17 : PySem.W.keepIn K (.ref fe17) = true)
    (xBJ17 : K.lookup J17 = some (excClassObj nmJ17 q_J17 J17 N_J17 bsJ17 bmJ17 true snJ17 subJ17 abJ17 colJ17 ddJ17 m0J17 m1J17 m2J17 m3J17 m5J17 "ValueError.__new__"))
    (rBJ17 : PySem.HandSPX.refsVE bmJ17 = true)
    (saJ17 : PySem.W.findIn K (.ref J17) "__setattr__" = some (some (.builtin "object.__setattr__")))
    (exJ17 : PySem.W.subIn K (.ref J17) (.type "BaseException") = some true)
    (tyJ17 : PySem.W.typeIn K (.ref J17) = some (.type "type"))
    (kpJ17 : PySem.W.keepIn K (.ref J17) = true)
    (npJ17 : PySem.W.findIn K (.ref J17) "word" = some none)
    (tfJ17 : PySem.W.typeIn K (.ref fe17) = some (.type "function"))
    (cbX : clsB K CX [CX, CB, J1, J2, J3, J4, J5, J6, J7, J8, J9, J10, J11, J12, J13, J14, J15, J16, J17] [true, false, false, false, false, false, false, false, false, false, false, false, false, false, false, false, false, false, false] = true)
    (nxX : PySem.W.excIn K CX bmVE "ValueError.__new__" = true)
    (kpCX : PySem.W.keepIn K (.ref CX) = true)
    (z_VE : PySem.W.nsIn K mainGlobals "ValueError" = some none)
    (aL : PySem.W.nsIn K mainGlobals "law" = some (some (.ref fL)))
    (lL : K.lookup fL = some ⟨ocL, odL, .func (PySem.W.fnOf "law" "law" (defArgs s_law) (defBody s_law) (defScope s_law) .none kVL dcL pmL anL cdL ctL), slL⟩)
    (cL : PySem.W.codeIn K cdL "law" = true)
    (kL : PySem.W.keepIn K (.ref fL) = true) : LawEnd l w K 9 63 "_law_script" mg fa h := by
  have G := Tp.g
  have e := hfa.symm.trans (PySem.W.mg_of X G aL)
  cases e
  have FN := fun_mk (st := s_is_number) lN cN kN
  have bN := FN.binds (ps := ["value", "least", "most"]) fun _ _ _ _ _ _ us hl => match us, hl with | [_, _, _], _ => rfl
  have FRK := fun_mk (st := s_rank_of) lRK cRK kRK
  have bRK := FRK.binds (ps := ["kind", "number", "modulus", "rest", "leave"]) fun _ _ _ _ _ _ us hl => match us, hl with | [_, _, _, _, _], _ => rfl
  have FB := fun_mk (st := s_badI) lB cB kB
  have bB := FB.binds (ps := ["self", "part"]) fun _ _ _ _ _ _ us hl => match us, hl with | [_, _], _ => rfl
  have FRs := fun_mk (st := s_rested) lRs cRs kRs
  have bRs := FRs.binds (ps := ["self", "rest", "modulus"]) fun _ _ _ _ _ _ us hl => match us, hl with | [_, _, _], _ => rfl
  have FSz := fun_mk (st := s_sized) lSz cSz kSz
  have bSz := FSz.binds (ps := ["self", "size", "leave"]) fun _ _ _ _ _ _ us hl => match us, hl with | [_, _, _], _ => rfl
  have FEF := fun_mk (st := s_eqF) lEF cEF kEF
  have bEF := FEF.binds (ps := ["self", "other"]) fun _ _ _ _ _ _ us hl => match us, hl with | [_, _], _ => rfl
  have FPn := fun_mk (st := s_pen) lPn cPn kPn
  have bPn := FPn.binds (ps := ["_law_script"]) fun _ _ _ _ _ _ us hl => match us, hl with | [_], _ => rfl
  have FD := fun_mk (st := s_draw) lD cD kD
  have bD := FD.binds (ps := ["_law_pen_here", "_law_many"]) fun _ _ _ _ _ _ us hl => match us, hl with | [_, _], _ => rfl
  have FPk := fun_mk (st := s_pick) lPk cPk kPk
  have bPk := FPk.binds (ps := ["_law_pen_here", "_law_some"]) fun _ _ _ _ _ _ us hl => match us, hl with | [_, _], _ => rfl
  have FVa := fun_mk (st := s_value) lVa cVa kVa
  have bVa := FVa.binds (ps := ["_law_pen_here"]) fun _ _ _ _ _ _ us hl => match us, hl with | [_], _ => rfl
  have FOd := fun_mk (st := s_ordered) lOd cOd kOd
  have bOd := FOd.binds (ps := ["_law_first", "_law_second"]) fun _ _ _ _ _ _ us hl => match us, hl with | [_, _], _ => rfl
  have FNa := fun_mk (st := s_named) lNa cNa kNa
  have bNa := FNa.binds (ps := ["_law_first", "_law_second"]) fun _ _ _ _ _ _ us hl => match us, hl with | [_, _], _ => rfl
  have FFi := fun_mk (st := s_fields) lFi cFi kFi
  have bFi := FFi.binds (ps := ["_law_some"]) fun _ _ _ _ _ _ us hl => match us, hl with | [_], _ => rfl
  have FCl := fun_mk (st := s_classes) lCl cCl kCl
  have bCl := FCl.binds (ps := ["_law_error"]) fun _ _ _ _ _ _ us hl => match us, hl with | [_], _ => rfl
  have FSa := fun_mk (st := s_same) lSa cSa kSa
  have bSa := FSa.binds (ps := ["_law_one", "_law_other"]) fun _ _ _ _ _ _ us hl => match us, hl with | [_, _], _ => rfl
  have Fe1 := fun_mk (st := s_eBadBook) le1 ce1 ke1
  have be1 := Fe1.binds (ps := ["self", "at"]) fun _ _ _ _ _ _ us hl => match us, hl with | [_, _], _ => rfl
  have Fe2 := fun_mk (st := s_eBadSize) le2 ce2 ke2
  have be2 := Fe2.binds (ps := ["self", "value"]) fun _ _ _ _ _ _ us hl => match us, hl with | [_, _], _ => rfl
  have Fe3 := fun_mk (st := s_eBadTable) le3 ce3 ke3
  have be3 := Fe3.binds (ps := ["self", "part"]) fun _ _ _ _ _ _ us hl => match us, hl with | [_, _], _ => rfl
  have Fe4 := fun_mk (st := s_eBadSizes) le4 ce4 ke4
  have be4 := Fe4.binds (ps := ["self", "part"]) fun _ _ _ _ _ _ us hl => match us, hl with | [_, _], _ => rfl
  have Fe5 := fun_mk (st := s_eBadNumber) le5 ce5 ke5
  have be5 := Fe5.binds (ps := ["self", "value"]) fun _ _ _ _ _ _ us hl => match us, hl with | [_, _], _ => rfl
  have Fe6 := fun_mk (st := s_eNoTake) le6 ce6 ke6
  have be6 := Fe6.binds (ps := ["self", "number"]) fun _ _ _ _ _ _ us hl => match us, hl with | [_, _], _ => rfl
  have Fe7 := fun_mk (st := s_eNoPile) le7 ce7 ke7
  have be7 := Fe7.binds (ps := ["self", "index"]) fun _ _ _ _ _ _ us hl => match us, hl with | [_, _], _ => rfl
  have Fe8 := fun_mk (st := s_eNotFree) le8 ce8 ke8
  have be8 := Fe8.binds (ps := ["self", "rule"]) fun _ _ _ _ _ _ us hl => match us, hl with | [_, _], _ => rfl
  have Fe9 := fun_mk (st := s_eMeets) le9 ce9 ke9
  have be9 := Fe9.binds (ps := ["self", "heap", "left"]) fun _ _ _ _ _ _ us hl => match us, hl with | [_, _, _], _ => rfl
  have Fe10 := fun_mk (st := s_eNeeded) le10 ce10 ke10
  have be10 := Fe10.binds (ps := ["self", "rule"]) fun _ _ _ _ _ _ us hl => match us, hl with | [_, _], _ => rfl
  have Fe11 := fun_mk (st := s_eLacks) le11 ce11 ke11
  have be11 := Fe11.binds (ps := ["self", "heap", "worth"]) fun _ _ _ _ _ _ us hl => match us, hl with | [_, _, _], _ => rfl
  have Fe12 := fun_mk (st := s_eNotIn) le12 ce12 ke12
  have be12 := Fe12.binds (ps := ["self", "rule"]) fun _ _ _ _ _ _ us hl => match us, hl with | [_, _], _ => rfl
  have Fe14 := fun_mk (st := s_eBadLimit) le14 ce14 ke14
  have be14 := Fe14.binds (ps := ["self", "value"]) fun _ _ _ _ _ _ us hl => match us, hl with | [_, _], _ => rfl
  have Fe15 := fun_mk (st := s_eTooMany) le15 ce15 ke15
  have be15 := Fe15.binds (ps := ["self", "what", "most"]) fun _ _ _ _ _ _ us hl => match us, hl with | [_, _, _], _ => rfl
  have Fe16 := fun_mk (st := s_eBadText) le16 ce16 ke16
  have be16 := Fe16.binds (ps := ["self", "line", "word"]) fun _ _ _ _ _ _ us hl => match us, hl with | [_, _, _], _ => rfl
  have Fe17 := fun_mk (st := s_eNoLine) le17 ce17 ke17
  have be17 := Fe17.binds (ps := ["self", "word"]) fun _ _ _ _ _ _ us hl => match us, hl with | [_, _], _ => rfl
  have FL := fun_mk (st := s_law) lL cL kL
  have Fx : FunFixed K fFx _ := ⟨⟨_, _, _, _, _, _, _, _, _, _, rfl, lFx, cFx, .inr ⟨by simp, TdFx, _, [.int 0 tdFx0, .int 1 tdFx1, .int 0 tdFx2], ndFx, rfl, ldFx, rfl, (.cons ⟨tdFx0, rfl⟩ (.cons ⟨tdFx1, rfl⟩ (.cons ⟨tdFx2, rfl⟩ .nil)))⟩, .inl rfl⟩, kFx⟩
  have Dn : FunDown K fDn _ := ⟨⟨_, _, _, _, _, _, _, _, _, _, rfl, lDn, cDn, .inr ⟨by simp, TdDn, _, [.int 0 tdDn0, .int 1 tdDn1], ndDn, rfl, ldDn, rfl, (.cons ⟨tdDn0, rfl⟩ (.cons ⟨tdDn1, rfl⟩ .nil))⟩, .inl rfl⟩, kDn⟩
  have U : Blt mg := ⟨PySem.W.mg_none_of X G z_int, PySem.W.mg_none_of X G z_len, PySem.W.mg_none_of X G z_abs, PySem.W.mg_none_of X G z_list, PySem.W.mg_none_of X G z_range, PySem.W.mg_none_of X G z_isinstance, PySem.W.mg_none_of X G z_repr, PySem.W.mg_none_of X G z_bool, PySem.W.mg_none_of X G z_tuple, PySem.W.mg_none_of X G z_str, PySem.W.mg_none_of X G z_max, PySem.W.mg_none_of X G z_min, PySem.W.mg_none_of X G z_dict, PySem.W.mg_none_of X G z_set, PySem.W.mg_none_of X G z_sorted, PySem.W.mg_none_of X G z_sum, PySem.W.mg_none_of X G z_all, PySem.W.mg_none_of X G z_any, PySem.W.mg_none_of X G z_zip, PySem.W.mg_none_of X G z_enumerate, PySem.W.mg_none_of X G z_reversed⟩
  have T : PrgB K mg CRl CB fB := { g_Rule := (PySem.W.mg_of X G gRl), g_BadRule := (PySem.W.mg_of X G gB), rdRl := ⟨rdCRl, gaCRl⟩, most := ⟨_, m_CRl_MOST, ⟨t_CRl_MOST, rfl⟩⟩, mostM := ⟨_, m_CRl_MOST_MODULUS, ⟨t_CRl_MOST_MODULUS, rfl⟩⟩, oB := ⟨⟨_, _, _, _, _, _, _, _, _, _, _, _, _, _, _, xBCB, rBCB⟩, saCB, exCB, tyCB, kpCB⟩, nPart := npCB, iB := aB, tB := tfCB }
  have IF : InsC K CF := ⟨⟨pgCF, hdCF, poCF, saCF⟩, ntoCF, nsizeCF, nleaveCF, nrestCF, nmodulusCF, nstartCF, nrankCF⟩
  have ID : InsC K CD := ⟨⟨pgCD, hdCD, poCD, saCD⟩, ntoCD, nsizeCD, nleaveCD, nrestCD, nmodulusCD, nstartCD, nrankCD⟩
  have Ex : PrgE K mg CB CX := { g_FreeError := (PySem.W.mg_of X G gX), hit := (PySem.W.exm_ref exCX hdCX tyCX s_CB_CX), exc := ⟨gaCB, ggCB, exCB, hdCB, haCB, hn, htk, hmCB⟩, xf := ⟨gaCB, ggCB, exCB, hdCB⟩, same := kt_CB_CB }
  have MkF : Mk K CF fFx := ⟨mkCF, aFx, iFFx, kpCF⟩
  have MkD : Mk K CD fDn := ⟨mkCD, aDn, iFDn, kpCD⟩
  have BRs : BaseC K CRs fRs := ⟨⟨rdCRs, gaCRs⟩, aRs⟩
  have BSz : BaseC K CSz fSz := ⟨⟨rdCSz, gaCSz⟩, aSz⟩
  have cl0 := clsB_ok cb0
  have E0 : ErC K CB fB ["part"] := { oB := T.oB, iB := aB, tB := tfCB, nF := nf1 npCB }
  have cl1 := clsB_ok cb1
  have E1 : ErC K J1 fe1 ["at"] := { oB := ⟨⟨_, _, _, _, _, _, _, _, _, _, _, _, _, _, _, xBJ1, rBJ1⟩, saJ1, exJ1, tyJ1, kpJ1⟩, iB := ae1, tB := tfJ1, nF := nf1 npJ1 }
  have cl2 := clsB_ok cb2
  have E2 : ErC K J2 fe2 ["value"] := { oB := ⟨⟨_, _, _, _, _, _, _, _, _, _, _, _, _, _, _, xBJ2, rBJ2⟩, saJ2, exJ2, tyJ2, kpJ2⟩, iB := ae2, tB := tfJ2, nF := nf1 npJ2 }
  have cl3 := clsB_ok cb3
  have E3 : ErC K J3 fe3 ["part"] := { oB := ⟨⟨_, _, _, _, _, _, _, _, _, _, _, _, _, _, _, xBJ3, rBJ3⟩, saJ3, exJ3, tyJ3, kpJ3⟩, iB := ae3, tB := tfJ3, nF := nf1 npJ3 }
  have cl4 := clsB_ok cb4
  have E4 : ErC K J4 fe4 ["part"] := { oB := ⟨⟨_, _, _, _, _, _, _, _, _, _, _, _, _, _, _, xBJ4, rBJ4⟩, saJ4, exJ4, tyJ4, kpJ4⟩, iB := ae4, tB := tfJ4, nF := nf1 npJ4 }
  have cl5 := clsB_ok cb5
  have E5 : ErC K J5 fe5 ["value"] := { oB := ⟨⟨_, _, _, _, _, _, _, _, _, _, _, _, _, _, _, xBJ5, rBJ5⟩, saJ5, exJ5, tyJ5, kpJ5⟩, iB := ae5, tB := tfJ5, nF := nf1 npJ5 }
  have cl6 := clsB_ok cb6
  have E6 : ErC K J6 fe6 ["number"] := { oB := ⟨⟨_, _, _, _, _, _, _, _, _, _, _, _, _, _, _, xBJ6, rBJ6⟩, saJ6, exJ6, tyJ6, kpJ6⟩, iB := ae6, tB := tfJ6, nF := nf1 npJ6 }
  have cl7 := clsB_ok cb7
  have E7 : ErC K J7 fe7 ["index"] := { oB := ⟨⟨_, _, _, _, _, _, _, _, _, _, _, _, _, _, _, xBJ7, rBJ7⟩, saJ7, exJ7, tyJ7, kpJ7⟩, iB := ae7, tB := tfJ7, nF := nf1 npJ7 }
  have cl8 := clsB_ok cb8
  have E8 : ErC K J8 fe8 ["rule"] := { oB := ⟨⟨_, _, _, _, _, _, _, _, _, _, _, _, _, _, _, xBJ8, rBJ8⟩, saJ8, exJ8, tyJ8, kpJ8⟩, iB := ae8, tB := tfJ8, nF := nf1 npJ8 }
  have cl9 := clsB_ok cb9
  have E9 : ErC K J9 fe9 ["heap", "left"] := { oB := ⟨⟨_, _, _, _, _, _, _, _, _, _, _, _, _, _, _, xBJ9, rBJ9⟩, saJ9, exJ9, tyJ9, kpJ9⟩, iB := ae9, tB := tfJ9, nF := nf2 npJ9 nqJ9 }
  have cl10 := clsB_ok cb10
  have E10 : ErC K J10 fe10 ["rule"] := { oB := ⟨⟨_, _, _, _, _, _, _, _, _, _, _, _, _, _, _, xBJ10, rBJ10⟩, saJ10, exJ10, tyJ10, kpJ10⟩, iB := ae10, tB := tfJ10, nF := nf1 npJ10 }
  have cl11 := clsB_ok cb11
  have E11 : ErC K J11 fe11 ["heap", "worth"] := { oB := ⟨⟨_, _, _, _, _, _, _, _, _, _, _, _, _, _, _, xBJ11, rBJ11⟩, saJ11, exJ11, tyJ11, kpJ11⟩, iB := ae11, tB := tfJ11, nF := nf2 npJ11 nqJ11 }
  have cl12 := clsB_ok cb12
  have E12 : ErC K J12 fe12 ["rule"] := { oB := ⟨⟨_, _, _, _, _, _, _, _, _, _, _, _, _, _, _, xBJ12, rBJ12⟩, saJ12, exJ12, tyJ12, kpJ12⟩, iB := ae12, tB := tfJ12, nF := nf1 npJ12 }
  have cl13 := clsB_ok cb13
  have cl14 := clsB_ok cb14
  have E14 : ErC K J14 fe14 ["value"] := { oB := ⟨⟨_, _, _, _, _, _, _, _, _, _, _, _, _, _, _, xBJ14, rBJ14⟩, saJ14, exJ14, tyJ14, kpJ14⟩, iB := ae14, tB := tfJ14, nF := nf1 npJ14 }
  have cl15 := clsB_ok cb15
  have E15 : ErC K J15 fe15 ["what", "most"] := { oB := ⟨⟨_, _, _, _, _, _, _, _, _, _, _, _, _, _, _, xBJ15, rBJ15⟩, saJ15, exJ15, tyJ15, kpJ15⟩, iB := ae15, tB := tfJ15, nF := nf2 npJ15 nqJ15 }
  have cl16 := clsB_ok cb16
  have E16 : ErC K J16 fe16 ["line", "word"] := { oB := ⟨⟨_, _, _, _, _, _, _, _, _, _, _, _, _, _, _, xBJ16, rBJ16⟩, saJ16, exJ16, tyJ16, kpJ16⟩, iB := ae16, tB := tfJ16, nF := nf2 npJ16 nqJ16 }
  have cl17 := clsB_ok cb17
  have E17 : ErC K J17 fe17 ["word"] := { oB := ⟨⟨_, _, _, _, _, _, _, _, _, _, _, _, _, _, _, xBJ17, rBJ17⟩, saJ17, exJ17, tyJ17, kpJ17⟩, iB := ae17, tB := tfJ17, nF := nf1 npJ17 }
  have clX := clsB_ok cbX
  have CL : ClsS K CX CB J1 J2 J3 J4 J5 J6 J7 J8 J9 J10 J11 J12 J13 J14 J15 J16 J17 := by
    refine ⟨fun i C e => ?_, clX.1, (kits_of (b := fun _ => false) clX.2.2.2).2, clX.2.2.1⟩
    match i, e with
    | 0, e => cases e; exact ⟨cl0.1, (kits_of (b := fun j => decide (j = 0)) cl0.2.2.2).2, (kits_of (b := fun j => decide (j = 0)) cl0.2.2.2).1, cl0.2.2.1⟩
    | 1, e => cases e; exact ⟨cl1.1, (kits_of (b := fun j => decide (j = 1)) cl1.2.2.2).2, (kits_of (b := fun j => decide (j = 1)) cl1.2.2.2).1, cl1.2.2.1⟩
    | 2, e => cases e; exact ⟨cl2.1, (kits_of (b := fun j => decide (j = 2)) cl2.2.2.2).2, (kits_of (b := fun j => decide (j = 2)) cl2.2.2.2).1, cl2.2.2.1⟩
    | 3, e => cases e; exact ⟨cl3.1, (kits_of (b := fun j => decide (j = 3)) cl3.2.2.2).2, (kits_of (b := fun j => decide (j = 3)) cl3.2.2.2).1, cl3.2.2.1⟩
    | 4, e => cases e; exact ⟨cl4.1, (kits_of (b := fun j => decide (j = 4)) cl4.2.2.2).2, (kits_of (b := fun j => decide (j = 4)) cl4.2.2.2).1, cl4.2.2.1⟩
    | 5, e => cases e; exact ⟨cl5.1, (kits_of (b := fun j => decide (j = 5)) cl5.2.2.2).2, (kits_of (b := fun j => decide (j = 5)) cl5.2.2.2).1, cl5.2.2.1⟩
    | 6, e => cases e; exact ⟨cl6.1, (kits_of (b := fun j => decide (j = 6)) cl6.2.2.2).2, (kits_of (b := fun j => decide (j = 6)) cl6.2.2.2).1, cl6.2.2.1⟩
    | 7, e => cases e; exact ⟨cl7.1, (kits_of (b := fun j => decide (j = 7)) cl7.2.2.2).2, (kits_of (b := fun j => decide (j = 7)) cl7.2.2.2).1, cl7.2.2.1⟩
    | 8, e => cases e; exact ⟨cl8.1, (kits_of (b := fun j => decide (j = 8)) cl8.2.2.2).2, (kits_of (b := fun j => decide (j = 8)) cl8.2.2.2).1, cl8.2.2.1⟩
    | 9, e => cases e; exact ⟨cl9.1, (kits_of (b := fun j => decide (j = 9)) cl9.2.2.2).2, (kits_of (b := fun j => decide (j = 9)) cl9.2.2.2).1, cl9.2.2.1⟩
    | 10, e => cases e; exact ⟨cl10.1, (kits_of (b := fun j => decide (j = 10)) cl10.2.2.2).2, (kits_of (b := fun j => decide (j = 10)) cl10.2.2.2).1, cl10.2.2.1⟩
    | 11, e => cases e; exact ⟨cl11.1, (kits_of (b := fun j => decide (j = 11)) cl11.2.2.2).2, (kits_of (b := fun j => decide (j = 11)) cl11.2.2.2).1, cl11.2.2.1⟩
    | 12, e => cases e; exact ⟨cl12.1, (kits_of (b := fun j => decide (j = 12)) cl12.2.2.2).2, (kits_of (b := fun j => decide (j = 12)) cl12.2.2.2).1, cl12.2.2.1⟩
    | 13, e => cases e; exact ⟨cl13.1, (kits_of (b := fun j => decide (j = 13)) cl13.2.2.2).2, (kits_of (b := fun j => decide (j = 13)) cl13.2.2.2).1, cl13.2.2.1⟩
    | 14, e => cases e; exact ⟨cl14.1, (kits_of (b := fun j => decide (j = 14)) cl14.2.2.2).2, (kits_of (b := fun j => decide (j = 14)) cl14.2.2.2).1, cl14.2.2.1⟩
    | 15, e => cases e; exact ⟨cl15.1, (kits_of (b := fun j => decide (j = 15)) cl15.2.2.2).2, (kits_of (b := fun j => decide (j = 15)) cl15.2.2.2).1, cl15.2.2.1⟩
    | 16, e => cases e; exact ⟨cl16.1, (kits_of (b := fun j => decide (j = 16)) cl16.2.2.2).2, (kits_of (b := fun j => decide (j = 16)) cl16.2.2.2).1, cl16.2.2.1⟩
    | 17, e => cases e; exact ⟨cl17.1, (kits_of (b := fun j => decide (j = 17)) cl17.2.2.2).2, (kits_of (b := fun j => decide (j = 17)) cl17.2.2.2).1, cl17.2.2.1⟩
    | n + 18, e => cases e
  obtain ⟨ds2, v_two, b_two⟩ := bf_three Fx

  refine ⟨PySem.W.fnOf "law" "law" (defArgs s_law) (defBody s_law) (defScope s_law) .none kVL dcL pmL anL cdL ctL, [], spLawE K, fun q hq => ?_, fun s u => .of_eq rfl, fun H a ns few _ tabs sq => ⟨a, ns, rfl, sq, few, fun _ => rfl⟩, fun base KX _ tb => ?_⟩
  · cases hq
  · skip

    have G_fixed : FnOk l.prog w K mg base (L2.CX l.prog w) 5 fFx _ pFx (spFixed CB CF) := ok_fixed Fx U T IF FN (PySem.W.mg_of X G aN) bN FB bB FRs bRs (PySem.W.mg_of X G gRs) BRs FRK (PySem.W.mg_of X G aRK) bRK FSz bSz (PySem.W.mg_of X G gSz) BSz
    have G_down : FnOk l.prog w K mg base (L2.CX l.prog w) 5 fDn _ ["self", "to", "rest", "modulus"] (spDown CB CD) := ok_down Dn U T ID FN (PySem.W.mg_of X G aN) bN FB bB FRs bRs (PySem.W.mg_of X G gRs) BRs FRK (PySem.W.mg_of X G aRK) bRK
    have G_eqF : FnOk l.prog w K mg base CX0 1 fEF _ ["self", "other"] (spEqR K CF) := ok_eqF FEF U (PySem.W.mg_of X G gF) IF ⟨haCF, hn, htk, hmCF⟩ kt_CF_CF
    have G_value : FnOk l.prog w K mg base CX0 7 fVa _ ["_law_pen_here"] (spValue K CF) := ok_value FVa U FD (PySem.W.mg_of X G aD) bD FPk (PySem.W.mg_of X G aPk) bPk MkF G_fixed (PySem.W.mg_of X G gF) b_two v_two
    have G_same : FnG l.prog w K mg base CX0 3 fSa _ ["_law_one", "_law_other"] (spSame K CF) := ok_same FSa U IF ⟨haCF, hn, htk, hmCF⟩ tyCF kt_CF_CF (PySem.W.mg_of X G gF) aEF iFEF G_eqF bEF
    have G_ordered : FnOk l.prog w K mg base CX0 3 fOd _ ["_law_first", "_law_second"] (spMade CB J1 J2 J3 J4 J5 J6 J7 J8 J9 J10 J11 J12 J13 J14 J15 J16 J17) := ok_ordered FOd E0 FB (PySem.W.mg_of X G gB) bB E1 Fe1 (PySem.W.mg_of X G g1) be1 E2 Fe2 (PySem.W.mg_of X G g2) be2 E3 Fe3 (PySem.W.mg_of X G g3) be3 E4 Fe4 (PySem.W.mg_of X G g4) be4 E5 Fe5 (PySem.W.mg_of X G g5) be5 E6 Fe6 (PySem.W.mg_of X G g6) be6 E7 Fe7 (PySem.W.mg_of X G g7) be7 E8 Fe8 (PySem.W.mg_of X G g8) be8 E9 Fe9 (PySem.W.mg_of X G g9) be9 E10 Fe10 (PySem.W.mg_of X G g10) be10 E11 Fe11 (PySem.W.mg_of X G g11) be11 E12 Fe12 (PySem.W.mg_of X G g12) be12 nx13 (PySem.W.mg_of X G g13) kpJ13 E14 Fe14 (PySem.W.mg_of X G g14) be14 E15 Fe15 (PySem.W.mg_of X G g15) be15 E16 Fe16 (PySem.W.mg_of X G g16) be16 E17 Fe17 (PySem.W.mg_of X G g17) be17
    have G_named : FnOk l.prog w K mg base CX0 3 fNa _ ["_law_first", "_law_second"] (spMade CB J1 J2 J3 J4 J5 J6 J7 J8 J9 J10 J11 J12 J13 J14 J15 J16 J17) := ok_named FNa E0 FB (PySem.W.mg_of X G gB) bB E1 Fe1 (PySem.W.mg_of X G g1) be1 E2 Fe2 (PySem.W.mg_of X G g2) be2 E3 Fe3 (PySem.W.mg_of X G g3) be3 E4 Fe4 (PySem.W.mg_of X G g4) be4 E5 Fe5 (PySem.W.mg_of X G g5) be5 E6 Fe6 (PySem.W.mg_of X G g6) be6 E7 Fe7 (PySem.W.mg_of X G g7) be7 E8 Fe8 (PySem.W.mg_of X G g8) be8 E9 Fe9 (PySem.W.mg_of X G g9) be9 E10 Fe10 (PySem.W.mg_of X G g10) be10 E11 Fe11 (PySem.W.mg_of X G g11) be11 E12 Fe12 (PySem.W.mg_of X G g12) be12 nx13 (PySem.W.mg_of X G g13) kpJ13 E14 Fe14 (PySem.W.mg_of X G g14) be14 E15 Fe15 (PySem.W.mg_of X G g15) be15 E16 Fe16 (PySem.W.mg_of X G g16) be16 E17 Fe17 (PySem.W.mg_of X G g17) be17 (kb0 FB) (kb1 Fe1) (kb2 Fe2) (kb3 Fe3) (kb4 Fe4) (kb5 Fe5) (kb6 Fe6) (kb7 Fe7) (kb8 Fe8) (kb9 Fe9) (kb10 Fe10) (kb11 Fe11) (kb12 Fe12) (kb14 Fe14) (kb15 Fe15) (kb16 Fe16) (kb17 Fe17)
    have G_fields : FnOk l.prog w K mg base CX0 1 fFi _ ["_law_some"] (spFields CB J1 J2 J3 J4 J5 J6 J7 J8 J9 J10 J11 J12 J13 J14 J15 J16 J17) := ok_fields FFi E0 cl0.2.1 E1 cl1.2.1 E2 cl2.2.1 E3 cl3.2.1 E4 cl4.2.1 E5 cl5.2.1 E6 cl6.2.1 E7 cl7.2.1 E8 cl8.2.1 E9 cl9.2.1 E10 cl10.2.1 E11 cl11.2.1 E12 cl12.2.1 E14 cl14.2.1 E15 cl15.2.1 E16 cl16.2.1 E17 cl17.2.1
    have G_classes : FnOk l.prog w K mg base CX0 1 fCl _ ["_law_error"] (spClasses K CB J1 J2 J3 J4 J5 J6 J7 J8 J9 J10 J11 J12 J13 J14 J15 J16 J17) := ok_classes FCl U (PySem.W.mg_of X G gB) (PySem.W.mg_of X G g1) (PySem.W.mg_of X G g2) (PySem.W.mg_of X G g3) (PySem.W.mg_of X G g4) (PySem.W.mg_of X G g5) (PySem.W.mg_of X G g6) (PySem.W.mg_of X G g7) (PySem.W.mg_of X G g8) (PySem.W.mg_of X G g9) (PySem.W.mg_of X G g10) (PySem.W.mg_of X G g11) (PySem.W.mg_of X G g12) (PySem.W.mg_of X G g13) (PySem.W.mg_of X G g14) (PySem.W.mg_of X G g15) (PySem.W.mg_of X G g16) (PySem.W.mg_of X G g17)
    exact ok_law FL U (PySem.W.mg_none_of X G z_VE) (PySem.W.mg_of X G gX) nxX kpCX CL FPn (PySem.W.mg_of X G aPn) bPn FVa (PySem.W.mg_of X G aVa) bVa FOd (PySem.W.mg_of X G aOd) bOd FNa (PySem.W.mg_of X G aNa) bNa FFi (PySem.W.mg_of X G aFi) bFi FCl (PySem.W.mg_of X G aCl) bCl FSa (PySem.W.mg_of X G aSa) bSa G_value G_ordered G_named G_fields G_classes G_same
end Fz
open PySem PySem.W PyProof.Rows in
set_option maxRecDepth 100000 in
set_option maxHeartbeats 0 in
theorem PySem.Challenge.cw_freetakes_k01_errors_and_their_fields_holds : PySem.Challenge.rw_freetakes_k01_errors_and_their_fields.Holds := by
  w_on; o_law; k_head; (case hw => w_witness2)
  k_fill
  refine Fz.walk_fz (l := PySem.Challenge.rw_freetakes_k01_errors_and_their_fields) (n := 63) (k := 9) (x := "_law_script") rfl (by decide) rfl ⟨rfl, by decide, by decide⟩ (fun w h Y => PySem.W.kIn_of Y) ?F
  case F =>
    intro w mg mb fa h lo mean KX Tp hmg
    refine' Fz.all_mk KX Tp hmg  ?gRl ?gRs ?gF ?gDn ?gSz ?gB ?gX ?aN ?lN ?cN ?kN ?aRK ?lRK ?cRK ?kRK ?aB ?lB ?cB ?kB ?aRs ?lRs ?cRs ?kRs ?aSz ?lSz ?cSz ?kSz ?aFx ?lFx ?cFx ?kFx ?aDn ?lDn ?cDn ?kDn ?ldFx ?ldDn ?rdCRl ?gaCRl ?rdCRs ?gaCRs ?rdCSz ?gaCSz ?pgCF ?hdCF ?poCF ?saCF ?ntoCF ?nsizeCF ?nleaveCF ?nrestCF ?nmodulusCF ?nstartCF ?nrankCF ?pgCD ?hdCD ?poCD ?saCD ?ntoCD ?nsizeCD ?nleaveCD ?nrestCD ?nmodulusCD ?nstartCD ?nrankCD ?haCF ?hn ?htk ?hmCF ?haCD ?hmCD ?mkCF ?kpCF ?iFFx ?mkCD ?kpCD ?iFDn ?m_CRl_MOST ?m_CRl_MOST_MODULUS ?xBCB ?rBCB ?saCB ?exCB ?tyCB ?kpCB ?npCB ?tfCB ?gaCB ?ggCB ?hdCB ?haCB ?hmCB ?exCX ?hdCX ?tyCX ?s_CB_CX ?kt_CB_CB ?z_int ?z_len ?z_abs ?z_list ?z_range ?z_isinstance ?z_repr ?z_bool ?z_tuple ?z_str ?z_max ?z_min ?z_dict ?z_set ?z_sorted ?z_sum ?z_all ?z_any ?z_zip ?z_enumerate ?z_reversed ?aEF ?lEF ?cEF ?kEF ?iFEF ?tyCF ?kt_CF_CF ?aPn ?lPn ?cPn ?kPn ?aD ?lD ?cD ?kD ?aPk ?lPk ?cPk ?kPk ?aVa ?lVa ?cVa ?kVa ?aOd ?lOd ?cOd ?kOd ?aNa ?lNa ?cNa ?kNa ?aFi ?lFi ?cFi ?kFi ?aCl ?lCl ?cCl ?kCl ?aSa ?lSa ?cSa ?kSa ?cb0 ?g1 ?cb1 ?ae1 ?le1 ?ce1 ?ke1 ?xBJ1 ?rBJ1 ?saJ1 ?exJ1 ?tyJ1 ?kpJ1 ?npJ1 ?tfJ1 ?g2 ?cb2 ?ae2 ?le2 ?ce2 ?ke2 ?xBJ2 ?rBJ2 ?saJ2 ?exJ2 ?tyJ2 ?kpJ2 ?npJ2 ?tfJ2 ?g3 ?cb3 ?ae3 ?le3 ?ce3 ?ke3 ?xBJ3 ?rBJ3 ?saJ3 ?exJ3 ?tyJ3 ?kpJ3 ?npJ3 ?tfJ3 ?g4 ?cb4 ?ae4 ?le4 ?ce4 ?ke4 ?xBJ4 ?rBJ4 ?saJ4 ?exJ4 ?tyJ4 ?kpJ4 ?npJ4 ?tfJ4 ?g5 ?cb5 ?ae5 ?le5 ?ce5 ?ke5 ?xBJ5 ?rBJ5 ?saJ5 ?exJ5 ?tyJ5 ?kpJ5 ?npJ5 ?tfJ5 ?g6 ?cb6 ?ae6 ?le6 ?ce6 ?ke6 ?xBJ6 ?rBJ6 ?saJ6 ?exJ6 ?tyJ6 ?kpJ6 ?npJ6 ?tfJ6 ?g7 ?cb7 ?ae7 ?le7 ?ce7 ?ke7 ?xBJ7 ?rBJ7 ?saJ7 ?exJ7 ?tyJ7 ?kpJ7 ?npJ7 ?tfJ7 ?g8 ?cb8 ?ae8 ?le8 ?ce8 ?ke8 ?xBJ8 ?rBJ8 ?saJ8 ?exJ8 ?tyJ8 ?kpJ8 ?npJ8 ?tfJ8 ?g9 ?cb9 ?ae9 ?le9 ?ce9 ?ke9 ?xBJ9 ?rBJ9 ?saJ9 ?exJ9 ?tyJ9 ?kpJ9 ?npJ9 ?tfJ9 ?nqJ9 ?g10 ?cb10 ?ae10 ?le10 ?ce10 ?ke10 ?xBJ10 ?rBJ10 ?saJ10 ?exJ10 ?tyJ10 ?kpJ10 ?npJ10 ?tfJ10 ?g11 ?cb11 ?ae11 ?le11 ?ce11 ?ke11 ?xBJ11 ?rBJ11 ?saJ11 ?exJ11 ?tyJ11 ?kpJ11 ?npJ11 ?tfJ11 ?nqJ11 ?g12 ?cb12 ?ae12 ?le12 ?ce12 ?ke12 ?xBJ12 ?rBJ12 ?saJ12 ?exJ12 ?tyJ12 ?kpJ12 ?npJ12 ?tfJ12 ?g13 ?cb13 ?nx13 ?kpJ13 ?g14 ?cb14 ?ae14 ?le14 ?ce14 ?ke14 ?xBJ14 ?rBJ14 ?saJ14 ?exJ14 ?tyJ14 ?kpJ14 ?npJ14 ?tfJ14 ?g15 ?cb15 ?ae15 ?le15 ?ce15 ?ke15 ?xBJ15 ?rBJ15 ?saJ15 ?exJ15 ?tyJ15 ?kpJ15 ?npJ15 ?tfJ15 ?nqJ15 ?g16 ?cb16 ?ae16 ?le16 ?ce16 ?ke16 ?xBJ16 ?rBJ16 ?saJ16 ?exJ16 ?tyJ16 ?kpJ16 ?npJ16 ?tfJ16 ?nqJ16 ?g17 ?cb17 ?ae17 ?le17 ?ce17 ?ke17 ?xBJ17 ?rBJ17 ?saJ17 ?exJ17 ?tyJ17 ?kpJ17 ?npJ17 ?tfJ17 ?cbX ?nxX ?kpCX ?z_VE ?aL ?lL ?cL ?kL

    (case gRl => k_is)
    (case gRs => k_is)
    (case gF => k_is)
    (case gDn => k_is)
    (case gSz => k_is)
    (case gB => k_is)
    (case gX => k_is)
    (case aN => k_is)
    (case lN => k_is)
    (case cN => k_is)
    (case kN => k_is)
    (case aRK => k_is)
    (case lRK => k_is)
    (case cRK => k_is)
    (case kRK => k_is)
    (case aB => k_is)
    (case lB => k_is)
    (case cB => k_is)
    (case kB => k_is)
    (case aRs => k_is)
    (case lRs => k_is)
    (case cRs => k_is)
    (case kRs => k_is)
    (case aSz => k_is)
    (case lSz => k_is)
    (case cSz => k_is)
    (case kSz => k_is)
    (case aFx => k_is)
    (case lFx => k_is)
    (case cFx => k_is)
    (case kFx => k_is)
    (case aDn => k_is)
    (case lDn => k_is)
    (case cDn => k_is)
    (case kDn => k_is)
    (case ldFx => k_is)
    (case ldDn => k_is)
    (case rdCRl => k_is)
    (case gaCRl => k_is)
    (case rdCRs => k_is)
    (case gaCRs => k_is)
    (case rdCSz => k_is)
    (case gaCSz => k_is)
    (case pgCF => k_is)
    (case hdCF => k_is)
    (case poCF => k_is)
    (case saCF => k_is)
    (case ntoCF => k_is)
    (case nsizeCF => k_is)
    (case nleaveCF => k_is)
    (case nrestCF => k_is)
    (case nmodulusCF => k_is)
    (case nstartCF => k_is)
    (case nrankCF => k_is)
    (case pgCD => k_is)
    (case hdCD => k_is)
    (case poCD => k_is)
    (case saCD => k_is)
    (case ntoCD => k_is)
    (case nsizeCD => k_is)
    (case nleaveCD => k_is)
    (case nrestCD => k_is)
    (case nmodulusCD => k_is)
    (case nstartCD => k_is)
    (case nrankCD => k_is)
    (case haCF => k_is)
    (case hn => k_is)
    (case htk => k_is)
    (case hmCF => k_is)
    (case haCD => k_is)
    (case hmCD => k_is)
    (case mkCF => k_is)
    (case kpCF => k_is)
    (case iFFx => k_is)
    (case mkCD => k_is)
    (case kpCD => k_is)
    (case iFDn => k_is)
    (case m_CRl_MOST => k_is)
    (case m_CRl_MOST_MODULUS => k_is)
    (case xBCB => k_is)
    (case rBCB => first | rfl | decide +kernel)
    (case saCB => k_is)
    (case exCB => k_is)
    (case tyCB => k_is)
    (case kpCB => k_is)
    (case npCB => k_is)
    (case tfCB => k_is)
    (case gaCB => k_is)
    (case ggCB => k_is)
    (case hdCB => k_is)
    (case haCB => k_is)
    (case hmCB => k_is)
    (case exCX => k_is)
    (case hdCX => k_is)
    (case tyCX => k_is)
    (case s_CB_CX => k_is)
    (case kt_CB_CB => kit_is)
    (case z_int => k_is)
    (case z_len => k_is)
    (case z_abs => k_is)
    (case z_list => k_is)
    (case z_range => k_is)
    (case z_isinstance => k_is)
    (case z_repr => k_is)
    (case z_bool => k_is)
    (case z_tuple => k_is)
    (case z_str => k_is)
    (case z_max => k_is)
    (case z_min => k_is)
    (case z_dict => k_is)
    (case z_set => k_is)
    (case z_sorted => k_is)
    (case z_sum => k_is)
    (case z_all => k_is)
    (case z_any => k_is)
    (case z_zip => k_is)
    (case z_enumerate => k_is)
    (case z_reversed => k_is)
    (case aEF => k_is)
    (case lEF => k_is)
    (case cEF => k_is)
    (case kEF => k_is)
    (case iFEF => k_is)
    (case tyCF => k_is)
    (case kt_CF_CF => kit_is)
    (case aPn => k_is)
    (case lPn => k_is)
    (case cPn => k_is)
    (case kPn => k_is)
    (case aD => k_is)
    (case lD => k_is)
    (case cD => k_is)
    (case kD => k_is)
    (case aPk => k_is)
    (case lPk => k_is)
    (case cPk => k_is)
    (case kPk => k_is)
    (case aVa => k_is)
    (case lVa => k_is)
    (case cVa => k_is)
    (case kVa => k_is)
    (case aOd => k_is)
    (case lOd => k_is)
    (case cOd => k_is)
    (case kOd => k_is)
    (case aNa => k_is)
    (case lNa => k_is)
    (case cNa => k_is)
    (case kNa => k_is)
    (case aFi => k_is)
    (case lFi => k_is)
    (case cFi => k_is)
    (case kFi => k_is)
    (case aCl => k_is)
    (case lCl => k_is)
    (case cCl => k_is)
    (case kCl => k_is)
    (case aSa => k_is)
    (case lSa => k_is)
    (case cSa => k_is)
    (case kSa => k_is)
    (case cb0 => first | rfl | kernel_rfl | decide +kernel)
    (case g1 => k_is)
    (case cb1 => first | rfl | kernel_rfl | decide +kernel)
    (case ae1 => k_is)
    (case le1 => k_is)
    (case ce1 => k_is)
    (case ke1 => k_is)
    (case xBJ1 => k_is)
    (case rBJ1 => first | rfl | decide +kernel)
    (case saJ1 => k_is)
    (case exJ1 => k_is)
    (case tyJ1 => k_is)
    (case kpJ1 => k_is)
    (case npJ1 => k_is)
    (case tfJ1 => k_is)
    (case g2 => k_is)
    (case cb2 => first | rfl | kernel_rfl | decide +kernel)
    (case ae2 => k_is)
    (case le2 => k_is)
    (case ce2 => k_is)
    (case ke2 => k_is)
    (case xBJ2 => k_is)
    (case rBJ2 => first | rfl | decide +kernel)
    (case saJ2 => k_is)
    (case exJ2 => k_is)
    (case tyJ2 => k_is)
    (case kpJ2 => k_is)
    (case npJ2 => k_is)
    (case tfJ2 => k_is)
    (case g3 => k_is)
    (case cb3 => first | rfl | kernel_rfl | decide +kernel)
    (case ae3 => k_is)
    (case le3 => k_is)
    (case ce3 => k_is)
    (case ke3 => k_is)
    (case xBJ3 => k_is)
    (case rBJ3 => first | rfl | decide +kernel)
    (case saJ3 => k_is)
    (case exJ3 => k_is)
    (case tyJ3 => k_is)
    (case kpJ3 => k_is)
    (case npJ3 => k_is)
    (case tfJ3 => k_is)
    (case g4 => k_is)
    (case cb4 => first | rfl | kernel_rfl | decide +kernel)
    (case ae4 => k_is)
    (case le4 => k_is)
    (case ce4 => k_is)
    (case ke4 => k_is)
    (case xBJ4 => k_is)
    (case rBJ4 => first | rfl | decide +kernel)
    (case saJ4 => k_is)
    (case exJ4 => k_is)
    (case tyJ4 => k_is)
    (case kpJ4 => k_is)
    (case npJ4 => k_is)
    (case tfJ4 => k_is)
    (case g5 => k_is)
    (case cb5 => first | rfl | kernel_rfl | decide +kernel)
    (case ae5 => k_is)
    (case le5 => k_is)
    (case ce5 => k_is)
    (case ke5 => k_is)
    (case xBJ5 => k_is)
    (case rBJ5 => first | rfl | decide +kernel)
    (case saJ5 => k_is)
    (case exJ5 => k_is)
    (case tyJ5 => k_is)
    (case kpJ5 => k_is)
    (case npJ5 => k_is)
    (case tfJ5 => k_is)
    (case g6 => k_is)
    (case cb6 => first | rfl | kernel_rfl | decide +kernel)
    (case ae6 => k_is)
    (case le6 => k_is)
    (case ce6 => k_is)
    (case ke6 => k_is)
    (case xBJ6 => k_is)
    (case rBJ6 => first | rfl | decide +kernel)
    (case saJ6 => k_is)
    (case exJ6 => k_is)
    (case tyJ6 => k_is)
    (case kpJ6 => k_is)
    (case npJ6 => k_is)
    (case tfJ6 => k_is)
    (case g7 => k_is)
    (case cb7 => first | rfl | kernel_rfl | decide +kernel)
    (case ae7 => k_is)
    (case le7 => k_is)
    (case ce7 => k_is)
    (case ke7 => k_is)
    (case xBJ7 => k_is)
    (case rBJ7 => first | rfl | decide +kernel)
    (case saJ7 => k_is)
    (case exJ7 => k_is)
    (case tyJ7 => k_is)
    (case kpJ7 => k_is)
    (case npJ7 => k_is)
    (case tfJ7 => k_is)
    (case g8 => k_is)
    (case cb8 => first | rfl | kernel_rfl | decide +kernel)
    (case ae8 => k_is)
    (case le8 => k_is)
    (case ce8 => k_is)
    (case ke8 => k_is)
    (case xBJ8 => k_is)
    (case rBJ8 => first | rfl | decide +kernel)
    (case saJ8 => k_is)
    (case exJ8 => k_is)
    (case tyJ8 => k_is)
    (case kpJ8 => k_is)
    (case npJ8 => k_is)
    (case tfJ8 => k_is)
    (case g9 => k_is)
    (case cb9 => first | rfl | kernel_rfl | decide +kernel)
    (case ae9 => k_is)
    (case le9 => k_is)
    (case ce9 => k_is)
    (case ke9 => k_is)
    (case xBJ9 => k_is)
    (case rBJ9 => first | rfl | decide +kernel)
    (case saJ9 => k_is)
    (case exJ9 => k_is)
    (case tyJ9 => k_is)
    (case kpJ9 => k_is)
    (case npJ9 => k_is)
    (case tfJ9 => k_is)
    (case nqJ9 => k_is)
    (case g10 => k_is)
    (case cb10 => first | rfl | kernel_rfl | decide +kernel)
    (case ae10 => k_is)
    (case le10 => k_is)
    (case ce10 => k_is)
    (case ke10 => k_is)
    (case xBJ10 => k_is)
    (case rBJ10 => first | rfl | decide +kernel)
    (case saJ10 => k_is)
    (case exJ10 => k_is)
    (case tyJ10 => k_is)
    (case kpJ10 => k_is)
    (case npJ10 => k_is)
    (case tfJ10 => k_is)
    (case g11 => k_is)
    (case cb11 => first | rfl | kernel_rfl | decide +kernel)
    (case ae11 => k_is)
    (case le11 => k_is)
    (case ce11 => k_is)
    (case ke11 => k_is)
    (case xBJ11 => k_is)
    (case rBJ11 => first | rfl | decide +kernel)
    (case saJ11 => k_is)
    (case exJ11 => k_is)
    (case tyJ11 => k_is)
    (case kpJ11 => k_is)
    (case npJ11 => k_is)
    (case tfJ11 => k_is)
    (case nqJ11 => k_is)
    (case g12 => k_is)
    (case cb12 => first | rfl | kernel_rfl | decide +kernel)
    (case ae12 => k_is)
    (case le12 => k_is)
    (case ce12 => k_is)
    (case ke12 => k_is)
    (case xBJ12 => k_is)
    (case rBJ12 => first | rfl | decide +kernel)
    (case saJ12 => k_is)
    (case exJ12 => k_is)
    (case tyJ12 => k_is)
    (case kpJ12 => k_is)
    (case npJ12 => k_is)
    (case tfJ12 => k_is)
    (case g13 => k_is)
    (case cb13 => first | rfl | kernel_rfl | decide +kernel)
    (case nx13 => first | rfl | kernel_rfl | decide +kernel)
    (case kpJ13 => k_is)
    (case g14 => k_is)
    (case cb14 => first | rfl | kernel_rfl | decide +kernel)
    (case ae14 => k_is)
    (case le14 => k_is)
    (case ce14 => k_is)
    (case ke14 => k_is)
    (case xBJ14 => k_is)
    (case rBJ14 => first | rfl | decide +kernel)
    (case saJ14 => k_is)
    (case exJ14 => k_is)
    (case tyJ14 => k_is)
    (case kpJ14 => k_is)
    (case npJ14 => k_is)
    (case tfJ14 => k_is)
    (case g15 => k_is)
    (case cb15 => first | rfl | kernel_rfl | decide +kernel)
    (case ae15 => k_is)
    (case le15 => k_is)
    (case ce15 => k_is)
    (case ke15 => k_is)
    (case xBJ15 => k_is)
    (case rBJ15 => first | rfl | decide +kernel)
    (case saJ15 => k_is)
    (case exJ15 => k_is)
    (case tyJ15 => k_is)
    (case kpJ15 => k_is)
    (case npJ15 => k_is)
    (case tfJ15 => k_is)
    (case nqJ15 => k_is)
    (case g16 => k_is)
    (case cb16 => first | rfl | kernel_rfl | decide +kernel)
    (case ae16 => k_is)
    (case le16 => k_is)
    (case ce16 => k_is)
    (case ke16 => k_is)
    (case xBJ16 => k_is)
    (case rBJ16 => first | rfl | decide +kernel)
    (case saJ16 => k_is)
    (case exJ16 => k_is)
    (case tyJ16 => k_is)
    (case kpJ16 => k_is)
    (case npJ16 => k_is)
    (case tfJ16 => k_is)
    (case nqJ16 => k_is)
    (case g17 => k_is)
    (case cb17 => first | rfl | kernel_rfl | decide +kernel)
    (case ae17 => k_is)
    (case le17 => k_is)
    (case ce17 => k_is)
    (case ke17 => k_is)
    (case xBJ17 => k_is)
    (case rBJ17 => first | rfl | decide +kernel)
    (case saJ17 => k_is)
    (case exJ17 => k_is)
    (case tyJ17 => k_is)
    (case kpJ17 => k_is)
    (case npJ17 => k_is)
    (case tfJ17 => k_is)
    (case cbX => first | rfl | kernel_rfl | decide +kernel)
    (case nxX => first | rfl | kernel_rfl | decide +kernel)
    (case kpCX => k_is)
    (case z_VE => k_is)
    (case aL => k_is)
    (case lL => k_is)
    (case cL => k_is)
    (case kL => k_is)
#print axioms PySem.Challenge.cw_freetakes_k01_errors_and_their_fields_holds
